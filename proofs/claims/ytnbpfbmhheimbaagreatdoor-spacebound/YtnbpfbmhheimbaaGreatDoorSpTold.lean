/- What callers are told. -/
import Derived.Test.YtnbpfbmhheimbaaGreatDoorSpAs
namespace Go.Proofs.YtnbpfbmhheimbaaGreatDoor.Sp
open Go.RowKit Go.Shelf

/-- errors.errorType's cell. -/
def ErrT (w : World) : Prop := w.cell? ⟨0, 0, none⟩ = some (.iface 156 (.agg #[.pointer (some ⟨5, 59, none⟩)]))
theorem ErrT.more {A B : World} (h : ErrT A) (k : Below A.heap.size A B) : ErrT B := (k.cell (p := ⟨0, 0, none⟩) (World.block_lt_of_cell? A _ h)).trans h
/-- A fault, and one with a name. -/
def flt (k : Int) (s : ByteArray) : Value := .iface 95 (.agg #[.int .i64 k, .string s])
def abt (nm : ByteArray) (k : Int) (s : ByteArray) : Value := .iface 100 (.agg #[.string nm, flt k s])
/-- The error v: none (k = 0), or a fault of that number, with a name or not. -/
inductive ErrIs : Value → Int → Prop
  | ok : ErrIs .nilIface 0
  | flt (k : Int) (s : ByteArray) : ErrIs (flt k s) k
  | abt (nm : ByteArray) (k : Int) (s : ByteArray) : ErrIs (abt nm k s) k
theorem as_nil_any (t : Value) (w : World) : Calls Tryz.prog 91 #[.nilIface, t] w fun e w' => e = .returned (.bool false) ∧ Below w.heap.size w w' :=
  (as_nil t w).mono fun _ _ ⟨h, hw⟩ => ⟨h, hw ▸ Below.refl _ _⟩
set_option maxHeartbeats 1000000 in
theorem told_nil (w : World) : Calls Tryz.prog 55 #[.nilIface] w (IntP 0 w) := by
  go_enter Tryz.func55, Tryz.ntmps55
  go_wp2_with (go_at_call 91; refine (as_nil_any _ _).mono ?_)
  rintro e w1 ⟨rfl, b1⟩
  go_wp2
  go_ret
  exact ⟨rfl, below_more (Below.new _ _) b1⟩
theorem new2 (w : World) (v0 v1 : Value) (t : TypeId) : (w.alloc (.cells #[v0, v1] t)).cell? ⟨w.heap.size, 0, none⟩ = some v0 ∧ (w.alloc (.cells #[v0, v1] t)).cell? ⟨w.heap.size, 1, none⟩ = some v1 ∧
    (w.alloc (.cells #[v0, v1] t)).frozen? ⟨w.heap.size, 0, none⟩ = false ∧ (w.alloc (.cells #[v0, v1] t)).frozen? ⟨w.heap.size, 1, none⟩ = false := by
  refine ⟨?_, ?_, ?_, ?_⟩
  · rw [World.cell?_alloc_at _ _ _ _ rfl]; rfl
  · rw [World.cell?_alloc_at _ _ _ _ rfl]; rfl
  · simp
  · simp
set_option maxHeartbeats 1000000 in
theorem told_flt (k : Int) (s : ByteArray) (w : World) (hg : ErrT w) : Calls Tryz.prog 55 #[.iface 95 (.agg #[.int .i64 k, .string s])] w (IntP k w) := by
  obtain ⟨n0, n1, n2, n3⟩ := new2 w (.int .i64 0) (.string { data := #[] }) 95
  have s1 := Lib.hid (hg.more (Below.new w (.cells #[.int .i64 0, .string { data := #[] }] 95)))
  go_enter Tryz.func55, Tryz.ntmps55
  go_wp2_with (go_at_call 91; refine (as_hit k s w.heap.size _ _ _ s1.out n0 n1 n2 n3).mono ?_)
  rintro e w1 ⟨rfl, c0, c1, b1⟩
  have b2 : Below w.heap.size w w1 := (Below.new w _).trans b1
  clear n0 n1 n2 n3 s1
  go_wp2
  go_ret
  exact ⟨rfl, b2⟩
set_option maxHeartbeats 1000000 in
theorem told_abt (nm : ByteArray) (k : Int) (s : ByteArray) (w : World) (hg : ErrT w) : Calls Tryz.prog 55 #[.iface 100 (.agg #[.string nm, .iface 95 (.agg #[.int .i64 k, .string s])])] w (IntP k w) := by
  obtain ⟨n0, n1, n2, n3⟩ := new2 w (.int .i64 0) (.string { data := #[] }) 95
  have s1 := Lib.hid (hg.more (Below.new w (.cells #[.int .i64 0, .string { data := #[] }] 95)))
  go_enter Tryz.func55, Tryz.ntmps55
  go_wp2_with (go_at_call 91; refine (as_wrap nm k s w.heap.size _ _ _ s1.out n0 n1 n2 n3).mono ?_)
  rintro e w1 ⟨rfl, c0, c1, b1⟩
  have b2 : Below w.heap.size w w1 := (Below.new w _).trans b1
  clear n0 n1 n2 n3 s1
  go_wp2
  go_ret
  exact ⟨rfl, b2⟩
theorem told_any {v : Value} {k : Int} (h : ErrIs v k) (w : World) (hg : ErrT w) : Calls Tryz.prog 55 #[v] w (IntP k w) := by
  cases h
  · exact told_nil w
  · exact told_flt _ _ w hg
  · exact told_abt _ _ _ w hg
end Go.Proofs.YtnbpfbmhheimbaaGreatDoor.Sp
