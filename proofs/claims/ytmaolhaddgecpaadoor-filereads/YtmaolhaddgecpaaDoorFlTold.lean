/- What callers are told. -/
import Derived.Test.YtmaolhaddgecpaaDoorFlAs
namespace Go.Proofs.YtmaolhaddgecpaaDoor
open Go.RowKit Go.Proofs.Fld Go.Proofs.Fil

/-- errors.errorType's cell. -/
def ErrT (w : World) : Prop := w.cell? ⟨0, 0, none⟩ = some (.iface 84 (.agg #[.pointer (some ⟨2, 37, none⟩)]))
theorem ErrT.more {A B : World} (h : ErrT A) (k : Below A.heap.size A B) : ErrT B := (k.cell (p := ⟨0, 0, none⟩) (World.block_lt_of_cell? A _ h)).trans h
/-- The error v: none (k = 0), or a fault (k = 90). -/
inductive ErrIs : Value → Int → Prop
  | ok : ErrIs .nilIface 0
  | flt (s : ByteArray) : ErrIs (.iface 45 (.string s)) 90
theorem as_nil_any (t : Value) (w : World) : Calls Tryd.prog 27 #[.nilIface, t] w fun e w' => e = .returned (.bool false) ∧ Below w.heap.size w w' :=
  (as_nil t w).mono fun _ _ ⟨h, hw⟩ => ⟨h, hw ▸ Below.refl _ _⟩
set_option maxHeartbeats 1000000 in
theorem told_nil (w : World) : Calls Tryd.prog 23 #[.nilIface] w (IntP 0 w) := by
  go_enter Tryd.func23, Tryd.ntmps23
  go_wp2_with (go_at_call 27; refine (as_nil_any _ _).mono ?_)
  rintro e w1 ⟨rfl, b1⟩
  go_wp2
  go_ret
  exact ⟨rfl, below_more (Below.new _ _) b1⟩
theorem new1 (w : World) (v0 : Value) (t : TypeId) : (w.alloc (.cells #[v0] t)).cell? ⟨w.heap.size, 0, none⟩ = some v0 ∧ (w.alloc (.cells #[v0] t)).frozen? ⟨w.heap.size, 0, none⟩ = false := by
  refine ⟨?_, ?_⟩
  · rw [World.cell?_alloc_at _ _ _ _ rfl]; rfl
  · simp
set_option maxHeartbeats 1000000 in
theorem told_flt (s : ByteArray) (w : World) (hg : ErrT w) : Calls Tryd.prog 23 #[.iface 45 (.string s)] w (IntP 90 w) := by
  obtain ⟨n0, n1⟩ := new1 w (.string { data := #[] }) 45
  have s1 := Lib.hid (hg.more (Below.new w (.cells #[.string { data := #[] }] 45)))
  go_enter Tryd.func23, Tryd.ntmps23
  go_wp2_with (go_at_call 27; refine (as_hit s w.heap.size _ _ s1.out n0 n1).mono ?_)
  rintro e w1 ⟨rfl, c0, b1⟩
  have b2 : Below w.heap.size w w1 := (Below.new w _).trans b1
  clear n0 n1 s1
  go_wp2
  go_ret
  exact ⟨rfl, b2⟩
theorem told_any {v : Value} {k : Int} (h : ErrIs v k) (w : World) (hg : ErrT w) : Calls Tryd.prog 23 #[v] w (IntP k w) := by
  cases h
  · exact told_nil w
  · exact told_flt _ w hg
end Go.Proofs.YtmaolhaddgecpaaDoor
