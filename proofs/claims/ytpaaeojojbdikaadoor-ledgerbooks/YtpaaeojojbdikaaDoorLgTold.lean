/- What callers are told. -/
import Derived.Test.YtpaaeojojbdikaaDoorLgAs
namespace Go.Proofs.YtpaaeojojbdikaaDoor
open Go.RowKit Go.Proofs.Cats Go.Proofs.Lgr

theorem as_nil_any (t : Value) (w : World) : Calls Tryd.prog 54 #[.nilIface, t] w fun e w' => e = .returned (.bool false) ∧ Below w.heap.size w w' :=
  (as_nil t w).mono fun _ _ ⟨h, hw⟩ => ⟨h, hw ▸ Below.refl _ _⟩
set_option maxHeartbeats 1000000 in
theorem told_nil (w : World) : Calls Tryd.prog 40 #[.nilIface] w (IntP 0 w) := by
  go_enter Tryd.func40, Tryd.ntmps40
  go_wp2_with (go_at_call 54; refine (as_nil_any _ _).mono ?_)
  rintro e w1 ⟨rfl, b1⟩
  go_wp2
  go_ret
  exact ⟨rfl, below_more (Below.new _ _) b1⟩
theorem new2 (w : World) (v0 v1 : Value) (t : TypeId) : (w.alloc (.cells #[v0, v1] t)).cell? ⟨w.heap.size, 0, none⟩ = some v0 ∧ (w.alloc (.cells #[v0, v1] t)).cell? ⟨w.heap.size, 1, none⟩ = some v1 ∧
    (w.alloc (.cells #[v0, v1] t)).frozen? ⟨w.heap.size, 0, none⟩ = false ∧ (w.alloc (.cells #[v0, v1] t)).frozen? ⟨w.heap.size, 1, none⟩ = false := by
  refine ⟨?_, ?_, ?_, ?_⟩
  · rw [World.cell?_alloc_at _ _ _ _ rfl]; rfl
  · rw [World.cell?_alloc_at _ _ _ _ rfl]; rfl
  · simp
  · simp
set_option maxHeartbeats 1000000 in
theorem told_flt (k : Int) (s : ByteArray) (w : World) (hg : ErrT w) : Calls Tryd.prog 40 #[.iface 68 (.agg #[.int .i64 k, .string s])] w (IntP k w) := by
  obtain ⟨n0, n1, n2, n3⟩ := new2 w (.int .i64 0) (.string { data := #[] }) 68
  have s1 := Lib.hid (hg.more (Below.new w (.cells #[.int .i64 0, .string { data := #[] }] 68)))
  go_enter Tryd.func40, Tryd.ntmps40
  go_wp2_with (go_at_call 54; refine (as_hit k s w.heap.size _ _ _ s1.out n0 n1 n2 n3).mono ?_)
  rintro e w1 ⟨rfl, c0, c1, b1⟩
  have b2 : Below w.heap.size w w1 := (Below.new w _).trans b1
  clear n0 n1 n2 n3 s1
  go_wp2
  go_ret
  exact ⟨rfl, b2⟩

end Go.Proofs.YtpaaeojojbdikaaDoor
