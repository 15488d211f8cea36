/- The statement CatsCompares, walked. -/
import Derived.Test.YtngacmkgnpgomaaDoorList
import Derived.Test.YtngacmkgnpgomaaDoorLaid
namespace Go.Proofs.YtngacmkgnpgomaaDoor
open Go.RowKit Go.Proofs.Cats

set_option maxHeartbeats 400000 in
theorem refCount_any (s : Nat) (w : World) : Calls Tryd.prog 27 #[.int .u64 s] w fun e W' => e = .returned (.int .i64 (cnt 64 s : Nat)) ∧ Below w.heap.size w W' := by
  go_enter Tryd.func27, Tryd.ntmps27
  go_wp2_with fail
  refine (refList_any s w).mono ?_
  rintro e w1 ⟨a, len, cap, rfl, hl, hown, hb⟩
  rw [listTo_length] at hl
  subst hl
  clear hown
  go_wp2
  go_ret
  exact ⟨rfl, hb⟩

set_option maxHeartbeats 400000 in
theorem compares_any (a b : Nat) (ha : U64 a) (hb : U64 b) (ga : Addr) (w : World) (hg : Glob ga w) :
    Calls Tryd.prog 4 #[.int .u64 a, .int .u64 b] w fun e W' => e = .returned (.bool true) ∧ Below w.heap.size w W' := by
  go_enter Tryd.func4, Tryd.ntmps4
  go_wp2_with fail
  refine (shown_any ga w hg).mono ?_
  rintro e w1 ⟨rfl, hb1⟩
  have z1 := hb1.size
  go_wp2_with fail
  refine (sub_any a b ha hb w1).mono ?_
  rintro e w2 ⟨rfl, rfl⟩
  go_wp2_with fail
  refine (refSub_any a b ha hb w1).mono ?_
  rintro e w2 ⟨rfl, rfl⟩
  go_wp2_with fail
  refine (less_any a b ha hb w1).mono ?_
  rintro e w2 ⟨rfl, rfl⟩
  go_wp2_with fail
  refine (refLess_any a b ha hb w1).mono ?_
  rintro e w2 ⟨rfl, rfl⟩
  go_wp2_with fail
  refine (count_any a ha w1).mono ?_
  rintro e w2 ⟨rfl, rfl⟩
  go_wp2_with fail
  refine (refCount_any a w1).mono ?_
  rintro e w2 ⟨rfl, hb2⟩
  go_wp2
  go_ret
  exact ⟨rfl, hb1.trans (hb2.mono z1)⟩

end Go.Proofs.YtngacmkgnpgomaaDoor
