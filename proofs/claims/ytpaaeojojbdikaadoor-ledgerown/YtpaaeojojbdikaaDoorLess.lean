/- The contracts of cats.Less and cats.Sub. -/
import Derived.Test.YtpaaeojojbdikaaDoorRows
import Derived.Test.YtpaaeojojbdikaaDoorMath
import Derived.WalkKit
import Derived.WalkSpells
import Derived.WalkLawsBesides
import Derived.Lib.Hide
import Derived.Laws.Bits128
namespace Go.Proofs.YtpaaeojojbdikaaDoor
open Go.RowKit Go.Proofs.Cats

set_option maxHeartbeats 400000 in
theorem less_any (a b : Nat) (ha : U64 a) (hb : U64 b) (w : World) :
    Calls Tryd.prog 67 #[.int .u64 a, .int .u64 b] w fun e w' => e = .returned (.int .u64 (lessN a b : Nat)) ∧ w = w' := by
  go_enter Tryd.func67, Tryd.ntmps67
  go_wp2
  go_ret
  exact ⟨by rw [u64_andNot_nat a b ha hb]; rfl, rfl⟩

set_option maxHeartbeats 400000 in
theorem sub_any (a b : Nat) (ha : U64 a) (hb : U64 b) (w : World) :
    Calls Tryd.prog 56 #[.int .u64 a, .int .u64 b] w fun e w' => e = .returned (.bool (lessN a b == 0)) ∧ w = w' := by
  go_enter Tryd.func56, Tryd.ntmps56
  go_wp2_with (go_at_call 67; refine (less_any a b ha hb _).mono ?_; rintro e w' ⟨rfl, rfl⟩)
  go_ret
  exact ⟨congrArg (fun b => Ending.returned (.bool b)) (beq_nat0 _), rfl⟩

end Go.Proofs.YtpaaeojojbdikaaDoor
