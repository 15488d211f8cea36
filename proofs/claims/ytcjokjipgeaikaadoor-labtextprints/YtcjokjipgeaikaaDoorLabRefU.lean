/- The contracts of the document's own Right, Under. -/
import Derived.Test.YtcjokjipgeaikaaDoorLabKit
import Derived.Test.YtcjokjipgeaikaaDoorLabJudge
import Derived.Test.YtcjokjipgeaikaaDoorRefLess
namespace Go.Proofs.YtcjokjipgeaikaaDoor.Lb
open Go.RowKit Go.Proofs.Cats Go.Shelf

set_option maxHeartbeats 400000 in
theorem refRight_any (a : Lab) (w : World) :
    Calls Tryd.prog 19 #[.agg #[.int .i64 a.l, .int .u64 a.c, .int .i64 a.i]] w fun e w' => e = .returned (.bool a.right) ∧ Below w.heap.size w w' := by
  by_cases h1 : 0 ≤ a.l
  · by_cases h2 : a.l ≤ 15
    · by_cases h3 : 0 ≤ a.i
      · have ev : a.right = decide (a.i ≤ 7) := by unfold Lab.right; rw [decide_eq_true h1, decide_eq_true h2, decide_eq_true h3]; rfl
        rw [ev]
        clear ev
        go_enter Tryd.func19, Tryd.ntmps19
        go_wp2
        go_ret
        exact ⟨rfl, Below.new _ _⟩
      · have ev : a.right = false := by unfold Lab.right; rw [decide_eq_false h3]; simp
        rw [ev]
        clear ev
        go_enter Tryd.func19, Tryd.ntmps19
        go_wp2
        go_ret
        exact ⟨rfl, Below.new _ _⟩
    · have ev : a.right = false := by unfold Lab.right; rw [decide_eq_false h2]; simp
      rw [ev]
      clear ev
      go_enter Tryd.func19, Tryd.ntmps19
      go_wp2
      go_ret
      exact ⟨rfl, Below.new _ _⟩
  · have ev : a.right = false := by unfold Lab.right; rw [decide_eq_false h1]; simp
    rw [ev]
    clear ev
    go_enter Tryd.func19, Tryd.ntmps19
    go_wp2
    go_ret
    exact ⟨rfl, Below.new _ _⟩

end Go.Proofs.YtcjokjipgeaikaaDoor.Lb
