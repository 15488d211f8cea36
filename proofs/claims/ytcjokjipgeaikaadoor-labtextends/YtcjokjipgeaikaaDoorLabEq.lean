/- label == label, in the walk. -/
import Derived.Test.YtcjokjipgeaikaaDoorLabLeaf
namespace Go.Proofs.YtcjokjipgeaikaaDoor.Lb
open Go.RowKit Go.Proofs.Cats

theorem labFields : (Tryd.prog.fieldsOf 24).toList.map (fun f => (f.name == "_", f.type, f.offset)) = [(false, 3, 0), (false, 22, 1), (false, 3, 2)] := by kernel_rfl

set_option maxHeartbeats 400000 in
theorem eqInL (a b : Lab) (w : World) : (Op.equalIn 10000 24 (.agg #[.int .i64 a.l, .int .u64 a.c, .int .i64 a.i]) (.agg #[.int .i64 b.l, .int .u64 b.c, .int .i64 b.i])).run Tryd.prog w = .ok (a.same b) w := by
  by_cases h1 : a.l = b.l
  · by_cases h2 : a.c = b.c
    · have ev : a.same b = (a.i == b.i) := by unfold Lab.same; simp [h1, h2]
      rw [ev, h1, h2]
      clear ev
      by_cases h3 : a.i = b.i
      · rw [h3]
        go_simp
      · have k2 : (a.i == b.i) = false := by simp [h3]
        rw [k2]
        go_simp
    · have ev : a.same b = false := by unfold Lab.same; simp [h2]
      have k2 : (((a.c : Nat) : Int) == ((b.c : Nat) : Int)) = false := by simp; omega
      rw [ev, h1]
      go_simp
  · have ev : a.same b = false := by unfold Lab.same; simp [h1]
    have k2 : (a.l == b.l) = false := by simp [h1]
    rw [ev]
    go_simp
theorem eqL (a b : Lab) (w : World) : (binOp .eql 24 (.agg #[.int .i64 a.l, .int .u64 a.c, .int .i64 a.i]) (.agg #[.int .i64 b.l, .int .u64 b.c, .int .i64 b.i])).run Tryd.prog w = .ok (.bool (a.same b)) w := by
  rw [run_eql_struct, eqInL]; rfl

end Go.Proofs.YtcjokjipgeaikaaDoor.Lb
