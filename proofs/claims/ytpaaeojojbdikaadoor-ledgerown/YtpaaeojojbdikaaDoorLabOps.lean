/- The contracts of join, meet, before, Compare. -/
import Derived.Test.YtpaaeojojbdikaaDoorLabLeaf
namespace Go.Proofs.YtpaaeojojbdikaaDoor
open Go.RowKit Go.Proofs.Cats

set_option maxHeartbeats 400000 in
theorem before_any (a b : Lab) (w : World) :
    Calls Tryd.prog 57 #[.agg #[.int .i64 a.l, .int .u64 a.c, .int .i64 a.i, .int .i64 b.l, .int .u64 b.c, .int .i64 b.i]] w fun e w' => e = .returned (.bool (a.ahead b)) ∧ Below w.heap.size w w' := by
  by_cases h1 : a.l = b.l
  · by_cases h2 : a.c = b.c
    · have ev : a.ahead b = decide (a.i < b.i) := by unfold Lab.ahead; rw [h1, h2]; simp
      rw [ev, ← h1, ← h2]
      clear ev h1 h2
      go_enter Tryd.func57, Tryd.ntmps57
      go_wp2
      go_ret
      exact ⟨rfl, Below.new _ _⟩
    · have ev : a.ahead b = decide (a.c < b.c) := by unfold Lab.ahead; rw [h1]; simp [h2]
      have k1 : (((a.c : Nat) : Int) != ((b.c : Nat) : Int)) = true := by simp; omega
      have k2 : (((a.c : Nat) : Int) == ((b.c : Nat) : Int)) = false := by simp; omega
      rw [ev, ← h1]
      clear ev h1 h2
      go_enter Tryd.func57, Tryd.ntmps57
      go_wp2
      go_ret
      exact ⟨rfl, Below.new _ _⟩
  · have ev : a.ahead b = decide (a.l < b.l) := by unfold Lab.ahead; simp [h1]
    have k1 : (a.l != b.l) = true := by simp [h1]
    have k2 : (a.l == b.l) = false := by simp [h1]
    rw [ev]
    clear ev h1
    go_enter Tryd.func57, Tryd.ntmps57
    go_wp2
    go_ret
    exact ⟨rfl, Below.new _ _⟩

theorem labFields : (Tryd.prog.fieldsOf 25).toList.map (fun f => (f.name == "_", f.type, f.offset)) = [(false, 3, 0), (false, 23, 1), (false, 3, 2)] := by kernel_rfl

set_option maxHeartbeats 400000 in
theorem eqInL (a b : Lab) (w : World) : (Op.equalIn 10000 25 (.agg #[.int .i64 a.l, .int .u64 a.c, .int .i64 a.i]) (.agg #[.int .i64 b.l, .int .u64 b.c, .int .i64 b.i])).run Tryd.prog w = .ok (a.same b) w := by
  by_cases h1 : a.l = b.l
  · by_cases h2 : a.c = b.c
    · have ev : a.same b = (a.i == b.i) := by unfold Lab.same; simp [h1, h2]
      rw [ev, h1, h2]
      clear ev
      by_cases h3 : a.i = b.i
      · rw [h3]
        go_simp
      · have k2 : (a.i == b.i) = false := by simp [h3]
        rw [k2]
        go_simp
    · have ev : a.same b = false := by unfold Lab.same; simp [h2]
      have k2 : (((a.c : Nat) : Int) == ((b.c : Nat) : Int)) = false := by simp; omega
      rw [ev, h1]
      go_simp
  · have ev : a.same b = false := by unfold Lab.same; simp [h1]
    have k2 : (a.l == b.l) = false := by simp [h1]
    rw [ev]
    go_simp
theorem eqL (a b : Lab) (w : World) : (binOp .eql 25 (.agg #[.int .i64 a.l, .int .u64 a.c, .int .i64 a.i]) (.agg #[.int .i64 b.l, .int .u64 b.c, .int .i64 b.i])).run Tryd.prog w = .ok (.bool (a.same b)) w := by
  rw [run_eql_struct, eqInL]; rfl

set_option maxHeartbeats 400000 in
theorem compare_any (a b : Lab) (w : World) :
    Calls Tryd.prog 45 #[.agg #[.int .i64 a.l, .int .u64 a.c, .int .i64 a.i], .agg #[.int .i64 b.l, .int .u64 b.c, .int .i64 b.i]] w fun e w' => e = .returned (.int .i64 (a.cmp b)) ∧ Below w.heap.size w w' := by
  have q1 := eqL a b
  have q2 := eqInL a b
  have B2 : Below w.heap.size w ((w.alloc (.cells #[.int .i64 a.l, .int .u64 a.c, .int .i64 a.i] 25)).alloc (.cells #[.int .i64 b.l, .int .u64 b.c, .int .i64 b.i] 25)) := (Below.new _ _).alloc (by simp) _
  cases h : a.same b
  · cases k : a.ahead b
    · rw [show a.cmp b = 1 by unfold Lab.cmp; rw [h, k]; rfl]
      have K := Lib.hid k
      clear k
      go_enter Tryd.func45, Tryd.ntmps45
      go_wp2_with fail
      refine (before_any a b _).mono ?_
      rintro e w1 ⟨he, hb⟩
      rw [K.out] at he
      subst he
      go_wp2
      go_ret
      exact ⟨rfl, below_more B2 hb⟩
    · rw [show a.cmp b = -1 by unfold Lab.cmp; rw [h, k]; rfl]
      have K := Lib.hid k
      clear k
      go_enter Tryd.func45, Tryd.ntmps45
      go_wp2_with fail
      refine (before_any a b _).mono ?_
      rintro e w1 ⟨he, hb⟩
      rw [K.out] at he
      subst he
      go_wp2
      go_ret
      exact ⟨rfl, below_more B2 hb⟩
  · rw [show a.cmp b = 0 by unfold Lab.cmp; rw [h]; rfl]
    go_enter Tryd.func45, Tryd.ntmps45
    go_wp2
    go_ret
    exact ⟨rfl, B2⟩
end Go.Proofs.YtpaaeojojbdikaaDoor
