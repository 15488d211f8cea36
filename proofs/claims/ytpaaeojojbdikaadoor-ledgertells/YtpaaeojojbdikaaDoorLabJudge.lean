/- The contracts of judge, Right, Under. -/
import Derived.Test.YtpaaeojojbdikaaDoorLabLeaf
import Derived.Deep.RegionHeld3
namespace Go.Proofs.YtpaaeojojbdikaaDoor
open Go.RowKit Go.Proofs.Cats

set_option maxHeartbeats 1000000 in
theorem judge_in (a : Lab) (ha : a.fits) (H1 : Hid (Lab.bot.leq a = true)) (H2 : Hid (a.leq Lab.top = true)) (w : World) :
    Calls Tryd.prog 55 #[.agg #[.int .i64 a.l, .int .u64 a.c, .int .i64 a.i]] w fun e w' => e = .returned (.nilIface) ∧ Below w.heap.size w w' := by
  go_enter Tryd.func55, Tryd.ntmps55
  go_wp2_with fail
  go_region_held3 (fun w' => w'.cell? ⟨w.heap.size, 0, none⟩ = some (.int .i64 a.l) ∧ w'.cell? ⟨w.heap.size, 1, none⟩ = some (.int .u64 a.c) ∧ w'.cell? ⟨w.heap.size, 2, none⟩ = some (.int .i64 a.i) ∧ Below w.heap.size w w')
    (first | (go_split_ands; exact ⟨cell_later hb (by assumption), cell_later hb (by assumption), cell_later hb (by assumption), below_more (by assumption) hb⟩) | (exact ⟨by simp, by simp, by simp, (Below.new _ _).drew⟩) | (go_keep; done))
    (first
    | (go_at_call 29; ((with_reducible refine (bottom_any _).mono ?_); rintro e w' ⟨rfl, hb⟩))
    | (go_at_call 28; ((with_reducible refine (top_any _).mono ?_); rintro e w' ⟨rfl, hb⟩))
    | (go_at_call 44; ((with_reducible refine (under_bot a ha true H1 _).mono ?_); rintro e w' ⟨rfl, hb⟩))
    | (go_at_call 44; ((with_reducible refine (under_top a ha true H2 _).mono ?_); rintro e w' ⟨rfl, hb⟩)))
  go_split_ands
  go_wp2
  go_ret
  exact ⟨rfl, by assumption⟩

set_option maxHeartbeats 1000000 in
theorem judge_top (a : Lab) (ha : a.fits) (H1 : Hid (Lab.bot.leq a = true)) (H2 : Hid (a.leq Lab.top = false)) (w : World) :
    Calls Tryd.prog 55 #[.agg #[.int .i64 a.l, .int .u64 a.c, .int .i64 a.i]] w fun e w' => e = .returned (.iface 95 (.agg #[.int .i64 a.l, .int .u64 a.c, .int .i64 a.i])) ∧ Below w.heap.size w w' := by
  go_enter Tryd.func55, Tryd.ntmps55
  go_wp2_with fail
  go_region_held3 (fun w' => w'.cell? ⟨w.heap.size, 0, none⟩ = some (.int .i64 a.l) ∧ w'.cell? ⟨w.heap.size, 1, none⟩ = some (.int .u64 a.c) ∧ w'.cell? ⟨w.heap.size, 2, none⟩ = some (.int .i64 a.i) ∧ Below w.heap.size w w')
    (first | (go_split_ands; exact ⟨cell_later hb (by assumption), cell_later hb (by assumption), cell_later hb (by assumption), below_more (by assumption) hb⟩) | (exact ⟨by simp, by simp, by simp, (Below.new _ _).drew⟩) | (go_keep; done))
    (first
    | (go_at_call 29; ((with_reducible refine (bottom_any _).mono ?_); rintro e w' ⟨rfl, hb⟩))
    | (go_at_call 28; ((with_reducible refine (top_any _).mono ?_); rintro e w' ⟨rfl, hb⟩))
    | (go_at_call 44; ((with_reducible refine (under_bot a ha true H1 _).mono ?_); rintro e w' ⟨rfl, hb⟩))
    | (go_at_call 44; ((with_reducible refine (under_top a ha false H2 _).mono ?_); rintro e w' ⟨rfl, hb⟩)))
  go_split_ands
  go_wp2
  go_ret
  exact ⟨rfl, by assumption⟩

theorem under_bot_at (a : Lab) (ha : a.fits) (b : Bool) (h : Hid (Lab.bot.leq a = b)) (w : World) :
    Calls Tryd.prog 44 #[.agg #[.int .i64 0, .int .u64 0, .int .i64 7, .int .i64 a.l, .int .u64 a.c, .int .i64 a.i]] w fun e w' => e = .returned (.bool b) ∧ w.alloc (.cells #[.int .i64 0, .int .u64 0, .int .i64 7, .int .i64 a.l, .int .u64 a.c, .int .i64 a.i] 66) = w' := by
  have := under_at Lab.bot a Lab.fits_bot ha w
  rw [h.out] at this
  exact this

set_option maxHeartbeats 1000000 in
theorem judge_bot (a : Lab) (ha : a.fits) (H1 : Hid (Lab.bot.leq a = false)) (w : World) :
    Calls Tryd.prog 55 #[.agg #[.int .i64 a.l, .int .u64 a.c, .int .i64 a.i]] w fun e w' => e = .returned (.iface 95 (.agg #[.int .i64 a.l, .int .u64 a.c, .int .i64 a.i])) ∧ Below w.heap.size w w' := by
  go_enter Tryd.func55, Tryd.ntmps55
  go_wp2_with fail
  go_region_with (first
    | (go_at_call 29; ((with_reducible refine (bottom_at _).mono ?_); rintro e w' ⟨rfl, rfl⟩))
    | (go_at_call 44; ((with_reducible refine (under_bot_at a ha false H1 _).mono ?_); rintro e w' ⟨rfl, rfl⟩)))
  all_goals go_wp2
  all_goals go_ret
  all_goals exact ⟨rfl, ((((Below.refl _ w).alloc (Nat.le_refl _) _).alloc (by simp) _).alloc (by simp; omega) _).drew⟩

theorem judge_any (a : Lab) (ha : a.fits) (w : World) :
    Calls Tryd.prog 55 #[.agg #[.int .i64 a.l, .int .u64 a.c, .int .i64 a.i]] w fun e w' => e = .returned (errL a) ∧ Below w.heap.size w w' := by
  have h := Lab.between a ha
  unfold errL
  cases h1 : Lab.bot.leq a
  · rw [h1] at h
    rw [← h]
    exact judge_bot a ha (Lib.hid h1) w
  · cases h2 : a.leq Lab.top
    · rw [h1, h2] at h
      rw [← h]
      exact judge_top a ha (Lib.hid h1) (Lib.hid h2) w
    · rw [h1, h2] at h
      rw [← h]
      exact judge_in a ha (Lib.hid h1) (Lib.hid h2) w

theorem errL_yes (a : Lab) (h : a.right = true) : errL a = .nilIface := by unfold errL; rw [h]; rfl
theorem errL_no (a : Lab) (h : a.right = false) : errL a = .iface 95 (.agg #[.int .i64 a.l, .int .u64 a.c, .int .i64 a.i]) := by unfold errL; rw [h]; rfl

set_option maxHeartbeats 400000 in
theorem right_any (a : Lab) (ha : a.fits) (w : World) :
    Calls Tryd.prog 43 #[.agg #[.int .i64 a.l, .int .u64 a.c, .int .i64 a.i]] w fun e w' => e = .returned (.bool a.right) ∧ Below w.heap.size w w' := by
  cases h : a.right
  · have H := Lib.hid (errL_no a h)
    clear h
    go_enter Tryd.func43, Tryd.ntmps43
    go_wp2_with fail
    refine (judge_any a ha _).mono ?_
    rintro e w1 ⟨he, hb⟩
    rw [H.out] at he
    subst he
    go_wp2
    go_ret
    exact ⟨rfl, below_more (Below.new _ _) hb⟩
  · have H := Lib.hid (errL_yes a h)
    clear h
    go_enter Tryd.func43, Tryd.ntmps43
    go_wp2_with fail
    refine (judge_any a ha _).mono ?_
    rintro e w1 ⟨he, hb⟩
    rw [H.out] at he
    subst he
    go_wp2
    go_ret
    exact ⟨rfl, below_more (Below.new _ _) hb⟩


theorem under_no (a b : Lab) (h : a.right = false) : a.under b = false := by unfold Lab.under; rw [h]; rfl
theorem under_no2 (a b : Lab) (h : b.right = false) : a.under b = false := by unfold Lab.under; rw [h, Bool.and_false]; rfl
theorem under_yes (a b : Lab) (h : a.right = true) (k : b.right = true) : a.under b = a.leq b := by unfold Lab.under; rw [h, k]; rfl

set_option maxHeartbeats 400000 in
theorem Under_any (a b : Lab) (ha : a.fits) (hb : b.fits) (w : World) :
    Calls Tryd.prog 27 #[.agg #[.int .i64 a.l, .int .u64 a.c, .int .i64 a.i], .agg #[.int .i64 b.l, .int .u64 b.c, .int .i64 b.i]] w fun e w' => e = .returned (.bool (a.under b)) ∧ Below w.heap.size w w' := by
  have B2 : Below w.heap.size w ((w.alloc (.cells #[.int .i64 a.l, .int .u64 a.c, .int .i64 a.i] 25)).alloc (.cells #[.int .i64 b.l, .int .u64 b.c, .int .i64 b.i] 25)) := (Below.new _ _).alloc (by simp) _
  cases h : a.right
  · have H := Lib.hid h
    rw [under_no a b h]
    clear h
    go_enter Tryd.func27, Tryd.ntmps27
    go_wp2_with fail
    refine (right_any a ha _).mono ?_
    rintro e w1 ⟨he, h1⟩
    rw [H.out] at he
    subst he
    go_wp2
    go_ret
    exact ⟨rfl, below_more B2 h1⟩
  · cases k : b.right
    · have H := Lib.hid h
      have K := Lib.hid k
      rw [under_no2 a b k]
      clear h k
      go_enter Tryd.func27, Tryd.ntmps27
      go_wp2_with fail
      refine (right_any a ha _).mono ?_
      rintro e w1 ⟨he, h1⟩
      rw [H.out] at he
      subst he
      obtain ⟨hc, _⟩ := bcell h1
      go_wp2_with fail
      refine (right_any b hb _).mono ?_
      rintro e w2 ⟨he, h2⟩
      rw [K.out] at he
      subst he
      go_wp2
      go_ret
      exact ⟨rfl, below_more (below_more B2 h1) h2⟩
    · have H := Lib.hid h
      have K := Lib.hid k
      rw [under_yes a b h k]
      clear h k
      go_enter Tryd.func27, Tryd.ntmps27
      go_wp2_with fail
      refine (right_any a ha _).mono ?_
      rintro e w1 ⟨he, h1⟩
      rw [H.out] at he
      subst he
      have c0 : w1.cell? ⟨w.heap.size, 0, none⟩ = some (.int .i64 a.l) := cell_later h1 (by simp)
      have c1 : w1.cell? ⟨w.heap.size, 1, none⟩ = some (.int .u64 a.c) := cell_later h1 (by simp)
      have c2 : w1.cell? ⟨w.heap.size, 2, none⟩ = some (.int .i64 a.i) := cell_later h1 (by simp)
      have d0 : w1.cell? ⟨w.heap.size + 1, 0, none⟩ = some (.int .i64 b.l) := cell_later h1 (by simp)
      have d1 : w1.cell? ⟨w.heap.size + 1, 1, none⟩ = some (.int .u64 b.c) := cell_later h1 (by simp)
      have d2 : w1.cell? ⟨w.heap.size + 1, 2, none⟩ = some (.int .i64 b.i) := cell_later h1 (by simp)
      go_wp2_with fail
      refine (right_any b hb _).mono ?_
      rintro e w2 ⟨he, h2⟩
      rw [K.out] at he
      subst he
      replace c0 := cell_later h2 c0
      replace c1 := cell_later h2 c1
      replace c2 := cell_later h2 c2
      replace d0 := cell_later h2 d0
      replace d1 := cell_later h2 d1
      replace d2 := cell_later h2 d2
      go_wp2_with fail
      refine (under_any a b ha hb _).mono ?_
      rintro e w3 ⟨rfl, h3⟩
      go_wp2
      go_ret
      exact ⟨rfl, below_more (below_more (below_more B2 h1) h2) h3⟩

end Go.Proofs.YtpaaeojojbdikaaDoor
