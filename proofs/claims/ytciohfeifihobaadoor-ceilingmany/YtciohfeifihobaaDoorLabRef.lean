/- The contracts of the document's own Right, Under, Bottom, Top, Compare of labels. -/
import Derived.Test.YtciohfeifihobaaDoorLbB
namespace Go.Proofs.YtciohfeifihobaaDoor
open Go.RowKit Go.Proofs.Cats Go.Shelf

set_option maxHeartbeats 400000 in
theorem refRight_any (a : Lab) (w : World) :
    Calls Tryd.prog 32 #[.agg #[.int .i64 a.l, .int .u64 a.c, .int .i64 a.i]] w fun e w' => e = .returned (.bool a.right) ∧ Below w.heap.size w w' := by
  by_cases h1 : 0 ≤ a.l
  · by_cases h2 : a.l ≤ 15
    · by_cases h3 : 0 ≤ a.i
      · have ev : a.right = decide (a.i ≤ 7) := by unfold Lab.right; rw [decide_eq_true h1, decide_eq_true h2, decide_eq_true h3]; rfl
        rw [ev]
        clear ev
        go_enter Tryd.func32, Tryd.ntmps32
        go_wp2
        go_ret
        exact ⟨rfl, Below.new _ _⟩
      · have ev : a.right = false := by unfold Lab.right; rw [decide_eq_false h3]; simp
        rw [ev]
        clear ev
        go_enter Tryd.func32, Tryd.ntmps32
        go_wp2
        go_ret
        exact ⟨rfl, Below.new _ _⟩
    · have ev : a.right = false := by unfold Lab.right; rw [decide_eq_false h2]; simp
      rw [ev]
      clear ev
      go_enter Tryd.func32, Tryd.ntmps32
      go_wp2
      go_ret
      exact ⟨rfl, Below.new _ _⟩
  · have ev : a.right = false := by unfold Lab.right; rw [decide_eq_false h1]; simp
    rw [ev]
    clear ev
    go_enter Tryd.func32, Tryd.ntmps32
    go_wp2
    go_ret
    exact ⟨rfl, Below.new _ _⟩

set_option maxRecDepth 100000 in
set_option maxHeartbeats 1000000 in
theorem refUnder_r0 (a b : Lab) (_ha : a.fits) (_hb0 : b.fits) (h1 : a.right = false) (w : World) (hg : ErrT w) :
    Calls Tryd.prog 33 #[.agg #[.int .i64 a.l, .int .u64 a.c, .int .i64 a.i], .agg #[.int .i64 b.l, .int .u64 b.c, .int .i64 b.i]] w fun e w' => e = .returned (.bool (a.under b)) ∧ Below w.heap.size w w' := by
  rw [show a.under b = false by unfold Lab.under; rw [h1]; rfl]
  have H1 := Lib.hid h1
  clear h1
  obtain ⟨hB, hg1, a0, a1, a2, b0, b1, b2⟩ := two_at w a b hg
  clear hg
  go_enter Tryd.func33, Tryd.ntmps33
  go_wp2_with fail
  refine (refRight_any a _).mono ?_
  rintro e w1 ⟨he, hb⟩
  rw [H1.out] at he
  subst he
  replace a0 := cell_later hb a0
  replace a1 := cell_later hb a1
  replace a2 := cell_later hb a2
  replace b0 := cell_later hb b0
  replace b1 := cell_later hb b1
  replace b2 := cell_later hb b2
  replace hB := below_more hB hb
  replace hg1 := hg1.more hb
  clear hb
  go_wp2
  go_ret
  exact ⟨rfl, hB⟩

set_option maxRecDepth 100000 in
set_option maxHeartbeats 1000000 in
theorem refUnder_r1 (a b : Lab) (_ha : a.fits) (_hb0 : b.fits) (h1 : a.right = true) (h2 : b.right = false) (w : World) (hg : ErrT w) :
    Calls Tryd.prog 33 #[.agg #[.int .i64 a.l, .int .u64 a.c, .int .i64 a.i], .agg #[.int .i64 b.l, .int .u64 b.c, .int .i64 b.i]] w fun e w' => e = .returned (.bool (a.under b)) ∧ Below w.heap.size w w' := by
  rw [show a.under b = false by unfold Lab.under; rw [h1, h2]; rfl]
  have H1 := Lib.hid h1
  have H2 := Lib.hid h2
  clear h1 h2
  obtain ⟨hB, hg1, a0, a1, a2, b0, b1, b2⟩ := two_at w a b hg
  clear hg
  go_enter Tryd.func33, Tryd.ntmps33
  go_wp2_with fail
  refine (refRight_any a _).mono ?_
  rintro e w1 ⟨he, hb⟩
  rw [H1.out] at he
  subst he
  replace a0 := cell_later hb a0
  replace a1 := cell_later hb a1
  replace a2 := cell_later hb a2
  replace b0 := cell_later hb b0
  replace b1 := cell_later hb b1
  replace b2 := cell_later hb b2
  replace hB := below_more hB hb
  replace hg1 := hg1.more hb
  clear hb
  go_wp2_with fail
  refine (refRight_any b _).mono ?_
  rintro e w2 ⟨he, hb⟩
  rw [H2.out] at he
  subst he
  replace a0 := cell_later hb a0
  replace a1 := cell_later hb a1
  replace a2 := cell_later hb a2
  replace b0 := cell_later hb b0
  replace b1 := cell_later hb b1
  replace b2 := cell_later hb b2
  replace hB := below_more hB hb
  replace hg1 := hg1.more hb
  clear hb
  go_wp2
  go_ret
  exact ⟨rfl, hB⟩

set_option maxRecDepth 100000 in
set_option maxHeartbeats 1000000 in
theorem refUnder_r2 (a b : Lab) (_ha : a.fits) (_hb0 : b.fits) (h1 : a.right = true) (h2 : b.right = true) (h3 : ¬ a.l ≤ b.l) (w : World) (hg : ErrT w) :
    Calls Tryd.prog 33 #[.agg #[.int .i64 a.l, .int .u64 a.c, .int .i64 a.i], .agg #[.int .i64 b.l, .int .u64 b.c, .int .i64 b.i]] w fun e w' => e = .returned (.bool (a.under b)) ∧ Below w.heap.size w w' := by
  rw [show a.under b = false by unfold Lab.under Lab.leq; rw [h1, h2, decide_eq_false h3]; rfl]
  have H1 := Lib.hid h1
  have H2 := Lib.hid h2
  clear h1 h2
  obtain ⟨hB, hg1, a0, a1, a2, b0, b1, b2⟩ := two_at w a b hg
  clear hg
  go_enter Tryd.func33, Tryd.ntmps33
  go_wp2_with fail
  refine (refRight_any a _).mono ?_
  rintro e w1 ⟨he, hb⟩
  rw [H1.out] at he
  subst he
  replace a0 := cell_later hb a0
  replace a1 := cell_later hb a1
  replace a2 := cell_later hb a2
  replace b0 := cell_later hb b0
  replace b1 := cell_later hb b1
  replace b2 := cell_later hb b2
  replace hB := below_more hB hb
  replace hg1 := hg1.more hb
  clear hb
  go_wp2_with fail
  refine (refRight_any b _).mono ?_
  rintro e w2 ⟨he, hb⟩
  rw [H2.out] at he
  subst he
  replace a0 := cell_later hb a0
  replace a1 := cell_later hb a1
  replace a2 := cell_later hb a2
  replace b0 := cell_later hb b0
  replace b1 := cell_later hb b1
  replace b2 := cell_later hb b2
  replace hB := below_more hB hb
  replace hg1 := hg1.more hb
  clear hb
  go_wp2
  go_ret
  exact ⟨rfl, hB⟩

set_option maxRecDepth 100000 in
set_option maxHeartbeats 1000000 in
theorem refUnder_r3 (a b : Lab) (ha : a.fits) (hb0 : b.fits) (h1 : a.right = true) (h2 : b.right = true) (h3 : a.l ≤ b.l) (h4 : (lessN a.c b.c == 0) = false) (w : World) (hg : ErrT w) :
    Calls Tryd.prog 33 #[.agg #[.int .i64 a.l, .int .u64 a.c, .int .i64 a.i], .agg #[.int .i64 b.l, .int .u64 b.c, .int .i64 b.i]] w fun e w' => e = .returned (.bool (a.under b)) ∧ Below w.heap.size w w' := by
  rw [show a.under b = false by unfold Lab.under Lab.leq; rw [h1, h2, decide_eq_true h3, h4]; rfl]
  have H1 := Lib.hid h1
  have H2 := Lib.hid h2
  clear h1 h2
  have H4 := Lib.hid h4
  clear h4
  obtain ⟨hB, hg1, a0, a1, a2, b0, b1, b2⟩ := two_at w a b hg
  clear hg
  go_enter Tryd.func33, Tryd.ntmps33
  go_wp2_with fail
  refine (refRight_any a _).mono ?_
  rintro e w1 ⟨he, hb⟩
  rw [H1.out] at he
  subst he
  replace a0 := cell_later hb a0
  replace a1 := cell_later hb a1
  replace a2 := cell_later hb a2
  replace b0 := cell_later hb b0
  replace b1 := cell_later hb b1
  replace b2 := cell_later hb b2
  replace hB := below_more hB hb
  replace hg1 := hg1.more hb
  clear hb
  go_wp2_with fail
  refine (refRight_any b _).mono ?_
  rintro e w2 ⟨he, hb⟩
  rw [H2.out] at he
  subst he
  replace a0 := cell_later hb a0
  replace a1 := cell_later hb a1
  replace a2 := cell_later hb a2
  replace b0 := cell_later hb b0
  replace b1 := cell_later hb b1
  replace b2 := cell_later hb b2
  replace hB := below_more hB hb
  replace hg1 := hg1.more hb
  clear hb
  go_wp2_with fail
  refine (refSub_any a.c b.c ha hb0 _).mono ?_
  rintro e wz ⟨he, rfl⟩
  rw [H4.out] at he
  subst he
  go_wp2
  go_ret
  exact ⟨rfl, hB⟩

set_option maxRecDepth 100000 in
set_option maxHeartbeats 1000000 in
theorem refUnder_r4 (a b : Lab) (ha : a.fits) (hb0 : b.fits) (h1 : a.right = true) (h2 : b.right = true) (h3 : a.l ≤ b.l) (h4 : (lessN a.c b.c == 0) = true) (w : World) (hg : ErrT w) :
    Calls Tryd.prog 33 #[.agg #[.int .i64 a.l, .int .u64 a.c, .int .i64 a.i], .agg #[.int .i64 b.l, .int .u64 b.c, .int .i64 b.i]] w fun e w' => e = .returned (.bool (a.under b)) ∧ Below w.heap.size w w' := by
  rw [show a.under b = decide (b.i ≤ a.i) by unfold Lab.under Lab.leq; rw [h1, h2, decide_eq_true h3, h4]; rfl]
  have H1 := Lib.hid h1
  have H2 := Lib.hid h2
  clear h1 h2
  have H4 := Lib.hid h4
  clear h4
  obtain ⟨hB, hg1, a0, a1, a2, b0, b1, b2⟩ := two_at w a b hg
  clear hg
  go_enter Tryd.func33, Tryd.ntmps33
  go_wp2_with fail
  refine (refRight_any a _).mono ?_
  rintro e w1 ⟨he, hb⟩
  rw [H1.out] at he
  subst he
  replace a0 := cell_later hb a0
  replace a1 := cell_later hb a1
  replace a2 := cell_later hb a2
  replace b0 := cell_later hb b0
  replace b1 := cell_later hb b1
  replace b2 := cell_later hb b2
  replace hB := below_more hB hb
  replace hg1 := hg1.more hb
  clear hb
  go_wp2_with fail
  refine (refRight_any b _).mono ?_
  rintro e w2 ⟨he, hb⟩
  rw [H2.out] at he
  subst he
  replace a0 := cell_later hb a0
  replace a1 := cell_later hb a1
  replace a2 := cell_later hb a2
  replace b0 := cell_later hb b0
  replace b1 := cell_later hb b1
  replace b2 := cell_later hb b2
  replace hB := below_more hB hb
  replace hg1 := hg1.more hb
  clear hb
  go_wp2_with fail
  refine (refSub_any a.c b.c ha hb0 _).mono ?_
  rintro e wz ⟨he, rfl⟩
  rw [H4.out] at he
  subst he
  go_wp2
  go_ret
  exact ⟨rfl, hB⟩

theorem refUnder_any (a b : Lab) (ha : a.fits) (hb : b.fits) (w : World) (hg : ErrT w) :
    Calls Tryd.prog 33 #[.agg #[.int .i64 a.l, .int .u64 a.c, .int .i64 a.i], .agg #[.int .i64 b.l, .int .u64 b.c, .int .i64 b.i]] w fun e w' => e = .returned (.bool (a.under b)) ∧ Below w.heap.size w w' := by
  cases h1 : a.right
  · exact refUnder_r0 a b ha hb h1 w hg
  · cases h2 : b.right
    · exact refUnder_r1 a b ha hb h1 h2 w hg
    · by_cases h3 : a.l ≤ b.l
      · cases h4 : (lessN a.c b.c == 0)
        · exact refUnder_r3 a b ha hb h1 h2 h3 h4 w hg
        · exact refUnder_r4 a b ha hb h1 h2 h3 h4 w hg
      · exact refUnder_r2 a b ha hb h1 h2 h3 w hg

theorem cmp_of_ahead {a b : Lab} (hs : a.same b = false) (h : a.ahead b = true) : a.cmp b = -1 := by unfold Lab.cmp; rw [hs, h]; rfl
theorem cmp_of_not {a b : Lab} (hs : a.same b = false) (h : a.ahead b = false) : a.cmp b = 1 := by unfold Lab.cmp; rw [hs, h]; rfl
end Go.Proofs.YtciohfeifihobaaDoor
