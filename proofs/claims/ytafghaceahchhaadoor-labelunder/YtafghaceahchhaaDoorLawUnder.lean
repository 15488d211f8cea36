/- The law LabelUnder, walked. -/
import Derived.Test.YtafghaceahchhaaDoorLabShown
import Derived.Test.YtafghaceahchhaaDoorLabFacts
namespace Go.Proofs.YtafghaceahchhaaDoor
open Go.RowKit Go.Proofs.Cats Go.Shelf

set_option maxRecDepth 100000 in
set_option maxHeartbeats 1000000 in
theorem labelUnder_no (a b : Lab) (ha : a.fits) (hb0 : b.fits) (h : (a.right && b.right) = false) (w : World) (hg : ErrT w) :
    Calls Tryd.prog 10 #[.agg #[.int .i64 a.l, .int .u64 a.c, .int .i64 a.i], .agg #[.int .i64 b.l, .int .u64 b.c, .int .i64 b.i]] w fun e w' => e = .returned (.bool true) ∧ Below w.heap.size w w' := by
  have E := Lib.hid (twoE_no h)
  have U := Lib.hid (under_not h)
  obtain ⟨hB, hg1, a0, a1, a2, b0, b1, b2⟩ := two_at w a b hg
  clear h hg
  go_enter Tryd.func10, Tryd.ntmps10
  go_wp2_with fail
  refine (shown_any _ hg1).mono ?_
  rintro e w1 ⟨he, hb⟩
  subst he
  replace a0 := cell_later hb a0
  replace a1 := cell_later hb a1
  replace a2 := cell_later hb a2
  replace b0 := cell_later hb b0
  replace b1 := cell_later hb b1
  replace b2 := cell_later hb b2
  replace hB := below_more hB hb
  replace hg1 := hg1.more hb
  clear hb
  go_wp2_with fail
  refine (Join_any a b ha hb0 _ hg1).mono ?_
  rintro e w2 ⟨he, hb⟩
  rw [E.out] at he
  subst he
  replace a0 := cell_later hb a0
  replace a1 := cell_later hb a1
  replace a2 := cell_later hb a2
  replace b0 := cell_later hb b0
  replace b1 := cell_later hb b1
  replace b2 := cell_later hb b2
  replace hB := below_more hB hb
  replace hg1 := hg1.more hb
  clear hb
  have hn := Below.new w2 (.cells #[.int .i64 (twoJ a b).l, .int .u64 (twoJ a b).c, .int .i64 (twoJ a b).i] 24)
  replace a0 := cell_later hn a0
  replace a1 := cell_later hn a1
  replace a2 := cell_later hn a2
  replace b0 := cell_later hn b0
  replace b1 := cell_later hn b1
  replace b2 := cell_later hn b2
  replace hB := below_more hB hn
  replace hg1 := hg1.more hn
  have x0 : (w2.alloc (.cells #[.int .i64 (twoJ a b).l, .int .u64 (twoJ a b).c, .int .i64 (twoJ a b).i] 24)).cell? ⟨w2.heap.size, 0, none⟩ = some (.int .i64 (twoJ a b).l) := by simp
  have x1 : (w2.alloc (.cells #[.int .i64 (twoJ a b).l, .int .u64 (twoJ a b).c, .int .i64 (twoJ a b).i] 24)).cell? ⟨w2.heap.size, 1, none⟩ = some (.int .u64 (twoJ a b).c) := by simp
  have x2 : (w2.alloc (.cells #[.int .i64 (twoJ a b).l, .int .u64 (twoJ a b).c, .int .i64 (twoJ a b).i] 24)).cell? ⟨w2.heap.size, 2, none⟩ = some (.int .i64 (twoJ a b).i) := by simp
  clear hn
  go_wp2_with fail
  refine (Meet_any a b ha hb0 _ hg1).mono ?_
  rintro e w3 ⟨he, hb⟩
  rw [E.out] at he
  subst he
  replace a0 := cell_later hb a0
  replace a1 := cell_later hb a1
  replace a2 := cell_later hb a2
  replace b0 := cell_later hb b0
  replace b1 := cell_later hb b1
  replace b2 := cell_later hb b2
  replace x0 := cell_later hb x0
  replace x1 := cell_later hb x1
  replace x2 := cell_later hb x2
  replace hB := below_more hB hb
  replace hg1 := hg1.more hb
  clear hb
  have hn := Below.new w3 (.cells #[.int .i64 (twoM a b).l, .int .u64 (twoM a b).c, .int .i64 (twoM a b).i] 24)
  replace a0 := cell_later hn a0
  replace a1 := cell_later hn a1
  replace a2 := cell_later hn a2
  replace b0 := cell_later hn b0
  replace b1 := cell_later hn b1
  replace b2 := cell_later hn b2
  replace x0 := cell_later hn x0
  replace x1 := cell_later hn x1
  replace x2 := cell_later hn x2
  replace hB := below_more hB hn
  replace hg1 := hg1.more hn
  have y0 : (w3.alloc (.cells #[.int .i64 (twoM a b).l, .int .u64 (twoM a b).c, .int .i64 (twoM a b).i] 24)).cell? ⟨w3.heap.size, 0, none⟩ = some (.int .i64 (twoM a b).l) := by simp
  have y1 : (w3.alloc (.cells #[.int .i64 (twoM a b).l, .int .u64 (twoM a b).c, .int .i64 (twoM a b).i] 24)).cell? ⟨w3.heap.size, 1, none⟩ = some (.int .u64 (twoM a b).c) := by simp
  have y2 : (w3.alloc (.cells #[.int .i64 (twoM a b).l, .int .u64 (twoM a b).c, .int .i64 (twoM a b).i] 24)).cell? ⟨w3.heap.size, 2, none⟩ = some (.int .i64 (twoM a b).i) := by simp
  clear hn
  go_wp2_with fail
  refine (Under_any a b ha hb0 _).mono ?_
  rintro e w4 ⟨he, hb⟩
  rw [U.out] at he
  subst he
  replace hB := below_more hB hb
  clear hb
  go_wp2
  go_ret
  exact ⟨rfl, hB⟩

set_option maxRecDepth 100000 in
set_option maxHeartbeats 1000000 in
theorem labelUnder_yes (a b : Lab) (ha : a.fits) (hb0 : b.fits) (h : (a.right && b.right) = true) (w : World) (hg : ErrT w) :
    Calls Tryd.prog 10 #[.agg #[.int .i64 a.l, .int .u64 a.c, .int .i64 a.i], .agg #[.int .i64 b.l, .int .u64 b.c, .int .i64 b.i]] w fun e w' => e = .returned (.bool true) ∧ Below w.heap.size w w' := by
  have E := Lib.hid (twoE_yes h)
  have U := Lib.hid (under_both h)
  have e1 : (twoJ a b).same b = a.leq b := by rw [twoJ_yes h]; exact join_same a b ha hb0
  have e2 : (twoM a b).same a = a.leq b := by rw [twoM_yes h]; exact meet_same a b ha hb0
  obtain ⟨u, hu⟩ : ∃ u, a.leq b = u := ⟨_, rfl⟩
  rw [hu] at e1 e2
  have HU := Lib.hid hu
  have q1 := eqL (twoJ a b) b
  have q2 := eqInL (twoJ a b) b
  have q3 := eqL (twoM a b) a
  have q4 := eqInL (twoM a b) a
  rw [e1] at q1 q2
  rw [e2] at q3 q4
  obtain ⟨hB, hg1, a0, a1, a2, b0, b1, b2⟩ := two_at w a b hg
  clear h hg hu e1 e2
  go_enter Tryd.func10, Tryd.ntmps10
  go_wp2_with fail
  refine (shown_any _ hg1).mono ?_
  rintro e w1 ⟨he, hb⟩
  subst he
  replace a0 := cell_later hb a0
  replace a1 := cell_later hb a1
  replace a2 := cell_later hb a2
  replace b0 := cell_later hb b0
  replace b1 := cell_later hb b1
  replace b2 := cell_later hb b2
  replace hB := below_more hB hb
  replace hg1 := hg1.more hb
  clear hb
  go_wp2_with fail
  refine (Join_any a b ha hb0 _ hg1).mono ?_
  rintro e w2 ⟨he, hb⟩
  rw [E.out] at he
  subst he
  replace a0 := cell_later hb a0
  replace a1 := cell_later hb a1
  replace a2 := cell_later hb a2
  replace b0 := cell_later hb b0
  replace b1 := cell_later hb b1
  replace b2 := cell_later hb b2
  replace hB := below_more hB hb
  replace hg1 := hg1.more hb
  clear hb
  have hn := Below.new w2 (.cells #[.int .i64 (twoJ a b).l, .int .u64 (twoJ a b).c, .int .i64 (twoJ a b).i] 24)
  replace a0 := cell_later hn a0
  replace a1 := cell_later hn a1
  replace a2 := cell_later hn a2
  replace b0 := cell_later hn b0
  replace b1 := cell_later hn b1
  replace b2 := cell_later hn b2
  replace hB := below_more hB hn
  replace hg1 := hg1.more hn
  have x0 : (w2.alloc (.cells #[.int .i64 (twoJ a b).l, .int .u64 (twoJ a b).c, .int .i64 (twoJ a b).i] 24)).cell? ⟨w2.heap.size, 0, none⟩ = some (.int .i64 (twoJ a b).l) := by simp
  have x1 : (w2.alloc (.cells #[.int .i64 (twoJ a b).l, .int .u64 (twoJ a b).c, .int .i64 (twoJ a b).i] 24)).cell? ⟨w2.heap.size, 1, none⟩ = some (.int .u64 (twoJ a b).c) := by simp
  have x2 : (w2.alloc (.cells #[.int .i64 (twoJ a b).l, .int .u64 (twoJ a b).c, .int .i64 (twoJ a b).i] 24)).cell? ⟨w2.heap.size, 2, none⟩ = some (.int .i64 (twoJ a b).i) := by simp
  clear hn
  go_wp2_with fail
  refine (Meet_any a b ha hb0 _ hg1).mono ?_
  rintro e w3 ⟨he, hb⟩
  rw [E.out] at he
  subst he
  replace a0 := cell_later hb a0
  replace a1 := cell_later hb a1
  replace a2 := cell_later hb a2
  replace b0 := cell_later hb b0
  replace b1 := cell_later hb b1
  replace b2 := cell_later hb b2
  replace x0 := cell_later hb x0
  replace x1 := cell_later hb x1
  replace x2 := cell_later hb x2
  replace hB := below_more hB hb
  replace hg1 := hg1.more hb
  clear hb
  have hn := Below.new w3 (.cells #[.int .i64 (twoM a b).l, .int .u64 (twoM a b).c, .int .i64 (twoM a b).i] 24)
  replace a0 := cell_later hn a0
  replace a1 := cell_later hn a1
  replace a2 := cell_later hn a2
  replace b0 := cell_later hn b0
  replace b1 := cell_later hn b1
  replace b2 := cell_later hn b2
  replace x0 := cell_later hn x0
  replace x1 := cell_later hn x1
  replace x2 := cell_later hn x2
  replace hB := below_more hB hn
  replace hg1 := hg1.more hn
  have y0 : (w3.alloc (.cells #[.int .i64 (twoM a b).l, .int .u64 (twoM a b).c, .int .i64 (twoM a b).i] 24)).cell? ⟨w3.heap.size, 0, none⟩ = some (.int .i64 (twoM a b).l) := by simp
  have y1 : (w3.alloc (.cells #[.int .i64 (twoM a b).l, .int .u64 (twoM a b).c, .int .i64 (twoM a b).i] 24)).cell? ⟨w3.heap.size, 1, none⟩ = some (.int .u64 (twoM a b).c) := by simp
  have y2 : (w3.alloc (.cells #[.int .i64 (twoM a b).l, .int .u64 (twoM a b).c, .int .i64 (twoM a b).i] 24)).cell? ⟨w3.heap.size, 2, none⟩ = some (.int .i64 (twoM a b).i) := by simp
  clear hn
  go_wp2_with fail
  refine (Under_any a b ha hb0 _).mono ?_
  rintro e w4 ⟨he, hb⟩
  rw [U.out, HU.out] at he
  subst he
  replace a0 := cell_later hb a0
  replace a1 := cell_later hb a1
  replace a2 := cell_later hb a2
  replace b0 := cell_later hb b0
  replace b1 := cell_later hb b1
  replace b2 := cell_later hb b2
  replace x0 := cell_later hb x0
  replace x1 := cell_later hb x1
  replace x2 := cell_later hb x2
  replace y0 := cell_later hb y0
  replace y1 := cell_later hb y1
  replace y2 := cell_later hb y2
  replace hB := below_more hB hb
  replace hg1 := hg1.more hb
  clear hb
  cases u
  all_goals
    go_wp2
    go_ret
    exact ⟨rfl, hB⟩

theorem labelUnder_any (a b : Lab) (ha : a.fits) (hb : b.fits) (w : World) (hg : ErrT w) :
    Calls Tryd.prog 10 #[.agg #[.int .i64 a.l, .int .u64 a.c, .int .i64 a.i], .agg #[.int .i64 b.l, .int .u64 b.c, .int .i64 b.i]] w fun e w' => e = .returned (.bool true) ∧ Below w.heap.size w w' := by
  cases h : (a.right && b.right)
  · exact labelUnder_no a b ha hb h w hg
  · exact labelUnder_yes a b ha hb h w hg

end Go.Proofs.YtafghaceahchhaaDoor
