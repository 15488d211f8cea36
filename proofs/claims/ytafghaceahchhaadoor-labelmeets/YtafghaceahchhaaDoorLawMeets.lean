/- The law LabelMeets, walked. -/
import Derived.Test.YtafghaceahchhaaDoorLabShown
import Derived.Test.YtafghaceahchhaaDoorLabFacts
namespace Go.Proofs.YtafghaceahchhaaDoor
open Go.RowKit Go.Proofs.Cats Go.Shelf

set_option maxRecDepth 100000 in
set_option maxHeartbeats 2000000 in
theorem labelMeets_no1 (a b c : Lab) (hfa : a.fits) (hfb : b.fits) (hfc : c.fits) (h : a.right = false) (w : World) (hg : ErrT w) :
    Calls Tryd.prog 7 #[.agg #[.int .i64 a.l, .int .u64 a.c, .int .i64 a.i], .agg #[.int .i64 b.l, .int .u64 b.c, .int .i64 b.i], .agg #[.int .i64 c.l, .int .u64 c.c, .int .i64 c.i]] w fun e w' => e = .returned (.bool true) ∧ Below w.heap.size w w' := by
  have _hu := And.intro hfa (And.intro hfb (hfc))
  clear _hu
  have hr : (a.right && b.right) = false := by rw [h]; rfl
  have E := Lib.hid (twoE_no hr)
  have H1 := Lib.hid h
  have qb : ∀ w, (Op.equalIn 10000 24 (.agg #[.int .i64 (twoM a b).l, .int .u64 (twoM a b).c, .int .i64 (twoM a b).i]) (.agg #[.int .i64 0, .int .u64 0, .int .i64 0])).run Tryd.prog w = .ok true w := fun w => by
    have := eqInL (twoM a b) Lab.zero w
    rw [show (twoM a b).same Lab.zero = true by rw [twoM_no hr]; exact same_self _] at this
    exact this
  have qa : ∀ w, (binOp .eql 24 (.agg #[.int .i64 (twoM a b).l, .int .u64 (twoM a b).c, .int .i64 (twoM a b).i]) (.agg #[.int .i64 0, .int .u64 0, .int .i64 0])).run Tryd.prog w = .ok (.bool true) w := fun w => by
    have := eqL (twoM a b) Lab.zero w
    rw [show (twoM a b).same Lab.zero = true by rw [twoM_no hr]; exact same_self _] at this
    exact this
  obtain ⟨hB, hg1, a0, a1, a2, b0, b1, b2, c0, c1, c2⟩ := three_at w a b c hg
  clear hr h hg
  go_enter Tryd.func7, Tryd.ntmps7
  go_wp2_with fail
  refine (shown_any _ hg1).mono ?_
  rintro e w1 ⟨he, hb⟩
  subst he
  replace a0 := cell_later hb a0
  replace a1 := cell_later hb a1
  replace a2 := cell_later hb a2
  replace b0 := cell_later hb b0
  replace b1 := cell_later hb b1
  replace b2 := cell_later hb b2
  replace c0 := cell_later hb c0
  replace c1 := cell_later hb c1
  replace c2 := cell_later hb c2
  replace hB := below_more hB hb
  replace hg1 := hg1.more hb
  clear hb
  go_wp2_with fail
  refine (Meet_any a b hfa hfb _ hg1).mono ?_
  rintro e w2 ⟨he, hb⟩
  rw [E.out] at he
  subst he
  replace a0 := cell_later hb a0
  replace a1 := cell_later hb a1
  replace a2 := cell_later hb a2
  replace b0 := cell_later hb b0
  replace b1 := cell_later hb b1
  replace b2 := cell_later hb b2
  replace c0 := cell_later hb c0
  replace c1 := cell_later hb c1
  replace c2 := cell_later hb c2
  replace hB := below_more hB hb
  replace hg1 := hg1.more hb
  clear hb
  have hn := Below.new w2 (.cells #[.int .i64 (twoM a b).l, .int .u64 (twoM a b).c, .int .i64 (twoM a b).i] 24)
  replace a0 := cell_later hn a0
  replace a1 := cell_later hn a1
  replace a2 := cell_later hn a2
  replace b0 := cell_later hn b0
  replace b1 := cell_later hn b1
  replace b2 := cell_later hn b2
  replace c0 := cell_later hn c0
  replace c1 := cell_later hn c1
  replace c2 := cell_later hn c2
  replace hB := below_more hB hn
  replace hg1 := hg1.more hn
  have x0 : (w2.alloc (.cells #[.int .i64 (twoM a b).l, .int .u64 (twoM a b).c, .int .i64 (twoM a b).i] 24)).cell? ⟨w2.heap.size, 0, none⟩ = some (.int .i64 (twoM a b).l) := by simp
  have x1 : (w2.alloc (.cells #[.int .i64 (twoM a b).l, .int .u64 (twoM a b).c, .int .i64 (twoM a b).i] 24)).cell? ⟨w2.heap.size, 1, none⟩ = some (.int .u64 (twoM a b).c) := by simp
  have x2 : (w2.alloc (.cells #[.int .i64 (twoM a b).l, .int .u64 (twoM a b).c, .int .i64 (twoM a b).i] 24)).cell? ⟨w2.heap.size, 2, none⟩ = some (.int .i64 (twoM a b).i) := by simp
  clear hn
  go_wp2_with fail
  refine (right_any a hfa _).mono ?_
  rintro e w3 ⟨he, hb⟩
  rw [H1.out] at he
  subst he
  replace a0 := cell_later hb a0
  replace a1 := cell_later hb a1
  replace a2 := cell_later hb a2
  replace b0 := cell_later hb b0
  replace b1 := cell_later hb b1
  replace b2 := cell_later hb b2
  replace c0 := cell_later hb c0
  replace c1 := cell_later hb c1
  replace c2 := cell_later hb c2
  replace x0 := cell_later hb x0
  replace x1 := cell_later hb x1
  replace x2 := cell_later hb x2
  replace hB := below_more hB hb
  replace hg1 := hg1.more hb
  clear hb
  go_wp2
  go_ret
  exact ⟨rfl, hB⟩

set_option maxRecDepth 100000 in
set_option maxHeartbeats 2000000 in
theorem labelMeets_no2 (a b c : Lab) (hfa : a.fits) (hfb : b.fits) (hfc : c.fits) (h : a.right = true) (h2 : b.right = false) (w : World) (hg : ErrT w) :
    Calls Tryd.prog 7 #[.agg #[.int .i64 a.l, .int .u64 a.c, .int .i64 a.i], .agg #[.int .i64 b.l, .int .u64 b.c, .int .i64 b.i], .agg #[.int .i64 c.l, .int .u64 c.c, .int .i64 c.i]] w fun e w' => e = .returned (.bool true) ∧ Below w.heap.size w w' := by
  have _hu := And.intro hfa (And.intro hfb (hfc))
  clear _hu
  have hr : (a.right && b.right) = false := by rw [h, h2]; rfl
  have E := Lib.hid (twoE_no hr)
  have H1 := Lib.hid h
  have H2 := Lib.hid h2
  have qb : ∀ w, (Op.equalIn 10000 24 (.agg #[.int .i64 (twoM a b).l, .int .u64 (twoM a b).c, .int .i64 (twoM a b).i]) (.agg #[.int .i64 0, .int .u64 0, .int .i64 0])).run Tryd.prog w = .ok true w := fun w => by
    have := eqInL (twoM a b) Lab.zero w
    rw [show (twoM a b).same Lab.zero = true by rw [twoM_no hr]; exact same_self _] at this
    exact this
  have qa : ∀ w, (binOp .eql 24 (.agg #[.int .i64 (twoM a b).l, .int .u64 (twoM a b).c, .int .i64 (twoM a b).i]) (.agg #[.int .i64 0, .int .u64 0, .int .i64 0])).run Tryd.prog w = .ok (.bool true) w := fun w => by
    have := eqL (twoM a b) Lab.zero w
    rw [show (twoM a b).same Lab.zero = true by rw [twoM_no hr]; exact same_self _] at this
    exact this
  obtain ⟨hB, hg1, a0, a1, a2, b0, b1, b2, c0, c1, c2⟩ := three_at w a b c hg
  clear hr h hg h2
  go_enter Tryd.func7, Tryd.ntmps7
  go_wp2_with fail
  refine (shown_any _ hg1).mono ?_
  rintro e w1 ⟨he, hb⟩
  subst he
  replace a0 := cell_later hb a0
  replace a1 := cell_later hb a1
  replace a2 := cell_later hb a2
  replace b0 := cell_later hb b0
  replace b1 := cell_later hb b1
  replace b2 := cell_later hb b2
  replace c0 := cell_later hb c0
  replace c1 := cell_later hb c1
  replace c2 := cell_later hb c2
  replace hB := below_more hB hb
  replace hg1 := hg1.more hb
  clear hb
  go_wp2_with fail
  refine (Meet_any a b hfa hfb _ hg1).mono ?_
  rintro e w2 ⟨he, hb⟩
  rw [E.out] at he
  subst he
  replace a0 := cell_later hb a0
  replace a1 := cell_later hb a1
  replace a2 := cell_later hb a2
  replace b0 := cell_later hb b0
  replace b1 := cell_later hb b1
  replace b2 := cell_later hb b2
  replace c0 := cell_later hb c0
  replace c1 := cell_later hb c1
  replace c2 := cell_later hb c2
  replace hB := below_more hB hb
  replace hg1 := hg1.more hb
  clear hb
  have hn := Below.new w2 (.cells #[.int .i64 (twoM a b).l, .int .u64 (twoM a b).c, .int .i64 (twoM a b).i] 24)
  replace a0 := cell_later hn a0
  replace a1 := cell_later hn a1
  replace a2 := cell_later hn a2
  replace b0 := cell_later hn b0
  replace b1 := cell_later hn b1
  replace b2 := cell_later hn b2
  replace c0 := cell_later hn c0
  replace c1 := cell_later hn c1
  replace c2 := cell_later hn c2
  replace hB := below_more hB hn
  replace hg1 := hg1.more hn
  have x0 : (w2.alloc (.cells #[.int .i64 (twoM a b).l, .int .u64 (twoM a b).c, .int .i64 (twoM a b).i] 24)).cell? ⟨w2.heap.size, 0, none⟩ = some (.int .i64 (twoM a b).l) := by simp
  have x1 : (w2.alloc (.cells #[.int .i64 (twoM a b).l, .int .u64 (twoM a b).c, .int .i64 (twoM a b).i] 24)).cell? ⟨w2.heap.size, 1, none⟩ = some (.int .u64 (twoM a b).c) := by simp
  have x2 : (w2.alloc (.cells #[.int .i64 (twoM a b).l, .int .u64 (twoM a b).c, .int .i64 (twoM a b).i] 24)).cell? ⟨w2.heap.size, 2, none⟩ = some (.int .i64 (twoM a b).i) := by simp
  clear hn
  go_wp2_with fail
  refine (right_any a hfa _).mono ?_
  rintro e w3 ⟨he, hb⟩
  rw [H1.out] at he
  subst he
  replace a0 := cell_later hb a0
  replace a1 := cell_later hb a1
  replace a2 := cell_later hb a2
  replace b0 := cell_later hb b0
  replace b1 := cell_later hb b1
  replace b2 := cell_later hb b2
  replace c0 := cell_later hb c0
  replace c1 := cell_later hb c1
  replace c2 := cell_later hb c2
  replace x0 := cell_later hb x0
  replace x1 := cell_later hb x1
  replace x2 := cell_later hb x2
  replace hB := below_more hB hb
  replace hg1 := hg1.more hb
  clear hb
  go_wp2_with fail
  refine (right_any b hfb _).mono ?_
  rintro e w4 ⟨he, hb⟩
  rw [H2.out] at he
  subst he
  replace a0 := cell_later hb a0
  replace a1 := cell_later hb a1
  replace a2 := cell_later hb a2
  replace b0 := cell_later hb b0
  replace b1 := cell_later hb b1
  replace b2 := cell_later hb b2
  replace c0 := cell_later hb c0
  replace c1 := cell_later hb c1
  replace c2 := cell_later hb c2
  replace x0 := cell_later hb x0
  replace x1 := cell_later hb x1
  replace x2 := cell_later hb x2
  replace hB := below_more hB hb
  replace hg1 := hg1.more hb
  clear hb
  go_wp2
  go_ret
  exact ⟨rfl, hB⟩

set_option maxRecDepth 100000 in
set_option maxHeartbeats 2000000 in
theorem labelMeets_yes_f (a b c : Lab) (hfa : a.fits) (hfb : b.fits) (hfc : c.fits) (h : a.right = true) (h2 : b.right = true) (hu : Lab.under c a = false) (w : World) (hg : ErrT w) :
    Calls Tryd.prog 7 #[.agg #[.int .i64 a.l, .int .u64 a.c, .int .i64 a.i], .agg #[.int .i64 b.l, .int .u64 b.c, .int .i64 b.i], .agg #[.int .i64 c.l, .int .u64 c.c, .int .i64 c.i]] w fun e w' => e = .returned (.bool true) ∧ Below w.heap.size w w' := by
  have _hu := And.intro hfa (And.intro hfb (hfc))
  clear _hu
  have hr : (a.right && b.right) = true := by rw [h, h2]; rfl
  have E := Lib.hid (twoE_yes hr)
  have hfx : (twoM a b).fits := fits_twoM hfa hfb
  have U1 := Lib.hid (show Lab.under (twoM a b) a = true by rw [twoM_yes hr]; exact meet_underL hfa hfb h h2)
  have U2 := Lib.hid (show Lab.under (twoM a b) b = true by rw [twoM_yes hr]; exact meet_underR hfa hfb h h2)
  have U3 := Lib.hid hu
  obtain ⟨hB, hg1, a0, a1, a2, b0, b1, b2, c0, c1, c2⟩ := three_at w a b c hg
  clear hr h h2 hg hu
  go_enter Tryd.func7, Tryd.ntmps7
  go_wp2_with fail
  refine (shown_any _ hg1).mono ?_
  rintro e w1 ⟨he, hb⟩
  subst he
  replace a0 := cell_later hb a0
  replace a1 := cell_later hb a1
  replace a2 := cell_later hb a2
  replace b0 := cell_later hb b0
  replace b1 := cell_later hb b1
  replace b2 := cell_later hb b2
  replace c0 := cell_later hb c0
  replace c1 := cell_later hb c1
  replace c2 := cell_later hb c2
  replace hB := below_more hB hb
  replace hg1 := hg1.more hb
  clear hb
  go_wp2_with fail
  refine (Meet_any a b hfa hfb _ hg1).mono ?_
  rintro e w2 ⟨he, hb⟩
  rw [E.out] at he
  subst he
  replace a0 := cell_later hb a0
  replace a1 := cell_later hb a1
  replace a2 := cell_later hb a2
  replace b0 := cell_later hb b0
  replace b1 := cell_later hb b1
  replace b2 := cell_later hb b2
  replace c0 := cell_later hb c0
  replace c1 := cell_later hb c1
  replace c2 := cell_later hb c2
  replace hB := below_more hB hb
  replace hg1 := hg1.more hb
  clear hb
  have hn := Below.new w2 (.cells #[.int .i64 (twoM a b).l, .int .u64 (twoM a b).c, .int .i64 (twoM a b).i] 24)
  replace a0 := cell_later hn a0
  replace a1 := cell_later hn a1
  replace a2 := cell_later hn a2
  replace b0 := cell_later hn b0
  replace b1 := cell_later hn b1
  replace b2 := cell_later hn b2
  replace c0 := cell_later hn c0
  replace c1 := cell_later hn c1
  replace c2 := cell_later hn c2
  replace hB := below_more hB hn
  replace hg1 := hg1.more hn
  have x0 : (w2.alloc (.cells #[.int .i64 (twoM a b).l, .int .u64 (twoM a b).c, .int .i64 (twoM a b).i] 24)).cell? ⟨w2.heap.size, 0, none⟩ = some (.int .i64 (twoM a b).l) := by simp
  have x1 : (w2.alloc (.cells #[.int .i64 (twoM a b).l, .int .u64 (twoM a b).c, .int .i64 (twoM a b).i] 24)).cell? ⟨w2.heap.size, 1, none⟩ = some (.int .u64 (twoM a b).c) := by simp
  have x2 : (w2.alloc (.cells #[.int .i64 (twoM a b).l, .int .u64 (twoM a b).c, .int .i64 (twoM a b).i] 24)).cell? ⟨w2.heap.size, 2, none⟩ = some (.int .i64 (twoM a b).i) := by simp
  clear hn
  go_wp2_with fail
  refine (Under_any (twoM a b) a hfx hfa _).mono ?_
  rintro e w3 ⟨he, hb⟩
  rw [U1.out] at he
  subst he
  replace a0 := cell_later hb a0
  replace a1 := cell_later hb a1
  replace a2 := cell_later hb a2
  replace b0 := cell_later hb b0
  replace b1 := cell_later hb b1
  replace b2 := cell_later hb b2
  replace c0 := cell_later hb c0
  replace c1 := cell_later hb c1
  replace c2 := cell_later hb c2
  replace x0 := cell_later hb x0
  replace x1 := cell_later hb x1
  replace x2 := cell_later hb x2
  replace hB := below_more hB hb
  replace hg1 := hg1.more hb
  clear hb
  go_wp2_with fail
  refine (Under_any (twoM a b) b hfx hfb _).mono ?_
  rintro e w4 ⟨he, hb⟩
  rw [U2.out] at he
  subst he
  replace a0 := cell_later hb a0
  replace a1 := cell_later hb a1
  replace a2 := cell_later hb a2
  replace b0 := cell_later hb b0
  replace b1 := cell_later hb b1
  replace b2 := cell_later hb b2
  replace c0 := cell_later hb c0
  replace c1 := cell_later hb c1
  replace c2 := cell_later hb c2
  replace x0 := cell_later hb x0
  replace x1 := cell_later hb x1
  replace x2 := cell_later hb x2
  replace hB := below_more hB hb
  replace hg1 := hg1.more hb
  clear hb
  go_wp2_with fail
  refine (Under_any c a hfc hfa _).mono ?_
  rintro e w5 ⟨he, hb⟩
  rw [U3.out] at he
  subst he
  replace a0 := cell_later hb a0
  replace a1 := cell_later hb a1
  replace a2 := cell_later hb a2
  replace b0 := cell_later hb b0
  replace b1 := cell_later hb b1
  replace b2 := cell_later hb b2
  replace c0 := cell_later hb c0
  replace c1 := cell_later hb c1
  replace c2 := cell_later hb c2
  replace x0 := cell_later hb x0
  replace x1 := cell_later hb x1
  replace x2 := cell_later hb x2
  replace hB := below_more hB hb
  replace hg1 := hg1.more hb
  clear hb
  go_wp2
  go_ret
  exact ⟨rfl, hB⟩

set_option maxRecDepth 100000 in
set_option maxHeartbeats 2000000 in
theorem labelMeets_yes_tf (a b c : Lab) (hfa : a.fits) (hfb : b.fits) (hfc : c.fits) (h : a.right = true) (h2 : b.right = true) (hu : Lab.under c a = true) (hv : Lab.under c b = false) (w : World) (hg : ErrT w) :
    Calls Tryd.prog 7 #[.agg #[.int .i64 a.l, .int .u64 a.c, .int .i64 a.i], .agg #[.int .i64 b.l, .int .u64 b.c, .int .i64 b.i], .agg #[.int .i64 c.l, .int .u64 c.c, .int .i64 c.i]] w fun e w' => e = .returned (.bool true) ∧ Below w.heap.size w w' := by
  have _hu := And.intro hfa (And.intro hfb (hfc))
  clear _hu
  have hr : (a.right && b.right) = true := by rw [h, h2]; rfl
  have E := Lib.hid (twoE_yes hr)
  have hfx : (twoM a b).fits := fits_twoM hfa hfb
  have U1 := Lib.hid (show Lab.under (twoM a b) a = true by rw [twoM_yes hr]; exact meet_underL hfa hfb h h2)
  have U2 := Lib.hid (show Lab.under (twoM a b) b = true by rw [twoM_yes hr]; exact meet_underR hfa hfb h h2)
  have U3 := Lib.hid hu
  have U4 := Lib.hid hv
  obtain ⟨hB, hg1, a0, a1, a2, b0, b1, b2, c0, c1, c2⟩ := three_at w a b c hg
  clear hr h h2 hg hu hv
  go_enter Tryd.func7, Tryd.ntmps7
  go_wp2_with fail
  refine (shown_any _ hg1).mono ?_
  rintro e w1 ⟨he, hb⟩
  subst he
  replace a0 := cell_later hb a0
  replace a1 := cell_later hb a1
  replace a2 := cell_later hb a2
  replace b0 := cell_later hb b0
  replace b1 := cell_later hb b1
  replace b2 := cell_later hb b2
  replace c0 := cell_later hb c0
  replace c1 := cell_later hb c1
  replace c2 := cell_later hb c2
  replace hB := below_more hB hb
  replace hg1 := hg1.more hb
  clear hb
  go_wp2_with fail
  refine (Meet_any a b hfa hfb _ hg1).mono ?_
  rintro e w2 ⟨he, hb⟩
  rw [E.out] at he
  subst he
  replace a0 := cell_later hb a0
  replace a1 := cell_later hb a1
  replace a2 := cell_later hb a2
  replace b0 := cell_later hb b0
  replace b1 := cell_later hb b1
  replace b2 := cell_later hb b2
  replace c0 := cell_later hb c0
  replace c1 := cell_later hb c1
  replace c2 := cell_later hb c2
  replace hB := below_more hB hb
  replace hg1 := hg1.more hb
  clear hb
  have hn := Below.new w2 (.cells #[.int .i64 (twoM a b).l, .int .u64 (twoM a b).c, .int .i64 (twoM a b).i] 24)
  replace a0 := cell_later hn a0
  replace a1 := cell_later hn a1
  replace a2 := cell_later hn a2
  replace b0 := cell_later hn b0
  replace b1 := cell_later hn b1
  replace b2 := cell_later hn b2
  replace c0 := cell_later hn c0
  replace c1 := cell_later hn c1
  replace c2 := cell_later hn c2
  replace hB := below_more hB hn
  replace hg1 := hg1.more hn
  have x0 : (w2.alloc (.cells #[.int .i64 (twoM a b).l, .int .u64 (twoM a b).c, .int .i64 (twoM a b).i] 24)).cell? ⟨w2.heap.size, 0, none⟩ = some (.int .i64 (twoM a b).l) := by simp
  have x1 : (w2.alloc (.cells #[.int .i64 (twoM a b).l, .int .u64 (twoM a b).c, .int .i64 (twoM a b).i] 24)).cell? ⟨w2.heap.size, 1, none⟩ = some (.int .u64 (twoM a b).c) := by simp
  have x2 : (w2.alloc (.cells #[.int .i64 (twoM a b).l, .int .u64 (twoM a b).c, .int .i64 (twoM a b).i] 24)).cell? ⟨w2.heap.size, 2, none⟩ = some (.int .i64 (twoM a b).i) := by simp
  clear hn
  go_wp2_with fail
  refine (Under_any (twoM a b) a hfx hfa _).mono ?_
  rintro e w3 ⟨he, hb⟩
  rw [U1.out] at he
  subst he
  replace a0 := cell_later hb a0
  replace a1 := cell_later hb a1
  replace a2 := cell_later hb a2
  replace b0 := cell_later hb b0
  replace b1 := cell_later hb b1
  replace b2 := cell_later hb b2
  replace c0 := cell_later hb c0
  replace c1 := cell_later hb c1
  replace c2 := cell_later hb c2
  replace x0 := cell_later hb x0
  replace x1 := cell_later hb x1
  replace x2 := cell_later hb x2
  replace hB := below_more hB hb
  replace hg1 := hg1.more hb
  clear hb
  go_wp2_with fail
  refine (Under_any (twoM a b) b hfx hfb _).mono ?_
  rintro e w4 ⟨he, hb⟩
  rw [U2.out] at he
  subst he
  replace a0 := cell_later hb a0
  replace a1 := cell_later hb a1
  replace a2 := cell_later hb a2
  replace b0 := cell_later hb b0
  replace b1 := cell_later hb b1
  replace b2 := cell_later hb b2
  replace c0 := cell_later hb c0
  replace c1 := cell_later hb c1
  replace c2 := cell_later hb c2
  replace x0 := cell_later hb x0
  replace x1 := cell_later hb x1
  replace x2 := cell_later hb x2
  replace hB := below_more hB hb
  replace hg1 := hg1.more hb
  clear hb
  go_wp2_with fail
  refine (Under_any c a hfc hfa _).mono ?_
  rintro e w5 ⟨he, hb⟩
  rw [U3.out] at he
  subst he
  replace a0 := cell_later hb a0
  replace a1 := cell_later hb a1
  replace a2 := cell_later hb a2
  replace b0 := cell_later hb b0
  replace b1 := cell_later hb b1
  replace b2 := cell_later hb b2
  replace c0 := cell_later hb c0
  replace c1 := cell_later hb c1
  replace c2 := cell_later hb c2
  replace x0 := cell_later hb x0
  replace x1 := cell_later hb x1
  replace x2 := cell_later hb x2
  replace hB := below_more hB hb
  replace hg1 := hg1.more hb
  clear hb
  go_wp2_with fail
  refine (Under_any c b hfc hfb _).mono ?_
  rintro e w6 ⟨he, hb⟩
  rw [U4.out] at he
  subst he
  replace a0 := cell_later hb a0
  replace a1 := cell_later hb a1
  replace a2 := cell_later hb a2
  replace b0 := cell_later hb b0
  replace b1 := cell_later hb b1
  replace b2 := cell_later hb b2
  replace c0 := cell_later hb c0
  replace c1 := cell_later hb c1
  replace c2 := cell_later hb c2
  replace x0 := cell_later hb x0
  replace x1 := cell_later hb x1
  replace x2 := cell_later hb x2
  replace hB := below_more hB hb
  replace hg1 := hg1.more hb
  clear hb
  go_wp2
  go_ret
  exact ⟨rfl, hB⟩

set_option maxRecDepth 100000 in
set_option maxHeartbeats 2000000 in
theorem labelMeets_yes_tt (a b c : Lab) (hfa : a.fits) (hfb : b.fits) (hfc : c.fits) (h : a.right = true) (h2 : b.right = true) (hu : Lab.under c a = true) (hv : Lab.under c b = true) (w : World) (hg : ErrT w) :
    Calls Tryd.prog 7 #[.agg #[.int .i64 a.l, .int .u64 a.c, .int .i64 a.i], .agg #[.int .i64 b.l, .int .u64 b.c, .int .i64 b.i], .agg #[.int .i64 c.l, .int .u64 c.c, .int .i64 c.i]] w fun e w' => e = .returned (.bool true) ∧ Below w.heap.size w w' := by
  have _hu := And.intro hfa (And.intro hfb (hfc))
  clear _hu
  have hr : (a.right && b.right) = true := by rw [h, h2]; rfl
  have E := Lib.hid (twoE_yes hr)
  have hfx : (twoM a b).fits := fits_twoM hfa hfb
  have U1 := Lib.hid (show Lab.under (twoM a b) a = true by rw [twoM_yes hr]; exact meet_underL hfa hfb h h2)
  have U2 := Lib.hid (show Lab.under (twoM a b) b = true by rw [twoM_yes hr]; exact meet_underR hfa hfb h h2)
  have U3 := Lib.hid hu
  have U4 := Lib.hid hv
  have U5 := Lib.hid (show Lab.under c (twoM a b) = true by rw [twoM_yes hr]; exact under_meet hfa hfb hfc hu hv)
  obtain ⟨hB, hg1, a0, a1, a2, b0, b1, b2, c0, c1, c2⟩ := three_at w a b c hg
  clear hr h h2 hg hu hv
  go_enter Tryd.func7, Tryd.ntmps7
  go_wp2_with fail
  refine (shown_any _ hg1).mono ?_
  rintro e w1 ⟨he, hb⟩
  subst he
  replace a0 := cell_later hb a0
  replace a1 := cell_later hb a1
  replace a2 := cell_later hb a2
  replace b0 := cell_later hb b0
  replace b1 := cell_later hb b1
  replace b2 := cell_later hb b2
  replace c0 := cell_later hb c0
  replace c1 := cell_later hb c1
  replace c2 := cell_later hb c2
  replace hB := below_more hB hb
  replace hg1 := hg1.more hb
  clear hb
  go_wp2_with fail
  refine (Meet_any a b hfa hfb _ hg1).mono ?_
  rintro e w2 ⟨he, hb⟩
  rw [E.out] at he
  subst he
  replace a0 := cell_later hb a0
  replace a1 := cell_later hb a1
  replace a2 := cell_later hb a2
  replace b0 := cell_later hb b0
  replace b1 := cell_later hb b1
  replace b2 := cell_later hb b2
  replace c0 := cell_later hb c0
  replace c1 := cell_later hb c1
  replace c2 := cell_later hb c2
  replace hB := below_more hB hb
  replace hg1 := hg1.more hb
  clear hb
  have hn := Below.new w2 (.cells #[.int .i64 (twoM a b).l, .int .u64 (twoM a b).c, .int .i64 (twoM a b).i] 24)
  replace a0 := cell_later hn a0
  replace a1 := cell_later hn a1
  replace a2 := cell_later hn a2
  replace b0 := cell_later hn b0
  replace b1 := cell_later hn b1
  replace b2 := cell_later hn b2
  replace c0 := cell_later hn c0
  replace c1 := cell_later hn c1
  replace c2 := cell_later hn c2
  replace hB := below_more hB hn
  replace hg1 := hg1.more hn
  have x0 : (w2.alloc (.cells #[.int .i64 (twoM a b).l, .int .u64 (twoM a b).c, .int .i64 (twoM a b).i] 24)).cell? ⟨w2.heap.size, 0, none⟩ = some (.int .i64 (twoM a b).l) := by simp
  have x1 : (w2.alloc (.cells #[.int .i64 (twoM a b).l, .int .u64 (twoM a b).c, .int .i64 (twoM a b).i] 24)).cell? ⟨w2.heap.size, 1, none⟩ = some (.int .u64 (twoM a b).c) := by simp
  have x2 : (w2.alloc (.cells #[.int .i64 (twoM a b).l, .int .u64 (twoM a b).c, .int .i64 (twoM a b).i] 24)).cell? ⟨w2.heap.size, 2, none⟩ = some (.int .i64 (twoM a b).i) := by simp
  clear hn
  go_wp2_with fail
  refine (Under_any (twoM a b) a hfx hfa _).mono ?_
  rintro e w3 ⟨he, hb⟩
  rw [U1.out] at he
  subst he
  replace a0 := cell_later hb a0
  replace a1 := cell_later hb a1
  replace a2 := cell_later hb a2
  replace b0 := cell_later hb b0
  replace b1 := cell_later hb b1
  replace b2 := cell_later hb b2
  replace c0 := cell_later hb c0
  replace c1 := cell_later hb c1
  replace c2 := cell_later hb c2
  replace x0 := cell_later hb x0
  replace x1 := cell_later hb x1
  replace x2 := cell_later hb x2
  replace hB := below_more hB hb
  replace hg1 := hg1.more hb
  clear hb
  go_wp2_with fail
  refine (Under_any (twoM a b) b hfx hfb _).mono ?_
  rintro e w4 ⟨he, hb⟩
  rw [U2.out] at he
  subst he
  replace a0 := cell_later hb a0
  replace a1 := cell_later hb a1
  replace a2 := cell_later hb a2
  replace b0 := cell_later hb b0
  replace b1 := cell_later hb b1
  replace b2 := cell_later hb b2
  replace c0 := cell_later hb c0
  replace c1 := cell_later hb c1
  replace c2 := cell_later hb c2
  replace x0 := cell_later hb x0
  replace x1 := cell_later hb x1
  replace x2 := cell_later hb x2
  replace hB := below_more hB hb
  replace hg1 := hg1.more hb
  clear hb
  go_wp2_with fail
  refine (Under_any c a hfc hfa _).mono ?_
  rintro e w5 ⟨he, hb⟩
  rw [U3.out] at he
  subst he
  replace a0 := cell_later hb a0
  replace a1 := cell_later hb a1
  replace a2 := cell_later hb a2
  replace b0 := cell_later hb b0
  replace b1 := cell_later hb b1
  replace b2 := cell_later hb b2
  replace c0 := cell_later hb c0
  replace c1 := cell_later hb c1
  replace c2 := cell_later hb c2
  replace x0 := cell_later hb x0
  replace x1 := cell_later hb x1
  replace x2 := cell_later hb x2
  replace hB := below_more hB hb
  replace hg1 := hg1.more hb
  clear hb
  go_wp2_with fail
  refine (Under_any c b hfc hfb _).mono ?_
  rintro e w6 ⟨he, hb⟩
  rw [U4.out] at he
  subst he
  replace a0 := cell_later hb a0
  replace a1 := cell_later hb a1
  replace a2 := cell_later hb a2
  replace b0 := cell_later hb b0
  replace b1 := cell_later hb b1
  replace b2 := cell_later hb b2
  replace c0 := cell_later hb c0
  replace c1 := cell_later hb c1
  replace c2 := cell_later hb c2
  replace x0 := cell_later hb x0
  replace x1 := cell_later hb x1
  replace x2 := cell_later hb x2
  replace hB := below_more hB hb
  replace hg1 := hg1.more hb
  clear hb
  go_wp2_with fail
  refine (Under_any c (twoM a b) hfc hfx _).mono ?_
  rintro e w7 ⟨he, hb⟩
  rw [U5.out] at he
  subst he
  replace a0 := cell_later hb a0
  replace a1 := cell_later hb a1
  replace a2 := cell_later hb a2
  replace b0 := cell_later hb b0
  replace b1 := cell_later hb b1
  replace b2 := cell_later hb b2
  replace c0 := cell_later hb c0
  replace c1 := cell_later hb c1
  replace c2 := cell_later hb c2
  replace x0 := cell_later hb x0
  replace x1 := cell_later hb x1
  replace x2 := cell_later hb x2
  replace hB := below_more hB hb
  replace hg1 := hg1.more hb
  clear hb
  go_wp2
  go_ret
  exact ⟨rfl, hB⟩

theorem labelMeets_any (a b c : Lab) (hfa : a.fits) (hfb : b.fits) (hfc : c.fits) (w : World) (hg : ErrT w) :
    Calls Tryd.prog 7 #[.agg #[.int .i64 a.l, .int .u64 a.c, .int .i64 a.i], .agg #[.int .i64 b.l, .int .u64 b.c, .int .i64 b.i], .agg #[.int .i64 c.l, .int .u64 c.c, .int .i64 c.i]] w fun e w' => e = .returned (.bool true) ∧ Below w.heap.size w w' := by
  cases h : a.right
  · exact labelMeets_no1 a b c hfa hfb hfc h w hg
  · cases h2 : b.right
    · exact labelMeets_no2 a b c hfa hfb hfc h h2 w hg
    · cases hu : Lab.under c a
      · exact labelMeets_yes_f a b c hfa hfb hfc h h2 hu w hg
      · cases hv : Lab.under c b
        · exact labelMeets_yes_tf a b c hfa hfb hfc h h2 hu hv w hg
        · exact labelMeets_yes_tt a b c hfa hfb hfc h h2 hu hv w hg

end Go.Proofs.YtafghaceahchhaaDoor
