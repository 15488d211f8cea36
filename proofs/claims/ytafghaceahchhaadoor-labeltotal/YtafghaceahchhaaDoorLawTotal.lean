/- The law LabelTotal, walked. -/
import Derived.Test.YtafghaceahchhaaDoorLabShown
import Derived.Test.YtafghaceahchhaaDoorLabFacts
namespace Go.Proofs.YtafghaceahchhaaDoor
open Go.RowKit Go.Proofs.Cats Go.Shelf

theorem cmp_cases (a b : Lab) : a.cmp b = 0 ∨ a.cmp b = -1 ∨ a.cmp b = 1 := by
  unfold Lab.cmp
  split
  · exact .inl rfl
  · split
    · exact .inr (.inl rfl)
    · exact .inr (.inr rfl)
theorem ahead_iff (a b : Lab) : a.ahead b = true ↔ a.l < b.l ∨ a.l = b.l ∧ (a.c < b.c ∨ a.c = b.c ∧ a.i < b.i) := by
  unfold Lab.ahead
  by_cases h1 : a.l = b.l
  · by_cases h2 : a.c = b.c
    · simp [h1, h2]
    · simp [h1, h2]
  · simp [h1]
theorem cmp_zero (a b : Lab) : a.cmp b = 0 ↔ a = b := by
  rw [← Lab.same_iff]
  unfold Lab.cmp
  constructor
  · intro h
    split at h
    · assumption
    · split at h <;> omega
  · intro h; rw [h]; rfl
theorem cmp_neg (a b : Lab) : a.cmp b = -1 ↔ a.ahead b = true := by
  unfold Lab.cmp
  constructor
  · intro h
    split at h
    · omega
    · split at h
      · assumption
      · omega
  · intro h
    have hn : a.same b = false := by
      cases e : a.same b
      · rfl
      · rw [Lab.same_iff] at e
        subst e
        rw [ahead_iff] at h
        omega
    rw [hn, h]; rfl
theorem lab_ne {a b : Lab} (h : a ≠ b) : a.l ≠ b.l ∨ a.c ≠ b.c ∨ a.i ≠ b.i := by
  by_cases h1 : a.l = b.l
  · by_cases h2 : a.c = b.c
    · by_cases h3 : a.i = b.i
      · exact absurd (Lab.ext h1 h2 h3) h
      · exact .inr (.inr h3)
    · exact .inr (.inl h2)
  · exact .inl h1
theorem cmp_pos (a b : Lab) : a.cmp b = 1 ↔ b.cmp a = -1 := by
  rw [cmp_neg]
  have hz := cmp_zero a b
  have hn := cmp_neg a b
  constructor
  · intro h
    have h1 : a ≠ b := fun e => by rw [hz.2 e] at h; omega
    have h2 : ¬ a.ahead b = true := fun e => by rw [hn.2 e] at h; omega
    rw [ahead_iff] at h2 ⊢
    have := lab_ne h1
    omega
  · intro h
    have h1 : ¬ a.cmp b = 0 := fun e => by rw [hz] at e; subst e; rw [ahead_iff] at h; omega
    have h2 : ¬ a.cmp b = -1 := fun e => by rw [hn, ahead_iff] at e; rw [ahead_iff] at h; omega
    have := cmp_cases a b
    omega
theorem cmp_trans {a b c : Lab} (h : a.cmp b = -1) (k : b.cmp c = -1) : a.cmp c = -1 := by
  rw [cmp_neg, ahead_iff] at *
  omega
theorem cmp_under {a b : Lab} (ha : a.fits) (hb : b.fits) (h : a.cmp b = 1) (k : a.under b = true) : a.l = b.l ∧ a.c = b.c := by
  rw [cmp_pos, cmp_neg, ahead_iff] at h
  rw [under_iff' ha hb] at k
  have := k.2.2.2.1.le
  omega

set_option maxRecDepth 100000 in
set_option maxHeartbeats 2000000 in
theorem labelTotal_0 (a c : Lab) (hfa : a.fits) (hfc : c.fits) (w : World) (hg : ErrT w) :
    Calls Tryd.prog 9 #[.agg #[.int .i64 a.l, .int .u64 a.c, .int .i64 a.i], .agg #[.int .i64 a.l, .int .u64 a.c, .int .i64 a.i], .agg #[.int .i64 c.l, .int .u64 c.c, .int .i64 c.i]] w fun e w' => e = .returned (.bool true) ∧ Below w.heap.size w w' := by
  have _hu := And.intro hfa (hfc)
  clear _hu
  have X := Lib.hid ((cmp_zero a a).2 rfl)
  obtain ⟨u, hu⟩ : ∃ u, a.under a = u := ⟨_, rfl⟩
  have U := Lib.hid hu
  clear hu
  have qa := eqL a a
  have qb := eqInL a a
  rw [same_self a] at qa qb
  obtain ⟨hB, hg1, a0, a1, a2, b0, b1, b2, c0, c1, c2⟩ := three_at w a a c hg
  clear hg
  go_enter Tryd.func9, Tryd.ntmps9
  go_wp2_with fail
  refine (shown_any _ hg1).mono ?_
  rintro e w1 ⟨he, hb⟩
  subst he
  replace a0 := cell_later hb a0
  replace a1 := cell_later hb a1
  replace a2 := cell_later hb a2
  replace b0 := cell_later hb b0
  replace b1 := cell_later hb b1
  replace b2 := cell_later hb b2
  replace c0 := cell_later hb c0
  replace c1 := cell_later hb c1
  replace c2 := cell_later hb c2
  replace hB := below_more hB hb
  replace hg1 := hg1.more hb
  clear hb
  go_wp2_with fail
  refine (compare_any a a _).mono ?_
  rintro e w2 ⟨he, hb⟩
  rw [X.out] at he
  subst he
  replace a0 := cell_later hb a0
  replace a1 := cell_later hb a1
  replace a2 := cell_later hb a2
  replace b0 := cell_later hb b0
  replace b1 := cell_later hb b1
  replace b2 := cell_later hb b2
  replace c0 := cell_later hb c0
  replace c1 := cell_later hb c1
  replace c2 := cell_later hb c2
  replace hB := below_more hB hb
  replace hg1 := hg1.more hb
  clear hb
  go_wp2_with fail
  refine (compare_any a c _).mono ?_
  rintro e w3 ⟨he, hb⟩
  subst he
  replace a0 := cell_later hb a0
  replace a1 := cell_later hb a1
  replace a2 := cell_later hb a2
  replace b0 := cell_later hb b0
  replace b1 := cell_later hb b1
  replace b2 := cell_later hb b2
  replace c0 := cell_later hb c0
  replace c1 := cell_later hb c1
  replace c2 := cell_later hb c2
  replace hB := below_more hB hb
  replace hg1 := hg1.more hb
  clear hb
  go_wp2_with fail
  refine (compare_any a a _).mono ?_
  rintro e w4 ⟨he, hb⟩
  rw [X.out] at he
  subst he
  replace a0 := cell_later hb a0
  replace a1 := cell_later hb a1
  replace a2 := cell_later hb a2
  replace b0 := cell_later hb b0
  replace b1 := cell_later hb b1
  replace b2 := cell_later hb b2
  replace c0 := cell_later hb c0
  replace c1 := cell_later hb c1
  replace c2 := cell_later hb c2
  replace hB := below_more hB hb
  replace hg1 := hg1.more hb
  clear hb
  go_wp2_with fail
  refine (Under_any a a hfa hfa _).mono ?_
  rintro e w5 ⟨he, hb⟩
  rw [U.out] at he
  subst he
  replace hB := below_more hB hb
  clear hb
  cases u
  all_goals
    go_wp2
    go_ret
    exact ⟨rfl, hB⟩

set_option maxRecDepth 100000 in
set_option maxHeartbeats 2000000 in
theorem labelTotal_n_y0_n (a b c : Lab) (hfa : a.fits) (hfb : b.fits) (hfc : c.fits) (hx : a.cmp b = -1) (hy : b.cmp c = 0) (hl : (a.l == b.l) = false) (w : World) (hg : ErrT w) :
    Calls Tryd.prog 9 #[.agg #[.int .i64 a.l, .int .u64 a.c, .int .i64 a.i], .agg #[.int .i64 b.l, .int .u64 b.c, .int .i64 b.i], .agg #[.int .i64 c.l, .int .u64 c.c, .int .i64 c.i]] w fun e w' => e = .returned (.bool true) ∧ Below w.heap.size w w' := by
  have _hu := And.intro hfa (And.intro hfb (hfc))
  clear _hu
  have X := Lib.hid hx
  have Y := Lib.hid hy
  have Z := Lib.hid ((cmp_pos b a).2 hx)
  have hne : a.same b = false := by
    cases e : a.same b
    · rfl
    · rw [Lab.same_iff, ← cmp_zero] at e; omega
  have qa := eqL a b
  have qb := eqInL a b
  rw [hne] at qa qb
  obtain ⟨u, hu⟩ : ∃ u, a.under b = u := ⟨_, rfl⟩
  have U := Lib.hid hu
  clear hu hne hx hy
  have z1 : (a.l == b.l) = false := hl
  obtain ⟨hB, hg1, a0, a1, a2, b0, b1, b2, c0, c1, c2⟩ := three_at w a b c hg
  clear hg hl
  go_enter Tryd.func9, Tryd.ntmps9
  go_wp2_with fail
  refine (shown_any _ hg1).mono ?_
  rintro e w1 ⟨he, hb⟩
  subst he
  replace a0 := cell_later hb a0
  replace a1 := cell_later hb a1
  replace a2 := cell_later hb a2
  replace b0 := cell_later hb b0
  replace b1 := cell_later hb b1
  replace b2 := cell_later hb b2
  replace c0 := cell_later hb c0
  replace c1 := cell_later hb c1
  replace c2 := cell_later hb c2
  replace hB := below_more hB hb
  replace hg1 := hg1.more hb
  clear hb
  go_wp2_with fail
  refine (compare_any a b _).mono ?_
  rintro e w2 ⟨he, hb⟩
  rw [X.out] at he
  subst he
  replace a0 := cell_later hb a0
  replace a1 := cell_later hb a1
  replace a2 := cell_later hb a2
  replace b0 := cell_later hb b0
  replace b1 := cell_later hb b1
  replace b2 := cell_later hb b2
  replace c0 := cell_later hb c0
  replace c1 := cell_later hb c1
  replace c2 := cell_later hb c2
  replace hB := below_more hB hb
  replace hg1 := hg1.more hb
  clear hb
  go_wp2_with fail
  refine (compare_any b c _).mono ?_
  rintro e w3 ⟨he, hb⟩
  rw [Y.out] at he
  subst he
  replace a0 := cell_later hb a0
  replace a1 := cell_later hb a1
  replace a2 := cell_later hb a2
  replace b0 := cell_later hb b0
  replace b1 := cell_later hb b1
  replace b2 := cell_later hb b2
  replace c0 := cell_later hb c0
  replace c1 := cell_later hb c1
  replace c2 := cell_later hb c2
  replace hB := below_more hB hb
  replace hg1 := hg1.more hb
  clear hb
  go_wp2_with fail
  refine (compare_any b a _).mono ?_
  rintro e w4 ⟨he, hb⟩
  rw [Z.out] at he
  subst he
  replace a0 := cell_later hb a0
  replace a1 := cell_later hb a1
  replace a2 := cell_later hb a2
  replace b0 := cell_later hb b0
  replace b1 := cell_later hb b1
  replace b2 := cell_later hb b2
  replace c0 := cell_later hb c0
  replace c1 := cell_later hb c1
  replace c2 := cell_later hb c2
  replace hB := below_more hB hb
  replace hg1 := hg1.more hb
  clear hb
  go_wp2_with fail
  refine (Under_any a b hfa hfb _).mono ?_
  rintro e w5 ⟨he, hb⟩
  rw [U.out] at he
  subst he
  replace hB := below_more hB hb
  clear hb
  cases u
  all_goals
    go_wp2
    go_ret
    exact ⟨rfl, hB⟩

set_option maxRecDepth 100000 in
set_option maxHeartbeats 2000000 in
theorem labelTotal_n_y0_lf (a b c : Lab) (hfa : a.fits) (hfb : b.fits) (hfc : c.fits) (hx : a.cmp b = -1) (hy : b.cmp c = 0) (hl : (a.l == b.l) = true) (hc : (a.c == b.c) = false) (w : World) (hg : ErrT w) :
    Calls Tryd.prog 9 #[.agg #[.int .i64 a.l, .int .u64 a.c, .int .i64 a.i], .agg #[.int .i64 b.l, .int .u64 b.c, .int .i64 b.i], .agg #[.int .i64 c.l, .int .u64 c.c, .int .i64 c.i]] w fun e w' => e = .returned (.bool true) ∧ Below w.heap.size w w' := by
  have _hu := And.intro hfa (And.intro hfb (hfc))
  clear _hu
  have X := Lib.hid hx
  have Y := Lib.hid hy
  have Z := Lib.hid ((cmp_pos b a).2 hx)
  have hne : a.same b = false := by
    cases e : a.same b
    · rfl
    · rw [Lab.same_iff, ← cmp_zero] at e; omega
  have qa := eqL a b
  have qb := eqInL a b
  rw [hne] at qa qb
  obtain ⟨u, hu⟩ : ∃ u, a.under b = u := ⟨_, rfl⟩
  have U := Lib.hid hu
  clear hu hne hx hy
  have z1 : (a.l == b.l) = true := hl
  have z2 : (((a.c : Nat) : Int) == ((b.c : Nat) : Int)) = false := by rw [beq_nat]; exact hc
  obtain ⟨hB, hg1, a0, a1, a2, b0, b1, b2, c0, c1, c2⟩ := three_at w a b c hg
  clear hg hl hc
  go_enter Tryd.func9, Tryd.ntmps9
  go_wp2_with fail
  refine (shown_any _ hg1).mono ?_
  rintro e w1 ⟨he, hb⟩
  subst he
  replace a0 := cell_later hb a0
  replace a1 := cell_later hb a1
  replace a2 := cell_later hb a2
  replace b0 := cell_later hb b0
  replace b1 := cell_later hb b1
  replace b2 := cell_later hb b2
  replace c0 := cell_later hb c0
  replace c1 := cell_later hb c1
  replace c2 := cell_later hb c2
  replace hB := below_more hB hb
  replace hg1 := hg1.more hb
  clear hb
  go_wp2_with fail
  refine (compare_any a b _).mono ?_
  rintro e w2 ⟨he, hb⟩
  rw [X.out] at he
  subst he
  replace a0 := cell_later hb a0
  replace a1 := cell_later hb a1
  replace a2 := cell_later hb a2
  replace b0 := cell_later hb b0
  replace b1 := cell_later hb b1
  replace b2 := cell_later hb b2
  replace c0 := cell_later hb c0
  replace c1 := cell_later hb c1
  replace c2 := cell_later hb c2
  replace hB := below_more hB hb
  replace hg1 := hg1.more hb
  clear hb
  go_wp2_with fail
  refine (compare_any b c _).mono ?_
  rintro e w3 ⟨he, hb⟩
  rw [Y.out] at he
  subst he
  replace a0 := cell_later hb a0
  replace a1 := cell_later hb a1
  replace a2 := cell_later hb a2
  replace b0 := cell_later hb b0
  replace b1 := cell_later hb b1
  replace b2 := cell_later hb b2
  replace c0 := cell_later hb c0
  replace c1 := cell_later hb c1
  replace c2 := cell_later hb c2
  replace hB := below_more hB hb
  replace hg1 := hg1.more hb
  clear hb
  go_wp2_with fail
  refine (compare_any b a _).mono ?_
  rintro e w4 ⟨he, hb⟩
  rw [Z.out] at he
  subst he
  replace a0 := cell_later hb a0
  replace a1 := cell_later hb a1
  replace a2 := cell_later hb a2
  replace b0 := cell_later hb b0
  replace b1 := cell_later hb b1
  replace b2 := cell_later hb b2
  replace c0 := cell_later hb c0
  replace c1 := cell_later hb c1
  replace c2 := cell_later hb c2
  replace hB := below_more hB hb
  replace hg1 := hg1.more hb
  clear hb
  go_wp2_with fail
  refine (Under_any a b hfa hfb _).mono ?_
  rintro e w5 ⟨he, hb⟩
  rw [U.out] at he
  subst he
  replace hB := below_more hB hb
  clear hb
  cases u
  all_goals
    go_wp2
    go_ret
    exact ⟨rfl, hB⟩

set_option maxRecDepth 100000 in
set_option maxHeartbeats 2000000 in
theorem labelTotal_n_y0_ll (a b c : Lab) (hfa : a.fits) (hfb : b.fits) (hfc : c.fits) (hx : a.cmp b = -1) (hy : b.cmp c = 0) (hl : (a.l == b.l) = true) (hc : (a.c == b.c) = true) (w : World) (hg : ErrT w) :
    Calls Tryd.prog 9 #[.agg #[.int .i64 a.l, .int .u64 a.c, .int .i64 a.i], .agg #[.int .i64 b.l, .int .u64 b.c, .int .i64 b.i], .agg #[.int .i64 c.l, .int .u64 c.c, .int .i64 c.i]] w fun e w' => e = .returned (.bool true) ∧ Below w.heap.size w w' := by
  have _hu := And.intro hfa (And.intro hfb (hfc))
  clear _hu
  have X := Lib.hid hx
  have Y := Lib.hid hy
  have Z := Lib.hid ((cmp_pos b a).2 hx)
  have hne : a.same b = false := by
    cases e : a.same b
    · rfl
    · rw [Lab.same_iff, ← cmp_zero] at e; omega
  have qa := eqL a b
  have qb := eqInL a b
  rw [hne] at qa qb
  obtain ⟨u, hu⟩ : ∃ u, a.under b = u := ⟨_, rfl⟩
  have U := Lib.hid hu
  clear hu hne hx hy
  have z1 : (a.l == b.l) = true := hl
  have z2 : (((a.c : Nat) : Int) == ((b.c : Nat) : Int)) = true := by rw [beq_nat]; exact hc
  obtain ⟨hB, hg1, a0, a1, a2, b0, b1, b2, c0, c1, c2⟩ := three_at w a b c hg
  clear hg hl hc
  go_enter Tryd.func9, Tryd.ntmps9
  go_wp2_with fail
  refine (shown_any _ hg1).mono ?_
  rintro e w1 ⟨he, hb⟩
  subst he
  replace a0 := cell_later hb a0
  replace a1 := cell_later hb a1
  replace a2 := cell_later hb a2
  replace b0 := cell_later hb b0
  replace b1 := cell_later hb b1
  replace b2 := cell_later hb b2
  replace c0 := cell_later hb c0
  replace c1 := cell_later hb c1
  replace c2 := cell_later hb c2
  replace hB := below_more hB hb
  replace hg1 := hg1.more hb
  clear hb
  go_wp2_with fail
  refine (compare_any a b _).mono ?_
  rintro e w2 ⟨he, hb⟩
  rw [X.out] at he
  subst he
  replace a0 := cell_later hb a0
  replace a1 := cell_later hb a1
  replace a2 := cell_later hb a2
  replace b0 := cell_later hb b0
  replace b1 := cell_later hb b1
  replace b2 := cell_later hb b2
  replace c0 := cell_later hb c0
  replace c1 := cell_later hb c1
  replace c2 := cell_later hb c2
  replace hB := below_more hB hb
  replace hg1 := hg1.more hb
  clear hb
  go_wp2_with fail
  refine (compare_any b c _).mono ?_
  rintro e w3 ⟨he, hb⟩
  rw [Y.out] at he
  subst he
  replace a0 := cell_later hb a0
  replace a1 := cell_later hb a1
  replace a2 := cell_later hb a2
  replace b0 := cell_later hb b0
  replace b1 := cell_later hb b1
  replace b2 := cell_later hb b2
  replace c0 := cell_later hb c0
  replace c1 := cell_later hb c1
  replace c2 := cell_later hb c2
  replace hB := below_more hB hb
  replace hg1 := hg1.more hb
  clear hb
  go_wp2_with fail
  refine (compare_any b a _).mono ?_
  rintro e w4 ⟨he, hb⟩
  rw [Z.out] at he
  subst he
  replace a0 := cell_later hb a0
  replace a1 := cell_later hb a1
  replace a2 := cell_later hb a2
  replace b0 := cell_later hb b0
  replace b1 := cell_later hb b1
  replace b2 := cell_later hb b2
  replace c0 := cell_later hb c0
  replace c1 := cell_later hb c1
  replace c2 := cell_later hb c2
  replace hB := below_more hB hb
  replace hg1 := hg1.more hb
  clear hb
  go_wp2_with fail
  refine (Under_any a b hfa hfb _).mono ?_
  rintro e w5 ⟨he, hb⟩
  rw [U.out] at he
  subst he
  replace hB := below_more hB hb
  clear hb
  cases u
  all_goals
    go_wp2
    go_ret
    exact ⟨rfl, hB⟩

set_option maxRecDepth 100000 in
set_option maxHeartbeats 2000000 in
theorem labelTotal_n_y1_n (a b c : Lab) (hfa : a.fits) (hfb : b.fits) (hfc : c.fits) (hx : a.cmp b = -1) (hy : b.cmp c = 1) (hl : (a.l == b.l) = false) (w : World) (hg : ErrT w) :
    Calls Tryd.prog 9 #[.agg #[.int .i64 a.l, .int .u64 a.c, .int .i64 a.i], .agg #[.int .i64 b.l, .int .u64 b.c, .int .i64 b.i], .agg #[.int .i64 c.l, .int .u64 c.c, .int .i64 c.i]] w fun e w' => e = .returned (.bool true) ∧ Below w.heap.size w w' := by
  have _hu := And.intro hfa (And.intro hfb (hfc))
  clear _hu
  have X := Lib.hid hx
  have Y := Lib.hid hy
  have Z := Lib.hid ((cmp_pos b a).2 hx)
  have hne : a.same b = false := by
    cases e : a.same b
    · rfl
    · rw [Lab.same_iff, ← cmp_zero] at e; omega
  have qa := eqL a b
  have qb := eqInL a b
  rw [hne] at qa qb
  obtain ⟨u, hu⟩ : ∃ u, a.under b = u := ⟨_, rfl⟩
  have U := Lib.hid hu
  clear hu hne hx hy
  have z1 : (a.l == b.l) = false := hl
  obtain ⟨hB, hg1, a0, a1, a2, b0, b1, b2, c0, c1, c2⟩ := three_at w a b c hg
  clear hg hl
  go_enter Tryd.func9, Tryd.ntmps9
  go_wp2_with fail
  refine (shown_any _ hg1).mono ?_
  rintro e w1 ⟨he, hb⟩
  subst he
  replace a0 := cell_later hb a0
  replace a1 := cell_later hb a1
  replace a2 := cell_later hb a2
  replace b0 := cell_later hb b0
  replace b1 := cell_later hb b1
  replace b2 := cell_later hb b2
  replace c0 := cell_later hb c0
  replace c1 := cell_later hb c1
  replace c2 := cell_later hb c2
  replace hB := below_more hB hb
  replace hg1 := hg1.more hb
  clear hb
  go_wp2_with fail
  refine (compare_any a b _).mono ?_
  rintro e w2 ⟨he, hb⟩
  rw [X.out] at he
  subst he
  replace a0 := cell_later hb a0
  replace a1 := cell_later hb a1
  replace a2 := cell_later hb a2
  replace b0 := cell_later hb b0
  replace b1 := cell_later hb b1
  replace b2 := cell_later hb b2
  replace c0 := cell_later hb c0
  replace c1 := cell_later hb c1
  replace c2 := cell_later hb c2
  replace hB := below_more hB hb
  replace hg1 := hg1.more hb
  clear hb
  go_wp2_with fail
  refine (compare_any b c _).mono ?_
  rintro e w3 ⟨he, hb⟩
  rw [Y.out] at he
  subst he
  replace a0 := cell_later hb a0
  replace a1 := cell_later hb a1
  replace a2 := cell_later hb a2
  replace b0 := cell_later hb b0
  replace b1 := cell_later hb b1
  replace b2 := cell_later hb b2
  replace c0 := cell_later hb c0
  replace c1 := cell_later hb c1
  replace c2 := cell_later hb c2
  replace hB := below_more hB hb
  replace hg1 := hg1.more hb
  clear hb
  go_wp2_with fail
  refine (compare_any b a _).mono ?_
  rintro e w4 ⟨he, hb⟩
  rw [Z.out] at he
  subst he
  replace a0 := cell_later hb a0
  replace a1 := cell_later hb a1
  replace a2 := cell_later hb a2
  replace b0 := cell_later hb b0
  replace b1 := cell_later hb b1
  replace b2 := cell_later hb b2
  replace c0 := cell_later hb c0
  replace c1 := cell_later hb c1
  replace c2 := cell_later hb c2
  replace hB := below_more hB hb
  replace hg1 := hg1.more hb
  clear hb
  go_wp2_with fail
  refine (Under_any a b hfa hfb _).mono ?_
  rintro e w5 ⟨he, hb⟩
  rw [U.out] at he
  subst he
  replace hB := below_more hB hb
  clear hb
  cases u
  all_goals
    go_wp2
    go_ret
    exact ⟨rfl, hB⟩

set_option maxRecDepth 100000 in
set_option maxHeartbeats 2000000 in
theorem labelTotal_n_y1_lf (a b c : Lab) (hfa : a.fits) (hfb : b.fits) (hfc : c.fits) (hx : a.cmp b = -1) (hy : b.cmp c = 1) (hl : (a.l == b.l) = true) (hc : (a.c == b.c) = false) (w : World) (hg : ErrT w) :
    Calls Tryd.prog 9 #[.agg #[.int .i64 a.l, .int .u64 a.c, .int .i64 a.i], .agg #[.int .i64 b.l, .int .u64 b.c, .int .i64 b.i], .agg #[.int .i64 c.l, .int .u64 c.c, .int .i64 c.i]] w fun e w' => e = .returned (.bool true) ∧ Below w.heap.size w w' := by
  have _hu := And.intro hfa (And.intro hfb (hfc))
  clear _hu
  have X := Lib.hid hx
  have Y := Lib.hid hy
  have Z := Lib.hid ((cmp_pos b a).2 hx)
  have hne : a.same b = false := by
    cases e : a.same b
    · rfl
    · rw [Lab.same_iff, ← cmp_zero] at e; omega
  have qa := eqL a b
  have qb := eqInL a b
  rw [hne] at qa qb
  obtain ⟨u, hu⟩ : ∃ u, a.under b = u := ⟨_, rfl⟩
  have U := Lib.hid hu
  clear hu hne hx hy
  have z1 : (a.l == b.l) = true := hl
  have z2 : (((a.c : Nat) : Int) == ((b.c : Nat) : Int)) = false := by rw [beq_nat]; exact hc
  obtain ⟨hB, hg1, a0, a1, a2, b0, b1, b2, c0, c1, c2⟩ := three_at w a b c hg
  clear hg hl hc
  go_enter Tryd.func9, Tryd.ntmps9
  go_wp2_with fail
  refine (shown_any _ hg1).mono ?_
  rintro e w1 ⟨he, hb⟩
  subst he
  replace a0 := cell_later hb a0
  replace a1 := cell_later hb a1
  replace a2 := cell_later hb a2
  replace b0 := cell_later hb b0
  replace b1 := cell_later hb b1
  replace b2 := cell_later hb b2
  replace c0 := cell_later hb c0
  replace c1 := cell_later hb c1
  replace c2 := cell_later hb c2
  replace hB := below_more hB hb
  replace hg1 := hg1.more hb
  clear hb
  go_wp2_with fail
  refine (compare_any a b _).mono ?_
  rintro e w2 ⟨he, hb⟩
  rw [X.out] at he
  subst he
  replace a0 := cell_later hb a0
  replace a1 := cell_later hb a1
  replace a2 := cell_later hb a2
  replace b0 := cell_later hb b0
  replace b1 := cell_later hb b1
  replace b2 := cell_later hb b2
  replace c0 := cell_later hb c0
  replace c1 := cell_later hb c1
  replace c2 := cell_later hb c2
  replace hB := below_more hB hb
  replace hg1 := hg1.more hb
  clear hb
  go_wp2_with fail
  refine (compare_any b c _).mono ?_
  rintro e w3 ⟨he, hb⟩
  rw [Y.out] at he
  subst he
  replace a0 := cell_later hb a0
  replace a1 := cell_later hb a1
  replace a2 := cell_later hb a2
  replace b0 := cell_later hb b0
  replace b1 := cell_later hb b1
  replace b2 := cell_later hb b2
  replace c0 := cell_later hb c0
  replace c1 := cell_later hb c1
  replace c2 := cell_later hb c2
  replace hB := below_more hB hb
  replace hg1 := hg1.more hb
  clear hb
  go_wp2_with fail
  refine (compare_any b a _).mono ?_
  rintro e w4 ⟨he, hb⟩
  rw [Z.out] at he
  subst he
  replace a0 := cell_later hb a0
  replace a1 := cell_later hb a1
  replace a2 := cell_later hb a2
  replace b0 := cell_later hb b0
  replace b1 := cell_later hb b1
  replace b2 := cell_later hb b2
  replace c0 := cell_later hb c0
  replace c1 := cell_later hb c1
  replace c2 := cell_later hb c2
  replace hB := below_more hB hb
  replace hg1 := hg1.more hb
  clear hb
  go_wp2_with fail
  refine (Under_any a b hfa hfb _).mono ?_
  rintro e w5 ⟨he, hb⟩
  rw [U.out] at he
  subst he
  replace hB := below_more hB hb
  clear hb
  cases u
  all_goals
    go_wp2
    go_ret
    exact ⟨rfl, hB⟩

set_option maxRecDepth 100000 in
set_option maxHeartbeats 2000000 in
theorem labelTotal_n_y1_ll (a b c : Lab) (hfa : a.fits) (hfb : b.fits) (hfc : c.fits) (hx : a.cmp b = -1) (hy : b.cmp c = 1) (hl : (a.l == b.l) = true) (hc : (a.c == b.c) = true) (w : World) (hg : ErrT w) :
    Calls Tryd.prog 9 #[.agg #[.int .i64 a.l, .int .u64 a.c, .int .i64 a.i], .agg #[.int .i64 b.l, .int .u64 b.c, .int .i64 b.i], .agg #[.int .i64 c.l, .int .u64 c.c, .int .i64 c.i]] w fun e w' => e = .returned (.bool true) ∧ Below w.heap.size w w' := by
  have _hu := And.intro hfa (And.intro hfb (hfc))
  clear _hu
  have X := Lib.hid hx
  have Y := Lib.hid hy
  have Z := Lib.hid ((cmp_pos b a).2 hx)
  have hne : a.same b = false := by
    cases e : a.same b
    · rfl
    · rw [Lab.same_iff, ← cmp_zero] at e; omega
  have qa := eqL a b
  have qb := eqInL a b
  rw [hne] at qa qb
  obtain ⟨u, hu⟩ : ∃ u, a.under b = u := ⟨_, rfl⟩
  have U := Lib.hid hu
  clear hu hne hx hy
  have z1 : (a.l == b.l) = true := hl
  have z2 : (((a.c : Nat) : Int) == ((b.c : Nat) : Int)) = true := by rw [beq_nat]; exact hc
  obtain ⟨hB, hg1, a0, a1, a2, b0, b1, b2, c0, c1, c2⟩ := three_at w a b c hg
  clear hg hl hc
  go_enter Tryd.func9, Tryd.ntmps9
  go_wp2_with fail
  refine (shown_any _ hg1).mono ?_
  rintro e w1 ⟨he, hb⟩
  subst he
  replace a0 := cell_later hb a0
  replace a1 := cell_later hb a1
  replace a2 := cell_later hb a2
  replace b0 := cell_later hb b0
  replace b1 := cell_later hb b1
  replace b2 := cell_later hb b2
  replace c0 := cell_later hb c0
  replace c1 := cell_later hb c1
  replace c2 := cell_later hb c2
  replace hB := below_more hB hb
  replace hg1 := hg1.more hb
  clear hb
  go_wp2_with fail
  refine (compare_any a b _).mono ?_
  rintro e w2 ⟨he, hb⟩
  rw [X.out] at he
  subst he
  replace a0 := cell_later hb a0
  replace a1 := cell_later hb a1
  replace a2 := cell_later hb a2
  replace b0 := cell_later hb b0
  replace b1 := cell_later hb b1
  replace b2 := cell_later hb b2
  replace c0 := cell_later hb c0
  replace c1 := cell_later hb c1
  replace c2 := cell_later hb c2
  replace hB := below_more hB hb
  replace hg1 := hg1.more hb
  clear hb
  go_wp2_with fail
  refine (compare_any b c _).mono ?_
  rintro e w3 ⟨he, hb⟩
  rw [Y.out] at he
  subst he
  replace a0 := cell_later hb a0
  replace a1 := cell_later hb a1
  replace a2 := cell_later hb a2
  replace b0 := cell_later hb b0
  replace b1 := cell_later hb b1
  replace b2 := cell_later hb b2
  replace c0 := cell_later hb c0
  replace c1 := cell_later hb c1
  replace c2 := cell_later hb c2
  replace hB := below_more hB hb
  replace hg1 := hg1.more hb
  clear hb
  go_wp2_with fail
  refine (compare_any b a _).mono ?_
  rintro e w4 ⟨he, hb⟩
  rw [Z.out] at he
  subst he
  replace a0 := cell_later hb a0
  replace a1 := cell_later hb a1
  replace a2 := cell_later hb a2
  replace b0 := cell_later hb b0
  replace b1 := cell_later hb b1
  replace b2 := cell_later hb b2
  replace c0 := cell_later hb c0
  replace c1 := cell_later hb c1
  replace c2 := cell_later hb c2
  replace hB := below_more hB hb
  replace hg1 := hg1.more hb
  clear hb
  go_wp2_with fail
  refine (Under_any a b hfa hfb _).mono ?_
  rintro e w5 ⟨he, hb⟩
  rw [U.out] at he
  subst he
  replace hB := below_more hB hb
  clear hb
  cases u
  all_goals
    go_wp2
    go_ret
    exact ⟨rfl, hB⟩

set_option maxRecDepth 100000 in
set_option maxHeartbeats 2000000 in
theorem labelTotal_n_yn_n (a b c : Lab) (hfa : a.fits) (hfb : b.fits) (hfc : c.fits) (hx : a.cmp b = -1) (hy : b.cmp c = -1) (hl : (a.l == b.l) = false) (w : World) (hg : ErrT w) :
    Calls Tryd.prog 9 #[.agg #[.int .i64 a.l, .int .u64 a.c, .int .i64 a.i], .agg #[.int .i64 b.l, .int .u64 b.c, .int .i64 b.i], .agg #[.int .i64 c.l, .int .u64 c.c, .int .i64 c.i]] w fun e w' => e = .returned (.bool true) ∧ Below w.heap.size w w' := by
  have _hu := And.intro hfa (And.intro hfb (hfc))
  clear _hu
  have X := Lib.hid hx
  have Y := Lib.hid hy
  have Z := Lib.hid ((cmp_pos b a).2 hx)
  have T := Lib.hid (cmp_trans hx hy)
  have hne : a.same b = false := by
    cases e : a.same b
    · rfl
    · rw [Lab.same_iff, ← cmp_zero] at e; omega
  have qa := eqL a b
  have qb := eqInL a b
  rw [hne] at qa qb
  obtain ⟨u, hu⟩ : ∃ u, a.under b = u := ⟨_, rfl⟩
  have U := Lib.hid hu
  clear hu hne hx hy
  have z1 : (a.l == b.l) = false := hl
  obtain ⟨hB, hg1, a0, a1, a2, b0, b1, b2, c0, c1, c2⟩ := three_at w a b c hg
  clear hg hl
  go_enter Tryd.func9, Tryd.ntmps9
  go_wp2_with fail
  refine (shown_any _ hg1).mono ?_
  rintro e w1 ⟨he, hb⟩
  subst he
  replace a0 := cell_later hb a0
  replace a1 := cell_later hb a1
  replace a2 := cell_later hb a2
  replace b0 := cell_later hb b0
  replace b1 := cell_later hb b1
  replace b2 := cell_later hb b2
  replace c0 := cell_later hb c0
  replace c1 := cell_later hb c1
  replace c2 := cell_later hb c2
  replace hB := below_more hB hb
  replace hg1 := hg1.more hb
  clear hb
  go_wp2_with fail
  refine (compare_any a b _).mono ?_
  rintro e w2 ⟨he, hb⟩
  rw [X.out] at he
  subst he
  replace a0 := cell_later hb a0
  replace a1 := cell_later hb a1
  replace a2 := cell_later hb a2
  replace b0 := cell_later hb b0
  replace b1 := cell_later hb b1
  replace b2 := cell_later hb b2
  replace c0 := cell_later hb c0
  replace c1 := cell_later hb c1
  replace c2 := cell_later hb c2
  replace hB := below_more hB hb
  replace hg1 := hg1.more hb
  clear hb
  go_wp2_with fail
  refine (compare_any b c _).mono ?_
  rintro e w3 ⟨he, hb⟩
  rw [Y.out] at he
  subst he
  replace a0 := cell_later hb a0
  replace a1 := cell_later hb a1
  replace a2 := cell_later hb a2
  replace b0 := cell_later hb b0
  replace b1 := cell_later hb b1
  replace b2 := cell_later hb b2
  replace c0 := cell_later hb c0
  replace c1 := cell_later hb c1
  replace c2 := cell_later hb c2
  replace hB := below_more hB hb
  replace hg1 := hg1.more hb
  clear hb
  go_wp2_with fail
  refine (compare_any b a _).mono ?_
  rintro e w4 ⟨he, hb⟩
  rw [Z.out] at he
  subst he
  replace a0 := cell_later hb a0
  replace a1 := cell_later hb a1
  replace a2 := cell_later hb a2
  replace b0 := cell_later hb b0
  replace b1 := cell_later hb b1
  replace b2 := cell_later hb b2
  replace c0 := cell_later hb c0
  replace c1 := cell_later hb c1
  replace c2 := cell_later hb c2
  replace hB := below_more hB hb
  replace hg1 := hg1.more hb
  clear hb
  go_wp2_with fail
  refine (compare_any a c _).mono ?_
  rintro e w5 ⟨he, hb⟩
  rw [T.out] at he
  subst he
  replace a0 := cell_later hb a0
  replace a1 := cell_later hb a1
  replace a2 := cell_later hb a2
  replace b0 := cell_later hb b0
  replace b1 := cell_later hb b1
  replace b2 := cell_later hb b2
  replace c0 := cell_later hb c0
  replace c1 := cell_later hb c1
  replace c2 := cell_later hb c2
  replace hB := below_more hB hb
  replace hg1 := hg1.more hb
  clear hb
  go_wp2_with fail
  refine (Under_any a b hfa hfb _).mono ?_
  rintro e w6 ⟨he, hb⟩
  rw [U.out] at he
  subst he
  replace hB := below_more hB hb
  clear hb
  cases u
  all_goals
    go_wp2
    go_ret
    exact ⟨rfl, hB⟩

set_option maxRecDepth 100000 in
set_option maxHeartbeats 2000000 in
theorem labelTotal_n_yn_lf (a b c : Lab) (hfa : a.fits) (hfb : b.fits) (hfc : c.fits) (hx : a.cmp b = -1) (hy : b.cmp c = -1) (hl : (a.l == b.l) = true) (hc : (a.c == b.c) = false) (w : World) (hg : ErrT w) :
    Calls Tryd.prog 9 #[.agg #[.int .i64 a.l, .int .u64 a.c, .int .i64 a.i], .agg #[.int .i64 b.l, .int .u64 b.c, .int .i64 b.i], .agg #[.int .i64 c.l, .int .u64 c.c, .int .i64 c.i]] w fun e w' => e = .returned (.bool true) ∧ Below w.heap.size w w' := by
  have _hu := And.intro hfa (And.intro hfb (hfc))
  clear _hu
  have X := Lib.hid hx
  have Y := Lib.hid hy
  have Z := Lib.hid ((cmp_pos b a).2 hx)
  have T := Lib.hid (cmp_trans hx hy)
  have hne : a.same b = false := by
    cases e : a.same b
    · rfl
    · rw [Lab.same_iff, ← cmp_zero] at e; omega
  have qa := eqL a b
  have qb := eqInL a b
  rw [hne] at qa qb
  obtain ⟨u, hu⟩ : ∃ u, a.under b = u := ⟨_, rfl⟩
  have U := Lib.hid hu
  clear hu hne hx hy
  have z1 : (a.l == b.l) = true := hl
  have z2 : (((a.c : Nat) : Int) == ((b.c : Nat) : Int)) = false := by rw [beq_nat]; exact hc
  obtain ⟨hB, hg1, a0, a1, a2, b0, b1, b2, c0, c1, c2⟩ := three_at w a b c hg
  clear hg hl hc
  go_enter Tryd.func9, Tryd.ntmps9
  go_wp2_with fail
  refine (shown_any _ hg1).mono ?_
  rintro e w1 ⟨he, hb⟩
  subst he
  replace a0 := cell_later hb a0
  replace a1 := cell_later hb a1
  replace a2 := cell_later hb a2
  replace b0 := cell_later hb b0
  replace b1 := cell_later hb b1
  replace b2 := cell_later hb b2
  replace c0 := cell_later hb c0
  replace c1 := cell_later hb c1
  replace c2 := cell_later hb c2
  replace hB := below_more hB hb
  replace hg1 := hg1.more hb
  clear hb
  go_wp2_with fail
  refine (compare_any a b _).mono ?_
  rintro e w2 ⟨he, hb⟩
  rw [X.out] at he
  subst he
  replace a0 := cell_later hb a0
  replace a1 := cell_later hb a1
  replace a2 := cell_later hb a2
  replace b0 := cell_later hb b0
  replace b1 := cell_later hb b1
  replace b2 := cell_later hb b2
  replace c0 := cell_later hb c0
  replace c1 := cell_later hb c1
  replace c2 := cell_later hb c2
  replace hB := below_more hB hb
  replace hg1 := hg1.more hb
  clear hb
  go_wp2_with fail
  refine (compare_any b c _).mono ?_
  rintro e w3 ⟨he, hb⟩
  rw [Y.out] at he
  subst he
  replace a0 := cell_later hb a0
  replace a1 := cell_later hb a1
  replace a2 := cell_later hb a2
  replace b0 := cell_later hb b0
  replace b1 := cell_later hb b1
  replace b2 := cell_later hb b2
  replace c0 := cell_later hb c0
  replace c1 := cell_later hb c1
  replace c2 := cell_later hb c2
  replace hB := below_more hB hb
  replace hg1 := hg1.more hb
  clear hb
  go_wp2_with fail
  refine (compare_any b a _).mono ?_
  rintro e w4 ⟨he, hb⟩
  rw [Z.out] at he
  subst he
  replace a0 := cell_later hb a0
  replace a1 := cell_later hb a1
  replace a2 := cell_later hb a2
  replace b0 := cell_later hb b0
  replace b1 := cell_later hb b1
  replace b2 := cell_later hb b2
  replace c0 := cell_later hb c0
  replace c1 := cell_later hb c1
  replace c2 := cell_later hb c2
  replace hB := below_more hB hb
  replace hg1 := hg1.more hb
  clear hb
  go_wp2_with fail
  refine (compare_any a c _).mono ?_
  rintro e w5 ⟨he, hb⟩
  rw [T.out] at he
  subst he
  replace a0 := cell_later hb a0
  replace a1 := cell_later hb a1
  replace a2 := cell_later hb a2
  replace b0 := cell_later hb b0
  replace b1 := cell_later hb b1
  replace b2 := cell_later hb b2
  replace c0 := cell_later hb c0
  replace c1 := cell_later hb c1
  replace c2 := cell_later hb c2
  replace hB := below_more hB hb
  replace hg1 := hg1.more hb
  clear hb
  go_wp2_with fail
  refine (Under_any a b hfa hfb _).mono ?_
  rintro e w6 ⟨he, hb⟩
  rw [U.out] at he
  subst he
  replace hB := below_more hB hb
  clear hb
  cases u
  all_goals
    go_wp2
    go_ret
    exact ⟨rfl, hB⟩

set_option maxRecDepth 100000 in
set_option maxHeartbeats 2000000 in
theorem labelTotal_n_yn_ll (a b c : Lab) (hfa : a.fits) (hfb : b.fits) (hfc : c.fits) (hx : a.cmp b = -1) (hy : b.cmp c = -1) (hl : (a.l == b.l) = true) (hc : (a.c == b.c) = true) (w : World) (hg : ErrT w) :
    Calls Tryd.prog 9 #[.agg #[.int .i64 a.l, .int .u64 a.c, .int .i64 a.i], .agg #[.int .i64 b.l, .int .u64 b.c, .int .i64 b.i], .agg #[.int .i64 c.l, .int .u64 c.c, .int .i64 c.i]] w fun e w' => e = .returned (.bool true) ∧ Below w.heap.size w w' := by
  have _hu := And.intro hfa (And.intro hfb (hfc))
  clear _hu
  have X := Lib.hid hx
  have Y := Lib.hid hy
  have Z := Lib.hid ((cmp_pos b a).2 hx)
  have T := Lib.hid (cmp_trans hx hy)
  have hne : a.same b = false := by
    cases e : a.same b
    · rfl
    · rw [Lab.same_iff, ← cmp_zero] at e; omega
  have qa := eqL a b
  have qb := eqInL a b
  rw [hne] at qa qb
  obtain ⟨u, hu⟩ : ∃ u, a.under b = u := ⟨_, rfl⟩
  have U := Lib.hid hu
  clear hu hne hx hy
  have z1 : (a.l == b.l) = true := hl
  have z2 : (((a.c : Nat) : Int) == ((b.c : Nat) : Int)) = true := by rw [beq_nat]; exact hc
  obtain ⟨hB, hg1, a0, a1, a2, b0, b1, b2, c0, c1, c2⟩ := three_at w a b c hg
  clear hg hl hc
  go_enter Tryd.func9, Tryd.ntmps9
  go_wp2_with fail
  refine (shown_any _ hg1).mono ?_
  rintro e w1 ⟨he, hb⟩
  subst he
  replace a0 := cell_later hb a0
  replace a1 := cell_later hb a1
  replace a2 := cell_later hb a2
  replace b0 := cell_later hb b0
  replace b1 := cell_later hb b1
  replace b2 := cell_later hb b2
  replace c0 := cell_later hb c0
  replace c1 := cell_later hb c1
  replace c2 := cell_later hb c2
  replace hB := below_more hB hb
  replace hg1 := hg1.more hb
  clear hb
  go_wp2_with fail
  refine (compare_any a b _).mono ?_
  rintro e w2 ⟨he, hb⟩
  rw [X.out] at he
  subst he
  replace a0 := cell_later hb a0
  replace a1 := cell_later hb a1
  replace a2 := cell_later hb a2
  replace b0 := cell_later hb b0
  replace b1 := cell_later hb b1
  replace b2 := cell_later hb b2
  replace c0 := cell_later hb c0
  replace c1 := cell_later hb c1
  replace c2 := cell_later hb c2
  replace hB := below_more hB hb
  replace hg1 := hg1.more hb
  clear hb
  go_wp2_with fail
  refine (compare_any b c _).mono ?_
  rintro e w3 ⟨he, hb⟩
  rw [Y.out] at he
  subst he
  replace a0 := cell_later hb a0
  replace a1 := cell_later hb a1
  replace a2 := cell_later hb a2
  replace b0 := cell_later hb b0
  replace b1 := cell_later hb b1
  replace b2 := cell_later hb b2
  replace c0 := cell_later hb c0
  replace c1 := cell_later hb c1
  replace c2 := cell_later hb c2
  replace hB := below_more hB hb
  replace hg1 := hg1.more hb
  clear hb
  go_wp2_with fail
  refine (compare_any b a _).mono ?_
  rintro e w4 ⟨he, hb⟩
  rw [Z.out] at he
  subst he
  replace a0 := cell_later hb a0
  replace a1 := cell_later hb a1
  replace a2 := cell_later hb a2
  replace b0 := cell_later hb b0
  replace b1 := cell_later hb b1
  replace b2 := cell_later hb b2
  replace c0 := cell_later hb c0
  replace c1 := cell_later hb c1
  replace c2 := cell_later hb c2
  replace hB := below_more hB hb
  replace hg1 := hg1.more hb
  clear hb
  go_wp2_with fail
  refine (compare_any a c _).mono ?_
  rintro e w5 ⟨he, hb⟩
  rw [T.out] at he
  subst he
  replace a0 := cell_later hb a0
  replace a1 := cell_later hb a1
  replace a2 := cell_later hb a2
  replace b0 := cell_later hb b0
  replace b1 := cell_later hb b1
  replace b2 := cell_later hb b2
  replace c0 := cell_later hb c0
  replace c1 := cell_later hb c1
  replace c2 := cell_later hb c2
  replace hB := below_more hB hb
  replace hg1 := hg1.more hb
  clear hb
  go_wp2_with fail
  refine (Under_any a b hfa hfb _).mono ?_
  rintro e w6 ⟨he, hb⟩
  rw [U.out] at he
  subst he
  replace hB := below_more hB hb
  clear hb
  cases u
  all_goals
    go_wp2
    go_ret
    exact ⟨rfl, hB⟩

set_option maxRecDepth 100000 in
set_option maxHeartbeats 2000000 in
theorem labelTotal_p_n_false (a b c : Lab) (hfa : a.fits) (hfb : b.fits) (hfc : c.fits) (hx : a.cmp b = 1) (hl : (a.l == b.l) = false) (hu : a.under b = false) (w : World) (hg : ErrT w) :
    Calls Tryd.prog 9 #[.agg #[.int .i64 a.l, .int .u64 a.c, .int .i64 a.i], .agg #[.int .i64 b.l, .int .u64 b.c, .int .i64 b.i], .agg #[.int .i64 c.l, .int .u64 c.c, .int .i64 c.i]] w fun e w' => e = .returned (.bool true) ∧ Below w.heap.size w w' := by
  have _hu := And.intro hfa (And.intro hfb (hfc))
  clear _hu
  have X := Lib.hid hx
  have Z := Lib.hid ((cmp_pos a b).1 hx)
  have hne : a.same b = false := by
    cases e : a.same b
    · rfl
    · rw [Lab.same_iff, ← cmp_zero] at e; omega
  have qa := eqL a b
  have qb := eqInL a b
  rw [hne] at qa qb
  have U := Lib.hid hu
  clear hu hne hx
  have z1 : (a.l == b.l) = false := hl
  obtain ⟨hB, hg1, a0, a1, a2, b0, b1, b2, c0, c1, c2⟩ := three_at w a b c hg
  clear hg hl
  go_enter Tryd.func9, Tryd.ntmps9
  go_wp2_with fail
  refine (shown_any _ hg1).mono ?_
  rintro e w1 ⟨he, hb⟩
  subst he
  replace a0 := cell_later hb a0
  replace a1 := cell_later hb a1
  replace a2 := cell_later hb a2
  replace b0 := cell_later hb b0
  replace b1 := cell_later hb b1
  replace b2 := cell_later hb b2
  replace c0 := cell_later hb c0
  replace c1 := cell_later hb c1
  replace c2 := cell_later hb c2
  replace hB := below_more hB hb
  replace hg1 := hg1.more hb
  clear hb
  go_wp2_with fail
  refine (compare_any a b _).mono ?_
  rintro e w2 ⟨he, hb⟩
  rw [X.out] at he
  subst he
  replace a0 := cell_later hb a0
  replace a1 := cell_later hb a1
  replace a2 := cell_later hb a2
  replace b0 := cell_later hb b0
  replace b1 := cell_later hb b1
  replace b2 := cell_later hb b2
  replace c0 := cell_later hb c0
  replace c1 := cell_later hb c1
  replace c2 := cell_later hb c2
  replace hB := below_more hB hb
  replace hg1 := hg1.more hb
  clear hb
  go_wp2_with fail
  refine (compare_any b c _).mono ?_
  rintro e w3 ⟨he, hb⟩
  subst he
  replace a0 := cell_later hb a0
  replace a1 := cell_later hb a1
  replace a2 := cell_later hb a2
  replace b0 := cell_later hb b0
  replace b1 := cell_later hb b1
  replace b2 := cell_later hb b2
  replace c0 := cell_later hb c0
  replace c1 := cell_later hb c1
  replace c2 := cell_later hb c2
  replace hB := below_more hB hb
  replace hg1 := hg1.more hb
  clear hb
  go_wp2_with fail
  refine (compare_any b a _).mono ?_
  rintro e w4 ⟨he, hb⟩
  rw [Z.out] at he
  subst he
  replace a0 := cell_later hb a0
  replace a1 := cell_later hb a1
  replace a2 := cell_later hb a2
  replace b0 := cell_later hb b0
  replace b1 := cell_later hb b1
  replace b2 := cell_later hb b2
  replace c0 := cell_later hb c0
  replace c1 := cell_later hb c1
  replace c2 := cell_later hb c2
  replace hB := below_more hB hb
  replace hg1 := hg1.more hb
  clear hb
  go_wp2_with fail
  refine (Under_any a b hfa hfb _).mono ?_
  rintro e w5 ⟨he, hb⟩
  rw [U.out] at he
  subst he
  replace hB := below_more hB hb
  clear hb
  go_wp2
  go_ret
  exact ⟨rfl, hB⟩

set_option maxRecDepth 100000 in
set_option maxHeartbeats 2000000 in
theorem labelTotal_p_lf_false (a b c : Lab) (hfa : a.fits) (hfb : b.fits) (hfc : c.fits) (hx : a.cmp b = 1) (hl : (a.l == b.l) = true) (hc : (a.c == b.c) = false) (hu : a.under b = false) (w : World) (hg : ErrT w) :
    Calls Tryd.prog 9 #[.agg #[.int .i64 a.l, .int .u64 a.c, .int .i64 a.i], .agg #[.int .i64 b.l, .int .u64 b.c, .int .i64 b.i], .agg #[.int .i64 c.l, .int .u64 c.c, .int .i64 c.i]] w fun e w' => e = .returned (.bool true) ∧ Below w.heap.size w w' := by
  have _hu := And.intro hfa (And.intro hfb (hfc))
  clear _hu
  have X := Lib.hid hx
  have Z := Lib.hid ((cmp_pos a b).1 hx)
  have hne : a.same b = false := by
    cases e : a.same b
    · rfl
    · rw [Lab.same_iff, ← cmp_zero] at e; omega
  have qa := eqL a b
  have qb := eqInL a b
  rw [hne] at qa qb
  have U := Lib.hid hu
  clear hu hne hx
  have z1 : (a.l == b.l) = true := hl
  have z2 : (((a.c : Nat) : Int) == ((b.c : Nat) : Int)) = false := by rw [beq_nat]; exact hc
  obtain ⟨hB, hg1, a0, a1, a2, b0, b1, b2, c0, c1, c2⟩ := three_at w a b c hg
  clear hg hl hc
  go_enter Tryd.func9, Tryd.ntmps9
  go_wp2_with fail
  refine (shown_any _ hg1).mono ?_
  rintro e w1 ⟨he, hb⟩
  subst he
  replace a0 := cell_later hb a0
  replace a1 := cell_later hb a1
  replace a2 := cell_later hb a2
  replace b0 := cell_later hb b0
  replace b1 := cell_later hb b1
  replace b2 := cell_later hb b2
  replace c0 := cell_later hb c0
  replace c1 := cell_later hb c1
  replace c2 := cell_later hb c2
  replace hB := below_more hB hb
  replace hg1 := hg1.more hb
  clear hb
  go_wp2_with fail
  refine (compare_any a b _).mono ?_
  rintro e w2 ⟨he, hb⟩
  rw [X.out] at he
  subst he
  replace a0 := cell_later hb a0
  replace a1 := cell_later hb a1
  replace a2 := cell_later hb a2
  replace b0 := cell_later hb b0
  replace b1 := cell_later hb b1
  replace b2 := cell_later hb b2
  replace c0 := cell_later hb c0
  replace c1 := cell_later hb c1
  replace c2 := cell_later hb c2
  replace hB := below_more hB hb
  replace hg1 := hg1.more hb
  clear hb
  go_wp2_with fail
  refine (compare_any b c _).mono ?_
  rintro e w3 ⟨he, hb⟩
  subst he
  replace a0 := cell_later hb a0
  replace a1 := cell_later hb a1
  replace a2 := cell_later hb a2
  replace b0 := cell_later hb b0
  replace b1 := cell_later hb b1
  replace b2 := cell_later hb b2
  replace c0 := cell_later hb c0
  replace c1 := cell_later hb c1
  replace c2 := cell_later hb c2
  replace hB := below_more hB hb
  replace hg1 := hg1.more hb
  clear hb
  go_wp2_with fail
  refine (compare_any b a _).mono ?_
  rintro e w4 ⟨he, hb⟩
  rw [Z.out] at he
  subst he
  replace a0 := cell_later hb a0
  replace a1 := cell_later hb a1
  replace a2 := cell_later hb a2
  replace b0 := cell_later hb b0
  replace b1 := cell_later hb b1
  replace b2 := cell_later hb b2
  replace c0 := cell_later hb c0
  replace c1 := cell_later hb c1
  replace c2 := cell_later hb c2
  replace hB := below_more hB hb
  replace hg1 := hg1.more hb
  clear hb
  go_wp2_with fail
  refine (Under_any a b hfa hfb _).mono ?_
  rintro e w5 ⟨he, hb⟩
  rw [U.out] at he
  subst he
  replace hB := below_more hB hb
  clear hb
  go_wp2
  go_ret
  exact ⟨rfl, hB⟩

set_option maxRecDepth 100000 in
set_option maxHeartbeats 2000000 in
theorem labelTotal_p_ll_false (a b c : Lab) (hfa : a.fits) (hfb : b.fits) (hfc : c.fits) (hx : a.cmp b = 1) (hl : (a.l == b.l) = true) (hc : (a.c == b.c) = true) (hu : a.under b = false) (w : World) (hg : ErrT w) :
    Calls Tryd.prog 9 #[.agg #[.int .i64 a.l, .int .u64 a.c, .int .i64 a.i], .agg #[.int .i64 b.l, .int .u64 b.c, .int .i64 b.i], .agg #[.int .i64 c.l, .int .u64 c.c, .int .i64 c.i]] w fun e w' => e = .returned (.bool true) ∧ Below w.heap.size w w' := by
  have _hu := And.intro hfa (And.intro hfb (hfc))
  clear _hu
  have X := Lib.hid hx
  have Z := Lib.hid ((cmp_pos a b).1 hx)
  have hne : a.same b = false := by
    cases e : a.same b
    · rfl
    · rw [Lab.same_iff, ← cmp_zero] at e; omega
  have qa := eqL a b
  have qb := eqInL a b
  rw [hne] at qa qb
  have U := Lib.hid hu
  clear hu hne hx
  have z1 : (a.l == b.l) = true := hl
  have z2 : (((a.c : Nat) : Int) == ((b.c : Nat) : Int)) = true := by rw [beq_nat]; exact hc
  obtain ⟨hB, hg1, a0, a1, a2, b0, b1, b2, c0, c1, c2⟩ := three_at w a b c hg
  clear hg hl hc
  go_enter Tryd.func9, Tryd.ntmps9
  go_wp2_with fail
  refine (shown_any _ hg1).mono ?_
  rintro e w1 ⟨he, hb⟩
  subst he
  replace a0 := cell_later hb a0
  replace a1 := cell_later hb a1
  replace a2 := cell_later hb a2
  replace b0 := cell_later hb b0
  replace b1 := cell_later hb b1
  replace b2 := cell_later hb b2
  replace c0 := cell_later hb c0
  replace c1 := cell_later hb c1
  replace c2 := cell_later hb c2
  replace hB := below_more hB hb
  replace hg1 := hg1.more hb
  clear hb
  go_wp2_with fail
  refine (compare_any a b _).mono ?_
  rintro e w2 ⟨he, hb⟩
  rw [X.out] at he
  subst he
  replace a0 := cell_later hb a0
  replace a1 := cell_later hb a1
  replace a2 := cell_later hb a2
  replace b0 := cell_later hb b0
  replace b1 := cell_later hb b1
  replace b2 := cell_later hb b2
  replace c0 := cell_later hb c0
  replace c1 := cell_later hb c1
  replace c2 := cell_later hb c2
  replace hB := below_more hB hb
  replace hg1 := hg1.more hb
  clear hb
  go_wp2_with fail
  refine (compare_any b c _).mono ?_
  rintro e w3 ⟨he, hb⟩
  subst he
  replace a0 := cell_later hb a0
  replace a1 := cell_later hb a1
  replace a2 := cell_later hb a2
  replace b0 := cell_later hb b0
  replace b1 := cell_later hb b1
  replace b2 := cell_later hb b2
  replace c0 := cell_later hb c0
  replace c1 := cell_later hb c1
  replace c2 := cell_later hb c2
  replace hB := below_more hB hb
  replace hg1 := hg1.more hb
  clear hb
  go_wp2_with fail
  refine (compare_any b a _).mono ?_
  rintro e w4 ⟨he, hb⟩
  rw [Z.out] at he
  subst he
  replace a0 := cell_later hb a0
  replace a1 := cell_later hb a1
  replace a2 := cell_later hb a2
  replace b0 := cell_later hb b0
  replace b1 := cell_later hb b1
  replace b2 := cell_later hb b2
  replace c0 := cell_later hb c0
  replace c1 := cell_later hb c1
  replace c2 := cell_later hb c2
  replace hB := below_more hB hb
  replace hg1 := hg1.more hb
  clear hb
  go_wp2_with fail
  refine (Under_any a b hfa hfb _).mono ?_
  rintro e w5 ⟨he, hb⟩
  rw [U.out] at he
  subst he
  replace hB := below_more hB hb
  clear hb
  go_wp2
  go_ret
  exact ⟨rfl, hB⟩

set_option maxRecDepth 100000 in
set_option maxHeartbeats 2000000 in
theorem labelTotal_p_ll_true (a b c : Lab) (hfa : a.fits) (hfb : b.fits) (hfc : c.fits) (hx : a.cmp b = 1) (hl : (a.l == b.l) = true) (hc : (a.c == b.c) = true) (hu : a.under b = true) (w : World) (hg : ErrT w) :
    Calls Tryd.prog 9 #[.agg #[.int .i64 a.l, .int .u64 a.c, .int .i64 a.i], .agg #[.int .i64 b.l, .int .u64 b.c, .int .i64 b.i], .agg #[.int .i64 c.l, .int .u64 c.c, .int .i64 c.i]] w fun e w' => e = .returned (.bool true) ∧ Below w.heap.size w w' := by
  have _hu := And.intro hfa (And.intro hfb (hfc))
  clear _hu
  have X := Lib.hid hx
  have Z := Lib.hid ((cmp_pos a b).1 hx)
  have hne : a.same b = false := by
    cases e : a.same b
    · rfl
    · rw [Lab.same_iff, ← cmp_zero] at e; omega
  have qa := eqL a b
  have qb := eqInL a b
  rw [hne] at qa qb
  have U := Lib.hid hu
  clear hu hne hx
  have z1 : (a.l == b.l) = true := hl
  have z2 : (((a.c : Nat) : Int) == ((b.c : Nat) : Int)) = true := by rw [beq_nat]; exact hc
  obtain ⟨hB, hg1, a0, a1, a2, b0, b1, b2, c0, c1, c2⟩ := three_at w a b c hg
  clear hg hl hc
  go_enter Tryd.func9, Tryd.ntmps9
  go_wp2_with fail
  refine (shown_any _ hg1).mono ?_
  rintro e w1 ⟨he, hb⟩
  subst he
  replace a0 := cell_later hb a0
  replace a1 := cell_later hb a1
  replace a2 := cell_later hb a2
  replace b0 := cell_later hb b0
  replace b1 := cell_later hb b1
  replace b2 := cell_later hb b2
  replace c0 := cell_later hb c0
  replace c1 := cell_later hb c1
  replace c2 := cell_later hb c2
  replace hB := below_more hB hb
  replace hg1 := hg1.more hb
  clear hb
  go_wp2_with fail
  refine (compare_any a b _).mono ?_
  rintro e w2 ⟨he, hb⟩
  rw [X.out] at he
  subst he
  replace a0 := cell_later hb a0
  replace a1 := cell_later hb a1
  replace a2 := cell_later hb a2
  replace b0 := cell_later hb b0
  replace b1 := cell_later hb b1
  replace b2 := cell_later hb b2
  replace c0 := cell_later hb c0
  replace c1 := cell_later hb c1
  replace c2 := cell_later hb c2
  replace hB := below_more hB hb
  replace hg1 := hg1.more hb
  clear hb
  go_wp2_with fail
  refine (compare_any b c _).mono ?_
  rintro e w3 ⟨he, hb⟩
  subst he
  replace a0 := cell_later hb a0
  replace a1 := cell_later hb a1
  replace a2 := cell_later hb a2
  replace b0 := cell_later hb b0
  replace b1 := cell_later hb b1
  replace b2 := cell_later hb b2
  replace c0 := cell_later hb c0
  replace c1 := cell_later hb c1
  replace c2 := cell_later hb c2
  replace hB := below_more hB hb
  replace hg1 := hg1.more hb
  clear hb
  go_wp2_with fail
  refine (compare_any b a _).mono ?_
  rintro e w4 ⟨he, hb⟩
  rw [Z.out] at he
  subst he
  replace a0 := cell_later hb a0
  replace a1 := cell_later hb a1
  replace a2 := cell_later hb a2
  replace b0 := cell_later hb b0
  replace b1 := cell_later hb b1
  replace b2 := cell_later hb b2
  replace c0 := cell_later hb c0
  replace c1 := cell_later hb c1
  replace c2 := cell_later hb c2
  replace hB := below_more hB hb
  replace hg1 := hg1.more hb
  clear hb
  go_wp2_with fail
  refine (Under_any a b hfa hfb _).mono ?_
  rintro e w5 ⟨he, hb⟩
  rw [U.out] at he
  subst he
  replace hB := below_more hB hb
  clear hb
  go_wp2
  go_ret
  exact ⟨rfl, hB⟩

theorem labelTotal_any (a b c : Lab) (hfa : a.fits) (hfb : b.fits) (hfc : c.fits) (w : World) (hg : ErrT w) :
    Calls Tryd.prog 9 #[.agg #[.int .i64 a.l, .int .u64 a.c, .int .i64 a.i], .agg #[.int .i64 b.l, .int .u64 b.c, .int .i64 b.i], .agg #[.int .i64 c.l, .int .u64 c.c, .int .i64 c.i]] w fun e w' => e = .returned (.bool true) ∧ Below w.heap.size w w' := by
  rcases cmp_cases a b with hx | hx | hx
  · obtain rfl := (cmp_zero a b).1 hx
    exact labelTotal_0 a c hfa hfc w hg
  · rcases cmp_cases b c with hy | hy | hy
    · cases hl : (a.l == b.l)
      · exact labelTotal_n_y0_n a b c hfa hfb hfc hx hy hl  w hg
      · cases hc : (a.c == b.c)
        · exact labelTotal_n_y0_lf a b c hfa hfb hfc hx hy hl hc w hg
        · exact labelTotal_n_y0_ll a b c hfa hfb hfc hx hy hl hc w hg
    · cases hl : (a.l == b.l)
      · exact labelTotal_n_yn_n a b c hfa hfb hfc hx hy hl  w hg
      · cases hc : (a.c == b.c)
        · exact labelTotal_n_yn_lf a b c hfa hfb hfc hx hy hl hc w hg
        · exact labelTotal_n_yn_ll a b c hfa hfb hfc hx hy hl hc w hg
    · cases hl : (a.l == b.l)
      · exact labelTotal_n_y1_n a b c hfa hfb hfc hx hy hl  w hg
      · cases hc : (a.c == b.c)
        · exact labelTotal_n_y1_lf a b c hfa hfb hfc hx hy hl hc w hg
        · exact labelTotal_n_y1_ll a b c hfa hfb hfc hx hy hl hc w hg
  · cases hu : a.under b
    · cases hl : (a.l == b.l)
      · exact labelTotal_p_n_false a b c hfa hfb hfc hx hl  hu w hg
      · cases hc : (a.c == b.c)
        · exact labelTotal_p_lf_false a b c hfa hfb hfc hx hl hc hu w hg
        · exact labelTotal_p_ll_false a b c hfa hfb hfc hx hl hc hu w hg
    · obtain ⟨h1, h2⟩ := cmp_under hfa hfb hx hu
      exact labelTotal_p_ll_true a b c hfa hfb hfc hx (by simp [h1]) (by simp [h2]) hu w hg

end Go.Proofs.YtafghaceahchhaaDoor
