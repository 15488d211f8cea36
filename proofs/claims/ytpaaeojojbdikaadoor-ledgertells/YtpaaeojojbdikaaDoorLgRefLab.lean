/- The contracts of the document's own Right, Under, Bottom, Top, Compare of labels. -/
import Derived.Test.YtpaaeojojbdikaaDoorLgKit
import Derived.Test.YtpaaeojojbdikaaDoorRefLess
namespace Go.Proofs.YtpaaeojojbdikaaDoor
open Go.RowKit Go.Proofs.Cats Go.Shelf

set_option maxHeartbeats 400000 in
theorem refRight_any (a : Lab) (w : World) :
    Calls Tryd.prog 31 #[.agg #[.int .i64 a.l, .int .u64 a.c, .int .i64 a.i]] w fun e w' => e = .returned (.bool a.right) ∧ Below w.heap.size w w' := by
  by_cases h1 : 0 ≤ a.l
  · by_cases h2 : a.l ≤ 15
    · by_cases h3 : 0 ≤ a.i
      · have ev : a.right = decide (a.i ≤ 7) := by unfold Lab.right; rw [decide_eq_true h1, decide_eq_true h2, decide_eq_true h3]; rfl
        rw [ev]
        clear ev
        go_enter Tryd.func31, Tryd.ntmps31
        go_wp2
        go_ret
        exact ⟨rfl, Below.new _ _⟩
      · have ev : a.right = false := by unfold Lab.right; rw [decide_eq_false h3]; simp
        rw [ev]
        clear ev
        go_enter Tryd.func31, Tryd.ntmps31
        go_wp2
        go_ret
        exact ⟨rfl, Below.new _ _⟩
    · have ev : a.right = false := by unfold Lab.right; rw [decide_eq_false h2]; simp
      rw [ev]
      clear ev
      go_enter Tryd.func31, Tryd.ntmps31
      go_wp2
      go_ret
      exact ⟨rfl, Below.new _ _⟩
  · have ev : a.right = false := by unfold Lab.right; rw [decide_eq_false h1]; simp
    rw [ev]
    clear ev
    go_enter Tryd.func31, Tryd.ntmps31
    go_wp2
    go_ret
    exact ⟨rfl, Below.new _ _⟩

set_option maxRecDepth 100000 in
set_option maxHeartbeats 1000000 in
theorem refUnder_r0 (a b : Lab) (_ha : a.fits) (_hb0 : b.fits) (h1 : a.right = false) (w : World) (hg : ErrT w) :
    Calls Tryd.prog 36 #[.agg #[.int .i64 a.l, .int .u64 a.c, .int .i64 a.i], .agg #[.int .i64 b.l, .int .u64 b.c, .int .i64 b.i]] w fun e w' => e = .returned (.bool (a.under b)) ∧ Below w.heap.size w w' := by
  rw [show a.under b = false by unfold Lab.under; rw [h1]; rfl]
  have H1 := Lib.hid h1
  clear h1
  obtain ⟨hB, hg1, a0, a1, a2, b0, b1, b2⟩ := two_at w a b hg
  clear hg
  go_enter Tryd.func36, Tryd.ntmps36
  go_wp2_with fail
  refine (refRight_any a _).mono ?_
  rintro e w1 ⟨he, hb⟩
  rw [H1.out] at he
  subst he
  replace a0 := cell_later hb a0
  replace a1 := cell_later hb a1
  replace a2 := cell_later hb a2
  replace b0 := cell_later hb b0
  replace b1 := cell_later hb b1
  replace b2 := cell_later hb b2
  replace hB := below_more hB hb
  replace hg1 := hg1.more hb
  clear hb
  go_wp2
  go_ret
  exact ⟨rfl, hB⟩

set_option maxRecDepth 100000 in
set_option maxHeartbeats 1000000 in
theorem refUnder_r1 (a b : Lab) (_ha : a.fits) (_hb0 : b.fits) (h1 : a.right = true) (h2 : b.right = false) (w : World) (hg : ErrT w) :
    Calls Tryd.prog 36 #[.agg #[.int .i64 a.l, .int .u64 a.c, .int .i64 a.i], .agg #[.int .i64 b.l, .int .u64 b.c, .int .i64 b.i]] w fun e w' => e = .returned (.bool (a.under b)) ∧ Below w.heap.size w w' := by
  rw [show a.under b = false by unfold Lab.under; rw [h1, h2]; rfl]
  have H1 := Lib.hid h1
  have H2 := Lib.hid h2
  clear h1 h2
  obtain ⟨hB, hg1, a0, a1, a2, b0, b1, b2⟩ := two_at w a b hg
  clear hg
  go_enter Tryd.func36, Tryd.ntmps36
  go_wp2_with fail
  refine (refRight_any a _).mono ?_
  rintro e w1 ⟨he, hb⟩
  rw [H1.out] at he
  subst he
  replace a0 := cell_later hb a0
  replace a1 := cell_later hb a1
  replace a2 := cell_later hb a2
  replace b0 := cell_later hb b0
  replace b1 := cell_later hb b1
  replace b2 := cell_later hb b2
  replace hB := below_more hB hb
  replace hg1 := hg1.more hb
  clear hb
  go_wp2_with fail
  refine (refRight_any b _).mono ?_
  rintro e w2 ⟨he, hb⟩
  rw [H2.out] at he
  subst he
  replace a0 := cell_later hb a0
  replace a1 := cell_later hb a1
  replace a2 := cell_later hb a2
  replace b0 := cell_later hb b0
  replace b1 := cell_later hb b1
  replace b2 := cell_later hb b2
  replace hB := below_more hB hb
  replace hg1 := hg1.more hb
  clear hb
  go_wp2
  go_ret
  exact ⟨rfl, hB⟩

set_option maxRecDepth 100000 in
set_option maxHeartbeats 1000000 in
theorem refUnder_r2 (a b : Lab) (_ha : a.fits) (_hb0 : b.fits) (h1 : a.right = true) (h2 : b.right = true) (h3 : ¬ a.l ≤ b.l) (w : World) (hg : ErrT w) :
    Calls Tryd.prog 36 #[.agg #[.int .i64 a.l, .int .u64 a.c, .int .i64 a.i], .agg #[.int .i64 b.l, .int .u64 b.c, .int .i64 b.i]] w fun e w' => e = .returned (.bool (a.under b)) ∧ Below w.heap.size w w' := by
  rw [show a.under b = false by unfold Lab.under Lab.leq; rw [h1, h2, decide_eq_false h3]; rfl]
  have H1 := Lib.hid h1
  have H2 := Lib.hid h2
  clear h1 h2
  obtain ⟨hB, hg1, a0, a1, a2, b0, b1, b2⟩ := two_at w a b hg
  clear hg
  go_enter Tryd.func36, Tryd.ntmps36
  go_wp2_with fail
  refine (refRight_any a _).mono ?_
  rintro e w1 ⟨he, hb⟩
  rw [H1.out] at he
  subst he
  replace a0 := cell_later hb a0
  replace a1 := cell_later hb a1
  replace a2 := cell_later hb a2
  replace b0 := cell_later hb b0
  replace b1 := cell_later hb b1
  replace b2 := cell_later hb b2
  replace hB := below_more hB hb
  replace hg1 := hg1.more hb
  clear hb
  go_wp2_with fail
  refine (refRight_any b _).mono ?_
  rintro e w2 ⟨he, hb⟩
  rw [H2.out] at he
  subst he
  replace a0 := cell_later hb a0
  replace a1 := cell_later hb a1
  replace a2 := cell_later hb a2
  replace b0 := cell_later hb b0
  replace b1 := cell_later hb b1
  replace b2 := cell_later hb b2
  replace hB := below_more hB hb
  replace hg1 := hg1.more hb
  clear hb
  go_wp2
  go_ret
  exact ⟨rfl, hB⟩

set_option maxRecDepth 100000 in
set_option maxHeartbeats 1000000 in
theorem refUnder_r3 (a b : Lab) (ha : a.fits) (hb0 : b.fits) (h1 : a.right = true) (h2 : b.right = true) (h3 : a.l ≤ b.l) (h4 : (lessN a.c b.c == 0) = false) (w : World) (hg : ErrT w) :
    Calls Tryd.prog 36 #[.agg #[.int .i64 a.l, .int .u64 a.c, .int .i64 a.i], .agg #[.int .i64 b.l, .int .u64 b.c, .int .i64 b.i]] w fun e w' => e = .returned (.bool (a.under b)) ∧ Below w.heap.size w w' := by
  rw [show a.under b = false by unfold Lab.under Lab.leq; rw [h1, h2, decide_eq_true h3, h4]; rfl]
  have H1 := Lib.hid h1
  have H2 := Lib.hid h2
  clear h1 h2
  have H4 := Lib.hid h4
  clear h4
  obtain ⟨hB, hg1, a0, a1, a2, b0, b1, b2⟩ := two_at w a b hg
  clear hg
  go_enter Tryd.func36, Tryd.ntmps36
  go_wp2_with fail
  refine (refRight_any a _).mono ?_
  rintro e w1 ⟨he, hb⟩
  rw [H1.out] at he
  subst he
  replace a0 := cell_later hb a0
  replace a1 := cell_later hb a1
  replace a2 := cell_later hb a2
  replace b0 := cell_later hb b0
  replace b1 := cell_later hb b1
  replace b2 := cell_later hb b2
  replace hB := below_more hB hb
  replace hg1 := hg1.more hb
  clear hb
  go_wp2_with fail
  refine (refRight_any b _).mono ?_
  rintro e w2 ⟨he, hb⟩
  rw [H2.out] at he
  subst he
  replace a0 := cell_later hb a0
  replace a1 := cell_later hb a1
  replace a2 := cell_later hb a2
  replace b0 := cell_later hb b0
  replace b1 := cell_later hb b1
  replace b2 := cell_later hb b2
  replace hB := below_more hB hb
  replace hg1 := hg1.more hb
  clear hb
  go_wp2_with fail
  refine (refSub_any a.c b.c ha hb0 _).mono ?_
  rintro e wz ⟨he, rfl⟩
  rw [H4.out] at he
  subst he
  go_wp2
  go_ret
  exact ⟨rfl, hB⟩

set_option maxRecDepth 100000 in
set_option maxHeartbeats 1000000 in
theorem refUnder_r4 (a b : Lab) (ha : a.fits) (hb0 : b.fits) (h1 : a.right = true) (h2 : b.right = true) (h3 : a.l ≤ b.l) (h4 : (lessN a.c b.c == 0) = true) (w : World) (hg : ErrT w) :
    Calls Tryd.prog 36 #[.agg #[.int .i64 a.l, .int .u64 a.c, .int .i64 a.i], .agg #[.int .i64 b.l, .int .u64 b.c, .int .i64 b.i]] w fun e w' => e = .returned (.bool (a.under b)) ∧ Below w.heap.size w w' := by
  rw [show a.under b = decide (b.i ≤ a.i) by unfold Lab.under Lab.leq; rw [h1, h2, decide_eq_true h3, h4]; rfl]
  have H1 := Lib.hid h1
  have H2 := Lib.hid h2
  clear h1 h2
  have H4 := Lib.hid h4
  clear h4
  obtain ⟨hB, hg1, a0, a1, a2, b0, b1, b2⟩ := two_at w a b hg
  clear hg
  go_enter Tryd.func36, Tryd.ntmps36
  go_wp2_with fail
  refine (refRight_any a _).mono ?_
  rintro e w1 ⟨he, hb⟩
  rw [H1.out] at he
  subst he
  replace a0 := cell_later hb a0
  replace a1 := cell_later hb a1
  replace a2 := cell_later hb a2
  replace b0 := cell_later hb b0
  replace b1 := cell_later hb b1
  replace b2 := cell_later hb b2
  replace hB := below_more hB hb
  replace hg1 := hg1.more hb
  clear hb
  go_wp2_with fail
  refine (refRight_any b _).mono ?_
  rintro e w2 ⟨he, hb⟩
  rw [H2.out] at he
  subst he
  replace a0 := cell_later hb a0
  replace a1 := cell_later hb a1
  replace a2 := cell_later hb a2
  replace b0 := cell_later hb b0
  replace b1 := cell_later hb b1
  replace b2 := cell_later hb b2
  replace hB := below_more hB hb
  replace hg1 := hg1.more hb
  clear hb
  go_wp2_with fail
  refine (refSub_any a.c b.c ha hb0 _).mono ?_
  rintro e wz ⟨he, rfl⟩
  rw [H4.out] at he
  subst he
  go_wp2
  go_ret
  exact ⟨rfl, hB⟩

theorem refUnder_any (a b : Lab) (ha : a.fits) (hb : b.fits) (w : World) (hg : ErrT w) :
    Calls Tryd.prog 36 #[.agg #[.int .i64 a.l, .int .u64 a.c, .int .i64 a.i], .agg #[.int .i64 b.l, .int .u64 b.c, .int .i64 b.i]] w fun e w' => e = .returned (.bool (a.under b)) ∧ Below w.heap.size w w' := by
  cases h1 : a.right
  · exact refUnder_r0 a b ha hb h1 w hg
  · cases h2 : b.right
    · exact refUnder_r1 a b ha hb h1 h2 w hg
    · by_cases h3 : a.l ≤ b.l
      · cases h4 : (lessN a.c b.c == 0)
        · exact refUnder_r3 a b ha hb h1 h2 h3 h4 w hg
        · exact refUnder_r4 a b ha hb h1 h2 h3 h4 w hg
      · exact refUnder_r2 a b ha hb h1 h2 h3 w hg

set_option maxRecDepth 100000 in
set_option maxHeartbeats 1000000 in
theorem refCompare_same (a b : Lab) (hs : a.same b = true) (w : World) :
    Calls Tryd.prog 32 #[.agg #[.int .i64 a.l, .int .u64 a.c, .int .i64 a.i], .agg #[.int .i64 b.l, .int .u64 b.c, .int .i64 b.i]] w fun e w' => e = .returned (.int .i64 (0)) ∧ Below w.heap.size w w' := by
  have hB : Below w.heap.size w ((w.alloc (.cells #[.int .i64 a.l, .int .u64 a.c, .int .i64 a.i] 25)).alloc (.cells #[.int .i64 b.l, .int .u64 b.c, .int .i64 b.i] 25)) := (Below.new _ _).alloc (by simp) _
  have qa := eqL a b
  have qb := eqInL a b
  rw [hs] at qa qb
  clear hs
  go_enter Tryd.func32, Tryd.ntmps32
  go_wp2
  go_ret
  exact ⟨rfl, hB⟩

set_option maxRecDepth 100000 in
set_option maxHeartbeats 1000000 in
theorem refCompare_ll (a b : Lab) (hs : a.same b = false) (h1 : a.l < b.l) (w : World) :
    Calls Tryd.prog 32 #[.agg #[.int .i64 a.l, .int .u64 a.c, .int .i64 a.i], .agg #[.int .i64 b.l, .int .u64 b.c, .int .i64 b.i]] w fun e w' => e = .returned (.int .i64 (-1)) ∧ Below w.heap.size w w' := by
  have hB : Below w.heap.size w ((w.alloc (.cells #[.int .i64 a.l, .int .u64 a.c, .int .i64 a.i] 25)).alloc (.cells #[.int .i64 b.l, .int .u64 b.c, .int .i64 b.i] 25)) := (Below.new _ _).alloc (by simp) _
  have qa := eqL a b
  have qb := eqInL a b
  rw [hs] at qa qb
  clear hs
  go_enter Tryd.func32, Tryd.ntmps32
  go_wp2
  go_ret
  exact ⟨rfl, hB⟩

set_option maxRecDepth 100000 in
set_option maxHeartbeats 1000000 in
theorem refCompare_lg (a b : Lab) (hs : a.same b = false) (h1 : b.l < a.l) (w : World) :
    Calls Tryd.prog 32 #[.agg #[.int .i64 a.l, .int .u64 a.c, .int .i64 a.i], .agg #[.int .i64 b.l, .int .u64 b.c, .int .i64 b.i]] w fun e w' => e = .returned (.int .i64 (1)) ∧ Below w.heap.size w w' := by
  have hB : Below w.heap.size w ((w.alloc (.cells #[.int .i64 a.l, .int .u64 a.c, .int .i64 a.i] 25)).alloc (.cells #[.int .i64 b.l, .int .u64 b.c, .int .i64 b.i] 25)) := (Below.new _ _).alloc (by simp) _
  have qa := eqL a b
  have qb := eqInL a b
  rw [hs] at qa qb
  have z0 : ¬ a.l < b.l := by omega
  have z1 : (a.l == b.l) = false := by simp; omega
  clear hs
  go_enter Tryd.func32, Tryd.ntmps32
  go_wp2
  go_ret
  exact ⟨rfl, hB⟩

set_option maxRecDepth 100000 in
set_option maxHeartbeats 1000000 in
theorem refCompare_cl (a b : Lab) (hs : a.same b = false) (h1 : a.l = b.l) (h2 : a.c < b.c) (w : World) :
    Calls Tryd.prog 32 #[.agg #[.int .i64 a.l, .int .u64 a.c, .int .i64 a.i], .agg #[.int .i64 b.l, .int .u64 b.c, .int .i64 b.i]] w fun e w' => e = .returned (.int .i64 (-1)) ∧ Below w.heap.size w w' := by
  have hB : Below w.heap.size w ((w.alloc (.cells #[.int .i64 a.l, .int .u64 a.c, .int .i64 a.i] 25)).alloc (.cells #[.int .i64 b.l, .int .u64 b.c, .int .i64 b.i] 25)) := (Below.new _ _).alloc (by simp) _
  have qa := eqL a b
  have qb := eqInL a b
  rw [hs] at qa qb
  have z0 : ¬ a.l < b.l := by omega
  have z1 : (a.l == b.l) = true := by simp [h1]
  have z2 : ((a.c : Nat) : Int) < ((b.c : Nat) : Int) := by omega
  clear h1
  clear hs
  go_enter Tryd.func32, Tryd.ntmps32
  go_wp2
  go_ret
  exact ⟨rfl, hB⟩

set_option maxRecDepth 100000 in
set_option maxHeartbeats 1000000 in
theorem refCompare_cg (a b : Lab) (hs : a.same b = false) (h1 : a.l = b.l) (h2 : b.c < a.c) (w : World) :
    Calls Tryd.prog 32 #[.agg #[.int .i64 a.l, .int .u64 a.c, .int .i64 a.i], .agg #[.int .i64 b.l, .int .u64 b.c, .int .i64 b.i]] w fun e w' => e = .returned (.int .i64 (1)) ∧ Below w.heap.size w w' := by
  have hB : Below w.heap.size w ((w.alloc (.cells #[.int .i64 a.l, .int .u64 a.c, .int .i64 a.i] 25)).alloc (.cells #[.int .i64 b.l, .int .u64 b.c, .int .i64 b.i] 25)) := (Below.new _ _).alloc (by simp) _
  have qa := eqL a b
  have qb := eqInL a b
  rw [hs] at qa qb
  have z0 : ¬ a.l < b.l := by omega
  have z1 : (a.l == b.l) = true := by simp [h1]
  have z2 : ¬ a.c < b.c := by omega
  have z3 : (((a.c : Nat) : Int) == ((b.c : Nat) : Int)) = false := by simp; omega
  clear h1
  clear hs
  go_enter Tryd.func32, Tryd.ntmps32
  go_wp2
  go_ret
  exact ⟨rfl, hB⟩

set_option maxRecDepth 100000 in
set_option maxHeartbeats 1000000 in
theorem refCompare_il (a b : Lab) (hs : a.same b = false) (h1 : a.l = b.l) (h2 : a.c = b.c) (h3 : a.i < b.i) (w : World) :
    Calls Tryd.prog 32 #[.agg #[.int .i64 a.l, .int .u64 a.c, .int .i64 a.i], .agg #[.int .i64 b.l, .int .u64 b.c, .int .i64 b.i]] w fun e w' => e = .returned (.int .i64 (-1)) ∧ Below w.heap.size w w' := by
  have hB : Below w.heap.size w ((w.alloc (.cells #[.int .i64 a.l, .int .u64 a.c, .int .i64 a.i] 25)).alloc (.cells #[.int .i64 b.l, .int .u64 b.c, .int .i64 b.i] 25)) := (Below.new _ _).alloc (by simp) _
  have qa := eqL a b
  have qb := eqInL a b
  rw [hs] at qa qb
  have z0 : ¬ a.l < b.l := by omega
  have z1 : (a.l == b.l) = true := by simp [h1]
  have z2 : ¬ a.c < b.c := by omega
  have z3 : (((a.c : Nat) : Int) == ((b.c : Nat) : Int)) = true := by simp [h2]
  clear h1 h2
  clear hs
  go_enter Tryd.func32, Tryd.ntmps32
  go_wp2
  go_ret
  exact ⟨rfl, hB⟩

set_option maxRecDepth 100000 in
set_option maxHeartbeats 1000000 in
theorem refCompare_ig (a b : Lab) (hs : a.same b = false) (h1 : a.l = b.l) (h2 : a.c = b.c) (h3 : ¬ a.i < b.i) (w : World) :
    Calls Tryd.prog 32 #[.agg #[.int .i64 a.l, .int .u64 a.c, .int .i64 a.i], .agg #[.int .i64 b.l, .int .u64 b.c, .int .i64 b.i]] w fun e w' => e = .returned (.int .i64 (1)) ∧ Below w.heap.size w w' := by
  have hB : Below w.heap.size w ((w.alloc (.cells #[.int .i64 a.l, .int .u64 a.c, .int .i64 a.i] 25)).alloc (.cells #[.int .i64 b.l, .int .u64 b.c, .int .i64 b.i] 25)) := (Below.new _ _).alloc (by simp) _
  have qa := eqL a b
  have qb := eqInL a b
  rw [hs] at qa qb
  have z0 : ¬ a.l < b.l := by omega
  have z1 : (a.l == b.l) = true := by simp [h1]
  have z2 : ¬ a.c < b.c := by omega
  have z3 : (((a.c : Nat) : Int) == ((b.c : Nat) : Int)) = true := by simp [h2]
  clear h1 h2
  clear hs
  go_enter Tryd.func32, Tryd.ntmps32
  go_wp2
  go_ret
  exact ⟨rfl, hB⟩

theorem cmp_of_ahead {a b : Lab} (hs : a.same b = false) (h : a.ahead b = true) : a.cmp b = -1 := by unfold Lab.cmp; rw [hs, h]; rfl
theorem cmp_of_not {a b : Lab} (hs : a.same b = false) (h : a.ahead b = false) : a.cmp b = 1 := by unfold Lab.cmp; rw [hs, h]; rfl
theorem refCompare_any (a b : Lab) (w : World) :
    Calls Tryd.prog 32 #[.agg #[.int .i64 a.l, .int .u64 a.c, .int .i64 a.i], .agg #[.int .i64 b.l, .int .u64 b.c, .int .i64 b.i]] w fun e w' => e = .returned (.int .i64 (a.cmp b)) ∧ Below w.heap.size w w' := by
  cases hs : a.same b
  · by_cases h1 : a.l = b.l
    · by_cases h2 : a.c = b.c
      · by_cases h3 : a.i < b.i
        · rw [cmp_of_ahead hs (by unfold Lab.ahead; simp [h1, h2, h3])]
          exact refCompare_il a b hs h1 h2 h3 w
        · rw [cmp_of_not hs (by unfold Lab.ahead; simp [h1, h2, h3] <;> omega)]
          exact refCompare_ig a b hs h1 h2 h3 w
      · by_cases h3 : a.c < b.c
        · rw [cmp_of_ahead hs (by unfold Lab.ahead; simp [h1, h2, h3])]
          exact refCompare_cl a b hs h1 h3 w
        · rw [cmp_of_not hs (by unfold Lab.ahead; simp [h1, h2] <;> omega)]
          exact refCompare_cg a b hs h1 (by omega) w
    · by_cases h2 : a.l < b.l
      · rw [cmp_of_ahead hs (by unfold Lab.ahead; simp [h1, h2])]
        exact refCompare_ll a b hs h2 w
      · rw [cmp_of_not hs (by unfold Lab.ahead; simp [h1] <;> omega)]
        exact refCompare_lg a b hs (by omega) w
  · rw [show a.cmp b = 0 by unfold Lab.cmp; rw [hs]; rfl]
    exact refCompare_same a b hs w

end Go.Proofs.YtpaaeojojbdikaaDoor
