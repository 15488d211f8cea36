/- What the statements' head shows of label; how labels lie in memory when a law begins. -/
import Derived.Test.YtafghaceahchhaaDoorLabMeet
namespace Go.Proofs.YtafghaceahchhaaDoor
open Go.RowKit Go.Proofs.Cats Go.Shelf

theorem one_at (w : World) (x : Lab) (hg : ErrT w) : Below w.heap.size w (w.alloc (.cells #[.int .i64 x.l, .int .u64 x.c, .int .i64 x.i] 24)) ∧ ErrT (w.alloc (.cells #[.int .i64 x.l, .int .u64 x.c, .int .i64 x.i] 24)) ∧ (w.alloc (.cells #[.int .i64 x.l, .int .u64 x.c, .int .i64 x.i] 24)).cell? ⟨w.heap.size, 0, none⟩ = some (.int .i64 x.l) ∧ (w.alloc (.cells #[.int .i64 x.l, .int .u64 x.c, .int .i64 x.i] 24)).cell? ⟨w.heap.size, 1, none⟩ = some (.int .u64 x.c) ∧ (w.alloc (.cells #[.int .i64 x.l, .int .u64 x.c, .int .i64 x.i] 24)).cell? ⟨w.heap.size, 2, none⟩ = some (.int .i64 x.i) := by
  have hB : Below w.heap.size w (w.alloc (.cells #[.int .i64 x.l, .int .u64 x.c, .int .i64 x.i] 24)) := ((Below.refl _ w).alloc (Nat.le_refl _) _)
  refine ⟨hB, hg.more hB, ?_, ?_, ?_⟩ <;> go_simp
theorem two_at (w : World) (x y : Lab) (hg : ErrT w) : Below w.heap.size w ((w.alloc (.cells #[.int .i64 x.l, .int .u64 x.c, .int .i64 x.i] 24)).alloc (.cells #[.int .i64 y.l, .int .u64 y.c, .int .i64 y.i] 24)) ∧ ErrT ((w.alloc (.cells #[.int .i64 x.l, .int .u64 x.c, .int .i64 x.i] 24)).alloc (.cells #[.int .i64 y.l, .int .u64 y.c, .int .i64 y.i] 24)) ∧ ((w.alloc (.cells #[.int .i64 x.l, .int .u64 x.c, .int .i64 x.i] 24)).alloc (.cells #[.int .i64 y.l, .int .u64 y.c, .int .i64 y.i] 24)).cell? ⟨w.heap.size, 0, none⟩ = some (.int .i64 x.l) ∧ ((w.alloc (.cells #[.int .i64 x.l, .int .u64 x.c, .int .i64 x.i] 24)).alloc (.cells #[.int .i64 y.l, .int .u64 y.c, .int .i64 y.i] 24)).cell? ⟨w.heap.size, 1, none⟩ = some (.int .u64 x.c) ∧ ((w.alloc (.cells #[.int .i64 x.l, .int .u64 x.c, .int .i64 x.i] 24)).alloc (.cells #[.int .i64 y.l, .int .u64 y.c, .int .i64 y.i] 24)).cell? ⟨w.heap.size, 2, none⟩ = some (.int .i64 x.i) ∧ ((w.alloc (.cells #[.int .i64 x.l, .int .u64 x.c, .int .i64 x.i] 24)).alloc (.cells #[.int .i64 y.l, .int .u64 y.c, .int .i64 y.i] 24)).cell? ⟨w.heap.size + 1, 0, none⟩ = some (.int .i64 y.l) ∧ ((w.alloc (.cells #[.int .i64 x.l, .int .u64 x.c, .int .i64 x.i] 24)).alloc (.cells #[.int .i64 y.l, .int .u64 y.c, .int .i64 y.i] 24)).cell? ⟨w.heap.size + 1, 1, none⟩ = some (.int .u64 y.c) ∧ ((w.alloc (.cells #[.int .i64 x.l, .int .u64 x.c, .int .i64 x.i] 24)).alloc (.cells #[.int .i64 y.l, .int .u64 y.c, .int .i64 y.i] 24)).cell? ⟨w.heap.size + 1, 2, none⟩ = some (.int .i64 y.i) := by
  have hB : Below w.heap.size w ((w.alloc (.cells #[.int .i64 x.l, .int .u64 x.c, .int .i64 x.i] 24)).alloc (.cells #[.int .i64 y.l, .int .u64 y.c, .int .i64 y.i] 24)) := (((Below.refl _ w).alloc (Nat.le_refl _) _).alloc (by simp) _)
  refine ⟨hB, hg.more hB, ?_, ?_, ?_, ?_, ?_, ?_⟩ <;> go_simp
theorem three_at (w : World) (x y z : Lab) (hg : ErrT w) : Below w.heap.size w (((w.alloc (.cells #[.int .i64 x.l, .int .u64 x.c, .int .i64 x.i] 24)).alloc (.cells #[.int .i64 y.l, .int .u64 y.c, .int .i64 y.i] 24)).alloc (.cells #[.int .i64 z.l, .int .u64 z.c, .int .i64 z.i] 24)) ∧ ErrT (((w.alloc (.cells #[.int .i64 x.l, .int .u64 x.c, .int .i64 x.i] 24)).alloc (.cells #[.int .i64 y.l, .int .u64 y.c, .int .i64 y.i] 24)).alloc (.cells #[.int .i64 z.l, .int .u64 z.c, .int .i64 z.i] 24)) ∧ (((w.alloc (.cells #[.int .i64 x.l, .int .u64 x.c, .int .i64 x.i] 24)).alloc (.cells #[.int .i64 y.l, .int .u64 y.c, .int .i64 y.i] 24)).alloc (.cells #[.int .i64 z.l, .int .u64 z.c, .int .i64 z.i] 24)).cell? ⟨w.heap.size, 0, none⟩ = some (.int .i64 x.l) ∧ (((w.alloc (.cells #[.int .i64 x.l, .int .u64 x.c, .int .i64 x.i] 24)).alloc (.cells #[.int .i64 y.l, .int .u64 y.c, .int .i64 y.i] 24)).alloc (.cells #[.int .i64 z.l, .int .u64 z.c, .int .i64 z.i] 24)).cell? ⟨w.heap.size, 1, none⟩ = some (.int .u64 x.c) ∧ (((w.alloc (.cells #[.int .i64 x.l, .int .u64 x.c, .int .i64 x.i] 24)).alloc (.cells #[.int .i64 y.l, .int .u64 y.c, .int .i64 y.i] 24)).alloc (.cells #[.int .i64 z.l, .int .u64 z.c, .int .i64 z.i] 24)).cell? ⟨w.heap.size, 2, none⟩ = some (.int .i64 x.i) ∧ (((w.alloc (.cells #[.int .i64 x.l, .int .u64 x.c, .int .i64 x.i] 24)).alloc (.cells #[.int .i64 y.l, .int .u64 y.c, .int .i64 y.i] 24)).alloc (.cells #[.int .i64 z.l, .int .u64 z.c, .int .i64 z.i] 24)).cell? ⟨w.heap.size + 1, 0, none⟩ = some (.int .i64 y.l) ∧ (((w.alloc (.cells #[.int .i64 x.l, .int .u64 x.c, .int .i64 x.i] 24)).alloc (.cells #[.int .i64 y.l, .int .u64 y.c, .int .i64 y.i] 24)).alloc (.cells #[.int .i64 z.l, .int .u64 z.c, .int .i64 z.i] 24)).cell? ⟨w.heap.size + 1, 1, none⟩ = some (.int .u64 y.c) ∧ (((w.alloc (.cells #[.int .i64 x.l, .int .u64 x.c, .int .i64 x.i] 24)).alloc (.cells #[.int .i64 y.l, .int .u64 y.c, .int .i64 y.i] 24)).alloc (.cells #[.int .i64 z.l, .int .u64 z.c, .int .i64 z.i] 24)).cell? ⟨w.heap.size + 1, 2, none⟩ = some (.int .i64 y.i) ∧ (((w.alloc (.cells #[.int .i64 x.l, .int .u64 x.c, .int .i64 x.i] 24)).alloc (.cells #[.int .i64 y.l, .int .u64 y.c, .int .i64 y.i] 24)).alloc (.cells #[.int .i64 z.l, .int .u64 z.c, .int .i64 z.i] 24)).cell? ⟨w.heap.size + 1 + 1, 0, none⟩ = some (.int .i64 z.l) ∧ (((w.alloc (.cells #[.int .i64 x.l, .int .u64 x.c, .int .i64 x.i] 24)).alloc (.cells #[.int .i64 y.l, .int .u64 y.c, .int .i64 y.i] 24)).alloc (.cells #[.int .i64 z.l, .int .u64 z.c, .int .i64 z.i] 24)).cell? ⟨w.heap.size + 1 + 1, 1, none⟩ = some (.int .u64 z.c) ∧ (((w.alloc (.cells #[.int .i64 x.l, .int .u64 x.c, .int .i64 x.i] 24)).alloc (.cells #[.int .i64 y.l, .int .u64 y.c, .int .i64 y.i] 24)).alloc (.cells #[.int .i64 z.l, .int .u64 z.c, .int .i64 z.i] 24)).cell? ⟨w.heap.size + 1 + 1, 2, none⟩ = some (.int .i64 z.i) := by
  have hB : Below w.heap.size w (((w.alloc (.cells #[.int .i64 x.l, .int .u64 x.c, .int .i64 x.i] 24)).alloc (.cells #[.int .i64 y.l, .int .u64 y.c, .int .i64 y.i] 24)).alloc (.cells #[.int .i64 z.l, .int .u64 z.c, .int .i64 z.i] 24)) := ((((Below.refl _ w).alloc (Nat.le_refl _) _).alloc (by simp) _).alloc (by simp; omega) _)
  refine ⟨hB, hg.more hB, ?_, ?_, ?_, ?_, ?_, ?_, ?_, ?_, ?_⟩ <;> go_simp

theorem shownJ (w : World) (hg : ErrT w) : Calls Tryd.prog 12 #[.agg #[.int .i64 3, .int .u64 1, .int .i64 5], .agg #[.int .i64 2, .int .u64 2, .int .i64 6]] w fun e w' =>
    e = .returned (.tuple #[.agg #[.int .i64 3, .int .u64 3, .int .i64 5], .int .i64 0]) ∧ Below w.heap.size w w' := Join_any ⟨3, 1, 5⟩ ⟨2, 2, 6⟩ (by unfold Lab.fits U64; decide) (by unfold Lab.fits U64; decide) w hg
theorem shownM (w : World) (hg : ErrT w) : Calls Tryd.prog 14 #[.agg #[.int .i64 3, .int .u64 1, .int .i64 5], .agg #[.int .i64 2, .int .u64 2, .int .i64 6]] w fun e w' =>
    e = .returned (.tuple #[.agg #[.int .i64 2, .int .u64 0, .int .i64 6], .int .i64 0]) ∧ Below w.heap.size w w' := Meet_any ⟨3, 1, 5⟩ ⟨2, 2, 6⟩ (by unfold Lab.fits U64; decide) (by unfold Lab.fits U64; decide) w hg
theorem shownE (w : World) (hg : ErrT w) : Calls Tryd.prog 12 #[.agg #[.int .i64 3, .int .u64 1, .int .i64 5], .agg #[.int .i64 16, .int .u64 0, .int .i64 0]] w fun e w' =>
    e = .returned (.tuple #[.agg #[.int .i64 0, .int .u64 0, .int .i64 0], .int .i64 20]) ∧ Below w.heap.size w w' := Join_any ⟨3, 1, 5⟩ ⟨16, 0, 0⟩ (by unfold Lab.fits U64; decide) (by unfold Lab.fits U64; decide) w hg
theorem shownU (w : World) : Calls Tryd.prog 18 #[.agg #[.int .i64 2, .int .u64 2, .int .i64 6], .agg #[.int .i64 3, .int .u64 3, .int .i64 5]] w fun e w' =>
    e = .returned (.bool true) ∧ Below w.heap.size w w' := by
  have := Under_any ⟨2, 2, 6⟩ ⟨3, 3, 5⟩ (by unfold Lab.fits U64; decide) (by unfold Lab.fits U64; decide) w
  rw [show Lab.under ⟨2, 2, 6⟩ ⟨3, 3, 5⟩ = true by decide +kernel] at this
  exact this
theorem shownN (w : World) : Calls Tryd.prog 18 #[.agg #[.int .i64 3, .int .u64 1, .int .i64 5], .agg #[.int .i64 2, .int .u64 2, .int .i64 6]] w fun e w' =>
    e = .returned (.bool false) ∧ Below w.heap.size w w' := by
  have := Under_any ⟨3, 1, 5⟩ ⟨2, 2, 6⟩ (by unfold Lab.fits U64; decide) (by unfold Lab.fits U64; decide) w
  rw [show Lab.under ⟨3, 1, 5⟩ ⟨2, 2, 6⟩ = false by decide +kernel] at this
  exact this

set_option maxRecDepth 100000 in
set_option maxHeartbeats 1000000 in
theorem shown_any (w : World) (hg : ErrT w) :
    Calls Tryd.prog 11 #[] w fun e w' => e = .returned (.bool true) ∧ Below w.heap.size w w' := by
  have hB : Below w.heap.size w ((w.alloc (.cells #[.int .i64 3, .int .u64 1, .int .i64 5] 24)).alloc (.cells #[.int .i64 2, .int .u64 2, .int .i64 6] 24)) := ((Below.refl _ w).alloc (Nat.le_refl _) _).alloc (by simp) _
  have hg1 := hg.more hB
  have a0 : ((w.alloc (.cells #[.int .i64 3, .int .u64 1, .int .i64 5] 24)).alloc (.cells #[.int .i64 2, .int .u64 2, .int .i64 6] 24)).cell? ⟨w.heap.size, 0, none⟩ = some (.int .i64 3) := by go_simp
  have a1 : ((w.alloc (.cells #[.int .i64 3, .int .u64 1, .int .i64 5] 24)).alloc (.cells #[.int .i64 2, .int .u64 2, .int .i64 6] 24)).cell? ⟨w.heap.size, 1, none⟩ = some (.int .u64 1) := by go_simp
  have a2 : ((w.alloc (.cells #[.int .i64 3, .int .u64 1, .int .i64 5] 24)).alloc (.cells #[.int .i64 2, .int .u64 2, .int .i64 6] 24)).cell? ⟨w.heap.size, 2, none⟩ = some (.int .i64 5) := by go_simp
  have b0 : ((w.alloc (.cells #[.int .i64 3, .int .u64 1, .int .i64 5] 24)).alloc (.cells #[.int .i64 2, .int .u64 2, .int .i64 6] 24)).cell? ⟨w.heap.size + 1, 0, none⟩ = some (.int .i64 2) := by go_simp
  have b1 : ((w.alloc (.cells #[.int .i64 3, .int .u64 1, .int .i64 5] 24)).alloc (.cells #[.int .i64 2, .int .u64 2, .int .i64 6] 24)).cell? ⟨w.heap.size + 1, 1, none⟩ = some (.int .u64 2) := by go_simp
  have b2 : ((w.alloc (.cells #[.int .i64 3, .int .u64 1, .int .i64 5] 24)).alloc (.cells #[.int .i64 2, .int .u64 2, .int .i64 6] 24)).cell? ⟨w.heap.size + 1, 2, none⟩ = some (.int .i64 6) := by go_simp
  clear hg
  go_enter Tryd.func11, Tryd.ntmps11
  go_wp2_with fail
  refine (shownJ _ hg1).mono ?_
  rintro e w1 ⟨he, hb⟩
  subst he
  replace a0 := cell_later hb a0
  replace a1 := cell_later hb a1
  replace a2 := cell_later hb a2
  replace b0 := cell_later hb b0
  replace b1 := cell_later hb b1
  replace b2 := cell_later hb b2
  replace hB := below_more hB hb
  replace hg1 := hg1.more hb
  clear hb
  have hn := Below.new w1 (.cells #[.int .i64 3, .int .u64 3, .int .i64 5] 24)
  replace a0 := cell_later hn a0
  replace a1 := cell_later hn a1
  replace a2 := cell_later hn a2
  replace b0 := cell_later hn b0
  replace b1 := cell_later hn b1
  replace b2 := cell_later hn b2
  replace hB := below_more hB hn
  replace hg1 := hg1.more hn
  have c0 : (w1.alloc (.cells #[.int .i64 3, .int .u64 3, .int .i64 5] 24)).cell? ⟨w1.heap.size, 0, none⟩ = some (.int .i64 3) := by simp
  have c1 : (w1.alloc (.cells #[.int .i64 3, .int .u64 3, .int .i64 5] 24)).cell? ⟨w1.heap.size, 1, none⟩ = some (.int .u64 3) := by simp
  have c2 : (w1.alloc (.cells #[.int .i64 3, .int .u64 3, .int .i64 5] 24)).cell? ⟨w1.heap.size, 2, none⟩ = some (.int .i64 5) := by simp
  clear hn
  go_wp2_with fail
  refine (shownM _ hg1).mono ?_
  rintro e w2 ⟨he, hb⟩
  subst he
  replace a0 := cell_later hb a0
  replace a1 := cell_later hb a1
  replace a2 := cell_later hb a2
  replace b0 := cell_later hb b0
  replace b1 := cell_later hb b1
  replace b2 := cell_later hb b2
  replace c0 := cell_later hb c0
  replace c1 := cell_later hb c1
  replace c2 := cell_later hb c2
  replace hB := below_more hB hb
  replace hg1 := hg1.more hb
  clear hb
  have hn := Below.new w2 (.cells #[.int .i64 2, .int .u64 0, .int .i64 6] 24)
  replace a0 := cell_later hn a0
  replace a1 := cell_later hn a1
  replace a2 := cell_later hn a2
  replace b0 := cell_later hn b0
  replace b1 := cell_later hn b1
  replace b2 := cell_later hn b2
  replace c0 := cell_later hn c0
  replace c1 := cell_later hn c1
  replace c2 := cell_later hn c2
  replace hB := below_more hB hn
  replace hg1 := hg1.more hn
  have d0 : (w2.alloc (.cells #[.int .i64 2, .int .u64 0, .int .i64 6] 24)).cell? ⟨w2.heap.size, 0, none⟩ = some (.int .i64 2) := by simp
  have d1 : (w2.alloc (.cells #[.int .i64 2, .int .u64 0, .int .i64 6] 24)).cell? ⟨w2.heap.size, 1, none⟩ = some (.int .u64 0) := by simp
  have d2 : (w2.alloc (.cells #[.int .i64 2, .int .u64 0, .int .i64 6] 24)).cell? ⟨w2.heap.size, 2, none⟩ = some (.int .i64 6) := by simp
  clear hn
  go_wp2_with fail
  refine (shownE _ hg1).mono ?_
  rintro e w3 ⟨he, hb⟩
  subst he
  replace a0 := cell_later hb a0
  replace a1 := cell_later hb a1
  replace a2 := cell_later hb a2
  replace b0 := cell_later hb b0
  replace b1 := cell_later hb b1
  replace b2 := cell_later hb b2
  replace c0 := cell_later hb c0
  replace c1 := cell_later hb c1
  replace c2 := cell_later hb c2
  replace d0 := cell_later hb d0
  replace d1 := cell_later hb d1
  replace d2 := cell_later hb d2
  replace hB := below_more hB hb
  replace hg1 := hg1.more hb
  clear hb
  have hn := Below.new w3 (.cells #[.int .i64 0, .int .u64 0, .int .i64 0] 24)
  replace a0 := cell_later hn a0
  replace a1 := cell_later hn a1
  replace a2 := cell_later hn a2
  replace b0 := cell_later hn b0
  replace b1 := cell_later hn b1
  replace b2 := cell_later hn b2
  replace c0 := cell_later hn c0
  replace c1 := cell_later hn c1
  replace c2 := cell_later hn c2
  replace d0 := cell_later hn d0
  replace d1 := cell_later hn d1
  replace d2 := cell_later hn d2
  replace hB := below_more hB hn
  replace hg1 := hg1.more hn
  have x0 : (w3.alloc (.cells #[.int .i64 0, .int .u64 0, .int .i64 0] 24)).cell? ⟨w3.heap.size, 0, none⟩ = some (.int .i64 0) := by simp
  have x1 : (w3.alloc (.cells #[.int .i64 0, .int .u64 0, .int .i64 0] 24)).cell? ⟨w3.heap.size, 1, none⟩ = some (.int .u64 0) := by simp
  have x2 : (w3.alloc (.cells #[.int .i64 0, .int .u64 0, .int .i64 0] 24)).cell? ⟨w3.heap.size, 2, none⟩ = some (.int .i64 0) := by simp
  clear hn
  go_wp2_with fail
  refine (shownU _).mono ?_
  rintro e w4 ⟨he, hb⟩
  subst he
  replace a0 := cell_later hb a0
  replace a1 := cell_later hb a1
  replace a2 := cell_later hb a2
  replace b0 := cell_later hb b0
  replace b1 := cell_later hb b1
  replace b2 := cell_later hb b2
  replace c0 := cell_later hb c0
  replace c1 := cell_later hb c1
  replace c2 := cell_later hb c2
  replace d0 := cell_later hb d0
  replace d1 := cell_later hb d1
  replace d2 := cell_later hb d2
  replace x0 := cell_later hb x0
  replace x1 := cell_later hb x1
  replace x2 := cell_later hb x2
  replace hB := below_more hB hb
  replace hg1 := hg1.more hb
  clear hb
  go_wp2_with fail
  refine (shownN _).mono ?_
  rintro e w5 ⟨he, hb⟩
  subst he
  replace hB := below_more hB hb
  clear hb
  go_wp2
  go_ret
  exact ⟨rfl, hB⟩

end Go.Proofs.YtafghaceahchhaaDoor
