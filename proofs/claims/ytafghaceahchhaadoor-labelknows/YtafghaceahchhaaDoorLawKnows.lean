/- The law LabelKnows, walked. -/
import Derived.Test.YtafghaceahchhaaDoorLabRefM
namespace Go.Proofs.YtafghaceahchhaaDoor
open Go.RowKit Go.Proofs.Cats Go.Shelf

set_option maxRecDepth 100000 in
set_option maxHeartbeats 4000000 in
theorem labelKnows_any (a b : Lab) (hfa : a.fits) (hfb : b.fits) (w : World) (hg : ErrT w) :
    Calls Tryd.prog 3 #[.agg #[.int .i64 a.l, .int .u64 a.c, .int .i64 a.i], .agg #[.int .i64 b.l, .int .u64 b.c, .int .i64 b.i]] w fun e w' => e = .returned (.bool true) ∧ Below w.heap.size w w' := by
  have _hu := And.intro hfa (hfb)
  clear _hu
  have qa := eqL (twoJ a b) (twoJ a b)
  have qb := eqInL (twoJ a b) (twoJ a b)
  rw [same_self] at qa qb
  have qc := eqL (twoM a b) (twoM a b)
  have qd := eqInL (twoM a b) (twoM a b)
  rw [same_self] at qc qd
  obtain ⟨hB, hg1, a0, a1, a2, b0, b1, b2⟩ := two_at w a b hg
  clear hg
  go_enter Tryd.func3, Tryd.ntmps3
  go_wp2_with fail
  refine (shown_any _ hg1).mono ?_
  rintro e w1 ⟨he, hb⟩
  subst he
  replace a0 := cell_later hb a0
  replace a1 := cell_later hb a1
  replace a2 := cell_later hb a2
  replace b0 := cell_later hb b0
  replace b1 := cell_later hb b1
  replace b2 := cell_later hb b2
  replace hB := below_more hB hb
  replace hg1 := hg1.more hb
  clear hb
  go_wp2_with fail
  refine (Join_any a b hfa hfb _ hg1).mono ?_
  rintro e w2 ⟨he, hb⟩
  subst he
  replace a0 := cell_later hb a0
  replace a1 := cell_later hb a1
  replace a2 := cell_later hb a2
  replace b0 := cell_later hb b0
  replace b1 := cell_later hb b1
  replace b2 := cell_later hb b2
  replace hB := below_more hB hb
  replace hg1 := hg1.more hb
  clear hb
  have hn := Below.new w2 (.cells #[.int .i64 (twoJ a b).l, .int .u64 (twoJ a b).c, .int .i64 (twoJ a b).i] 24)
  replace a0 := cell_later hn a0
  replace a1 := cell_later hn a1
  replace a2 := cell_later hn a2
  replace b0 := cell_later hn b0
  replace b1 := cell_later hn b1
  replace b2 := cell_later hn b2
  replace hB := below_more hB hn
  replace hg1 := hg1.more hn
  have c0 : (w2.alloc (.cells #[.int .i64 (twoJ a b).l, .int .u64 (twoJ a b).c, .int .i64 (twoJ a b).i] 24)).cell? ⟨w2.heap.size, 0, none⟩ = some (.int .i64 (twoJ a b).l) := by simp
  have c1 : (w2.alloc (.cells #[.int .i64 (twoJ a b).l, .int .u64 (twoJ a b).c, .int .i64 (twoJ a b).i] 24)).cell? ⟨w2.heap.size, 1, none⟩ = some (.int .u64 (twoJ a b).c) := by simp
  have c2 : (w2.alloc (.cells #[.int .i64 (twoJ a b).l, .int .u64 (twoJ a b).c, .int .i64 (twoJ a b).i] 24)).cell? ⟨w2.heap.size, 2, none⟩ = some (.int .i64 (twoJ a b).i) := by simp
  clear hn
  go_wp2_with fail
  refine (refJoin_any a b hfa hfb _ hg1).mono ?_
  rintro e w3 ⟨he, hb⟩
  subst he
  replace a0 := cell_later hb a0
  replace a1 := cell_later hb a1
  replace a2 := cell_later hb a2
  replace b0 := cell_later hb b0
  replace b1 := cell_later hb b1
  replace b2 := cell_later hb b2
  replace c0 := cell_later hb c0
  replace c1 := cell_later hb c1
  replace c2 := cell_later hb c2
  replace hB := below_more hB hb
  replace hg1 := hg1.more hb
  clear hb
  have hn := Below.new w3 (.cells #[.int .i64 (twoJ a b).l, .int .u64 (twoJ a b).c, .int .i64 (twoJ a b).i] 24)
  replace a0 := cell_later hn a0
  replace a1 := cell_later hn a1
  replace a2 := cell_later hn a2
  replace b0 := cell_later hn b0
  replace b1 := cell_later hn b1
  replace b2 := cell_later hn b2
  replace c0 := cell_later hn c0
  replace c1 := cell_later hn c1
  replace c2 := cell_later hn c2
  replace hB := below_more hB hn
  replace hg1 := hg1.more hn
  have d0 : (w3.alloc (.cells #[.int .i64 (twoJ a b).l, .int .u64 (twoJ a b).c, .int .i64 (twoJ a b).i] 24)).cell? ⟨w3.heap.size, 0, none⟩ = some (.int .i64 (twoJ a b).l) := by simp
  have d1 : (w3.alloc (.cells #[.int .i64 (twoJ a b).l, .int .u64 (twoJ a b).c, .int .i64 (twoJ a b).i] 24)).cell? ⟨w3.heap.size, 1, none⟩ = some (.int .u64 (twoJ a b).c) := by simp
  have d2 : (w3.alloc (.cells #[.int .i64 (twoJ a b).l, .int .u64 (twoJ a b).c, .int .i64 (twoJ a b).i] 24)).cell? ⟨w3.heap.size, 2, none⟩ = some (.int .i64 (twoJ a b).i) := by simp
  clear hn
  go_wp2_with fail
  refine (Meet_any a b hfa hfb _ hg1).mono ?_
  rintro e w4 ⟨he, hb⟩
  subst he
  replace a0 := cell_later hb a0
  replace a1 := cell_later hb a1
  replace a2 := cell_later hb a2
  replace b0 := cell_later hb b0
  replace b1 := cell_later hb b1
  replace b2 := cell_later hb b2
  replace c0 := cell_later hb c0
  replace c1 := cell_later hb c1
  replace c2 := cell_later hb c2
  replace d0 := cell_later hb d0
  replace d1 := cell_later hb d1
  replace d2 := cell_later hb d2
  replace hB := below_more hB hb
  replace hg1 := hg1.more hb
  clear hb
  have hn := Below.new w4 (.cells #[.int .i64 (twoM a b).l, .int .u64 (twoM a b).c, .int .i64 (twoM a b).i] 24)
  replace a0 := cell_later hn a0
  replace a1 := cell_later hn a1
  replace a2 := cell_later hn a2
  replace b0 := cell_later hn b0
  replace b1 := cell_later hn b1
  replace b2 := cell_later hn b2
  replace c0 := cell_later hn c0
  replace c1 := cell_later hn c1
  replace c2 := cell_later hn c2
  replace d0 := cell_later hn d0
  replace d1 := cell_later hn d1
  replace d2 := cell_later hn d2
  replace hB := below_more hB hn
  replace hg1 := hg1.more hn
  have g0 : (w4.alloc (.cells #[.int .i64 (twoM a b).l, .int .u64 (twoM a b).c, .int .i64 (twoM a b).i] 24)).cell? ⟨w4.heap.size, 0, none⟩ = some (.int .i64 (twoM a b).l) := by simp
  have g1 : (w4.alloc (.cells #[.int .i64 (twoM a b).l, .int .u64 (twoM a b).c, .int .i64 (twoM a b).i] 24)).cell? ⟨w4.heap.size, 1, none⟩ = some (.int .u64 (twoM a b).c) := by simp
  have g2 : (w4.alloc (.cells #[.int .i64 (twoM a b).l, .int .u64 (twoM a b).c, .int .i64 (twoM a b).i] 24)).cell? ⟨w4.heap.size, 2, none⟩ = some (.int .i64 (twoM a b).i) := by simp
  clear hn
  go_wp2_with fail
  refine (refMeet_any a b hfa hfb _ hg1).mono ?_
  rintro e w5 ⟨he, hb⟩
  subst he
  replace a0 := cell_later hb a0
  replace a1 := cell_later hb a1
  replace a2 := cell_later hb a2
  replace b0 := cell_later hb b0
  replace b1 := cell_later hb b1
  replace b2 := cell_later hb b2
  replace c0 := cell_later hb c0
  replace c1 := cell_later hb c1
  replace c2 := cell_later hb c2
  replace d0 := cell_later hb d0
  replace d1 := cell_later hb d1
  replace d2 := cell_later hb d2
  replace g0 := cell_later hb g0
  replace g1 := cell_later hb g1
  replace g2 := cell_later hb g2
  replace hB := below_more hB hb
  replace hg1 := hg1.more hb
  clear hb
  have hn := Below.new w5 (.cells #[.int .i64 (twoM a b).l, .int .u64 (twoM a b).c, .int .i64 (twoM a b).i] 24)
  replace a0 := cell_later hn a0
  replace a1 := cell_later hn a1
  replace a2 := cell_later hn a2
  replace b0 := cell_later hn b0
  replace b1 := cell_later hn b1
  replace b2 := cell_later hn b2
  replace c0 := cell_later hn c0
  replace c1 := cell_later hn c1
  replace c2 := cell_later hn c2
  replace d0 := cell_later hn d0
  replace d1 := cell_later hn d1
  replace d2 := cell_later hn d2
  replace g0 := cell_later hn g0
  replace g1 := cell_later hn g1
  replace g2 := cell_later hn g2
  replace hB := below_more hB hn
  replace hg1 := hg1.more hn
  have i0 : (w5.alloc (.cells #[.int .i64 (twoM a b).l, .int .u64 (twoM a b).c, .int .i64 (twoM a b).i] 24)).cell? ⟨w5.heap.size, 0, none⟩ = some (.int .i64 (twoM a b).l) := by simp
  have i1 : (w5.alloc (.cells #[.int .i64 (twoM a b).l, .int .u64 (twoM a b).c, .int .i64 (twoM a b).i] 24)).cell? ⟨w5.heap.size, 1, none⟩ = some (.int .u64 (twoM a b).c) := by simp
  have i2 : (w5.alloc (.cells #[.int .i64 (twoM a b).l, .int .u64 (twoM a b).c, .int .i64 (twoM a b).i] 24)).cell? ⟨w5.heap.size, 2, none⟩ = some (.int .i64 (twoM a b).i) := by simp
  clear hn
  have hM := labsAt_cons a0 a1 a2 (labsAt_cons b0 b1 b2 (labsAt_cons c0 c1 c2 (labsAt_cons d0 d1 d2 (labsAt_cons g0 g1 g2 (labsAt_cons i0 i1 i2 (labsAt_nil hB hg1))))))
  go_wp2_with fail
  clear a0 a1 a2 b0 b1 b2 c0 c1 c2 d0 d1 d2 g0 g1 g2 i0 i1 i2 hB hg1
  refine wp_region_held_drew (S := LabsAt w [(w.heap.size, a), (w.heap.size + 1, b), (w2.heap.size, (twoJ a b)), (w3.heap.size, (twoJ a b)), (w4.heap.size, (twoM a b)), (w5.heap.size, (twoM a b))]) (by kernel_rfl) (hM.drew) (fun hS0 => ?_)
  clear hM
  refine wpAnyH_take (i := 0) (oi := { dst := some 39, op := Go.Op.move (Go.Operand.tmp 5), type := 4, pos := "law.go:27", after := #[], guard := none }) (v := ?_) rfl (by kernel_rfl) (by kernel_rfl) (by kernel_rfl) (fun _ _ _ h => h) (Or.inl ⟨by rfl, ?_⟩) hS0 ?_; rotate_left; (· (intro wq hSw; obtain ⟨a0, a1, a2, hq1⟩ := labsAt_head hSw; obtain ⟨b0, b1, b2, hq2⟩ := labsAt_head hq1; obtain ⟨c0, c1, c2, hq3⟩ := labsAt_head hq2; obtain ⟨d0, d1, d2, hq4⟩ := labsAt_head hq3; obtain ⟨g0, g1, g2, hq5⟩ := labsAt_head hq4; obtain ⟨i0, i1, i2, hq6⟩ := labsAt_head hq5; go_simp; try with_reducible rfl))
  try simp only [Act.put, List.setIfInBounds_toArray, List.set_cons_zero, List.set_cons_succ]
  refine wpAnyH_take (i := 1) (oi := { dst := some 40, op := Go.Op.move (Go.Operand.tmp 39), type := 4, pos := "law.go:27", after := #[{ on := 0, ground := Go.Ground.data }], guard := none }) (v := ?_) rfl (by kernel_rfl) (by kernel_rfl) (by kernel_rfl) (fun _ _ _ h => h) (Or.inl ⟨by rfl, ?_⟩) hS0 ?_; rotate_left; (· (intro wq hSw; obtain ⟨a0, a1, a2, hq1⟩ := labsAt_head hSw; obtain ⟨b0, b1, b2, hq2⟩ := labsAt_head hq1; obtain ⟨c0, c1, c2, hq3⟩ := labsAt_head hq2; obtain ⟨d0, d1, d2, hq4⟩ := labsAt_head hq3; obtain ⟨g0, g1, g2, hq5⟩ := labsAt_head hq4; obtain ⟨i0, i1, i2, hq6⟩ := labsAt_head hq5; go_simp; try with_reducible rfl))
  try simp only [Act.put, List.setIfInBounds_toArray, List.set_cons_zero, List.set_cons_succ]
  refine wpAnyH_take (i := 2) (oi := { dst := some 41, op := Go.Op.load 24 (Go.Operand.tmp 2), type := 24, pos := "law.go:27", after := #[{ on := 1, ground := Go.Ground.guard }], guard := some (1, true) }) (v := ?_) rfl (by kernel_rfl) (by kernel_rfl) (by kernel_rfl) (fun _ _ _ h => h) (Or.inl ⟨by rfl, ?_⟩) hS0 ?_; rotate_left; (· (intro wq hSw; obtain ⟨a0, a1, a2, hq1⟩ := labsAt_head hSw; obtain ⟨b0, b1, b2, hq2⟩ := labsAt_head hq1; obtain ⟨c0, c1, c2, hq3⟩ := labsAt_head hq2; obtain ⟨d0, d1, d2, hq4⟩ := labsAt_head hq3; obtain ⟨g0, g1, g2, hq5⟩ := labsAt_head hq4; obtain ⟨i0, i1, i2, hq6⟩ := labsAt_head hq5; go_simp; try with_reducible rfl))
  try simp only [Act.put, List.setIfInBounds_toArray, List.set_cons_zero, List.set_cons_succ]
  refine wpAnyH_take (i := 4) (oi := { dst := some 43, op := Go.Op.load 24 (Go.Operand.tmp 2), type := 24, pos := "law.go:27", after := #[{ on := 1, ground := Go.Ground.guard }], guard := some (1, true) }) (v := ?_) rfl (by kernel_rfl) (by kernel_rfl) (by kernel_rfl) (fun _ _ _ h => h) (Or.inl ⟨by rfl, ?_⟩) hS0 ?_; rotate_left; (· (intro wq hSw; obtain ⟨a0, a1, a2, hq1⟩ := labsAt_head hSw; obtain ⟨b0, b1, b2, hq2⟩ := labsAt_head hq1; obtain ⟨c0, c1, c2, hq3⟩ := labsAt_head hq2; obtain ⟨d0, d1, d2, hq4⟩ := labsAt_head hq3; obtain ⟨g0, g1, g2, hq5⟩ := labsAt_head hq4; obtain ⟨i0, i1, i2, hq6⟩ := labsAt_head hq5; go_simp; try with_reducible rfl))
  try simp only [Act.put, List.setIfInBounds_toArray, List.set_cons_zero, List.set_cons_succ]
  refine wpAnyH_ready (rs := [3]) (by kernel_rfl) (by simp) ?_
  refine AllReadyH.cons (o := { dst := some 42, op := Go.Op.call { callee := Go.Callee.value (Go.Operand.func 16), args := #[Go.Operand.tmp 41], argTypes := #[24] }, type := 4, pos := "law.go:27", after := #[{ on := 2, ground := Go.Ground.data }, { on := 1, ground := Go.Ground.chain }, { on := 1, ground := Go.Ground.guard }], guard := some (1, true) }) rfl (fun K hK => ?_) AllReadyH.nil
  go_simp
  refine (right_any a hfa _).mono ?_
  rintro e w6 ⟨he, hb⟩
  subst he
  refine hK.out _ _ (LabsAt.later hS0 hb) (fun hS1 => ?_)
  clear hK K hS0 hb
  try simp only [Act.put, List.setIfInBounds_toArray, List.set_cons_zero, List.set_cons_succ]
  refine wpAnyH_ready (rs := [5]) (by kernel_rfl) (by simp) ?_
  refine AllReadyH.cons (o := { dst := some 44, op := Go.Op.call { callee := Go.Callee.value (Go.Operand.func 17), args := #[Go.Operand.tmp 43], argTypes := #[24] }, type := 4, pos := "law.go:27", after := #[{ on := 4, ground := Go.Ground.data }, { on := 3, ground := Go.Ground.chain }, { on := 1, ground := Go.Ground.guard }], guard := some (1, true) }) rfl (fun K hK => ?_) AllReadyH.nil
  go_simp
  refine (refRight_any a _).mono ?_
  rintro e w7 ⟨he, hb⟩
  subst he
  refine hK.out _ _ (LabsAt.later hS1 hb) (fun hS2 => ?_)
  clear hK K hS1 hb
  try simp only [Act.put, List.setIfInBounds_toArray, List.set_cons_zero, List.set_cons_succ]
  refine wpAnyH_take (i := 6) (oi := { dst := some 45, op := Go.Op.binOp Go.BinOp.eql 4 (Go.Operand.tmp 42) (Go.Operand.tmp 44) 4, type := 4, pos := "law.go:27", after := #[{ on := 3, ground := Go.Ground.data }, { on := 5, ground := Go.Ground.data }, { on := 1, ground := Go.Ground.guard }], guard := some (1, true) }) (v := ?_) rfl (by kernel_rfl) (by kernel_rfl) (by kernel_rfl) (fun _ _ _ h => h) (Or.inl ⟨by rfl, ?_⟩) hS2 ?_; rotate_left; (· (intro wq hSw; obtain ⟨a0, a1, a2, hq1⟩ := labsAt_head hSw; obtain ⟨b0, b1, b2, hq2⟩ := labsAt_head hq1; obtain ⟨c0, c1, c2, hq3⟩ := labsAt_head hq2; obtain ⟨d0, d1, d2, hq4⟩ := labsAt_head hq3; obtain ⟨g0, g1, g2, hq5⟩ := labsAt_head hq4; obtain ⟨i0, i1, i2, hq6⟩ := labsAt_head hq5; go_simp; try with_reducible rfl))
  try simp only [Act.put, List.setIfInBounds_toArray, List.set_cons_zero, List.set_cons_succ]
  refine wpAnyH_take (i := 7) (oi := { dst := some 46, op := Go.Op.pick (Go.Operand.tmp 40) (Go.Operand.tmp 45) (Go.Operand.const (Go.Value.bool false)), type := 4, pos := "law.go:27", after := #[{ on := 1, ground := Go.Ground.data }, { on := 6, ground := Go.Ground.data }], guard := none }) (v := ?_) rfl (by kernel_rfl) (by kernel_rfl) (by kernel_rfl) (fun _ _ _ h => h) (Or.inl ⟨by rfl, ?_⟩) hS2 ?_; rotate_left; (· (intro wq hSw; obtain ⟨a0, a1, a2, hq1⟩ := labsAt_head hSw; obtain ⟨b0, b1, b2, hq2⟩ := labsAt_head hq1; obtain ⟨c0, c1, c2, hq3⟩ := labsAt_head hq2; obtain ⟨d0, d1, d2, hq4⟩ := labsAt_head hq3; obtain ⟨g0, g1, g2, hq5⟩ := labsAt_head hq4; obtain ⟨i0, i1, i2, hq6⟩ := labsAt_head hq5; go_simp; try with_reducible rfl))
  try simp only [Act.put, List.setIfInBounds_toArray, List.set_cons_zero, List.set_cons_succ]
  refine wpAnyH_take (i := 8) (oi := { dst := some 47, op := Go.Op.move (Go.Operand.tmp 46), type := 4, pos := "law.go:27", after := #[{ on := 7, ground := Go.Ground.data }, { on := 5, ground := Go.Ground.chain }], guard := none }) (v := ?_) rfl (by kernel_rfl) (by kernel_rfl) (by kernel_rfl) (fun _ _ _ h => h) (Or.inl ⟨by rfl, ?_⟩) hS2 ?_; rotate_left; (· (intro wq hSw; obtain ⟨a0, a1, a2, hq1⟩ := labsAt_head hSw; obtain ⟨b0, b1, b2, hq2⟩ := labsAt_head hq1; obtain ⟨c0, c1, c2, hq3⟩ := labsAt_head hq2; obtain ⟨d0, d1, d2, hq4⟩ := labsAt_head hq3; obtain ⟨g0, g1, g2, hq5⟩ := labsAt_head hq4; obtain ⟨i0, i1, i2, hq6⟩ := labsAt_head hq5; go_simp; try with_reducible rfl))
  try simp only [Act.put, List.setIfInBounds_toArray, List.set_cons_zero, List.set_cons_succ]
  refine wpAnyH_take (i := 9) (oi := { dst := some 48, op := Go.Op.load 24 (Go.Operand.tmp 2), type := 24, pos := "law.go:27", after := #[{ on := 8, ground := Go.Ground.guard }], guard := some (8, true) }) (v := ?_) rfl (by kernel_rfl) (by kernel_rfl) (by kernel_rfl) (fun _ _ _ h => h) (Or.inl ⟨by rfl, ?_⟩) hS2 ?_; rotate_left; (· (intro wq hSw; obtain ⟨a0, a1, a2, hq1⟩ := labsAt_head hSw; obtain ⟨b0, b1, b2, hq2⟩ := labsAt_head hq1; obtain ⟨c0, c1, c2, hq3⟩ := labsAt_head hq2; obtain ⟨d0, d1, d2, hq4⟩ := labsAt_head hq3; obtain ⟨g0, g1, g2, hq5⟩ := labsAt_head hq4; obtain ⟨i0, i1, i2, hq6⟩ := labsAt_head hq5; go_simp; try with_reducible rfl))
  try simp only [Act.put, List.setIfInBounds_toArray, List.set_cons_zero, List.set_cons_succ]
  refine wpAnyH_take (i := 10) (oi := { dst := some 49, op := Go.Op.load 24 (Go.Operand.tmp 3), type := 24, pos := "law.go:27", after := #[{ on := 8, ground := Go.Ground.guard }], guard := some (8, true) }) (v := ?_) rfl (by kernel_rfl) (by kernel_rfl) (by kernel_rfl) (fun _ _ _ h => h) (Or.inl ⟨by rfl, ?_⟩) hS2 ?_; rotate_left; (· (intro wq hSw; obtain ⟨a0, a1, a2, hq1⟩ := labsAt_head hSw; obtain ⟨b0, b1, b2, hq2⟩ := labsAt_head hq1; obtain ⟨c0, c1, c2, hq3⟩ := labsAt_head hq2; obtain ⟨d0, d1, d2, hq4⟩ := labsAt_head hq3; obtain ⟨g0, g1, g2, hq5⟩ := labsAt_head hq4; obtain ⟨i0, i1, i2, hq6⟩ := labsAt_head hq5; go_simp; try with_reducible rfl))
  try simp only [Act.put, List.setIfInBounds_toArray, List.set_cons_zero, List.set_cons_succ]
  refine wpAnyH_take (i := 12) (oi := { dst := some 51, op := Go.Op.load 24 (Go.Operand.tmp 2), type := 24, pos := "law.go:27", after := #[{ on := 8, ground := Go.Ground.guard }], guard := some (8, true) }) (v := ?_) rfl (by kernel_rfl) (by kernel_rfl) (by kernel_rfl) (fun _ _ _ h => h) (Or.inl ⟨by rfl, ?_⟩) hS2 ?_; rotate_left; (· (intro wq hSw; obtain ⟨a0, a1, a2, hq1⟩ := labsAt_head hSw; obtain ⟨b0, b1, b2, hq2⟩ := labsAt_head hq1; obtain ⟨c0, c1, c2, hq3⟩ := labsAt_head hq2; obtain ⟨d0, d1, d2, hq4⟩ := labsAt_head hq3; obtain ⟨g0, g1, g2, hq5⟩ := labsAt_head hq4; obtain ⟨i0, i1, i2, hq6⟩ := labsAt_head hq5; go_simp; try with_reducible rfl))
  try simp only [Act.put, List.setIfInBounds_toArray, List.set_cons_zero, List.set_cons_succ]
  refine wpAnyH_take (i := 13) (oi := { dst := some 52, op := Go.Op.load 24 (Go.Operand.tmp 3), type := 24, pos := "law.go:27", after := #[{ on := 8, ground := Go.Ground.guard }], guard := some (8, true) }) (v := ?_) rfl (by kernel_rfl) (by kernel_rfl) (by kernel_rfl) (fun _ _ _ h => h) (Or.inl ⟨by rfl, ?_⟩) hS2 ?_; rotate_left; (· (intro wq hSw; obtain ⟨a0, a1, a2, hq1⟩ := labsAt_head hSw; obtain ⟨b0, b1, b2, hq2⟩ := labsAt_head hq1; obtain ⟨c0, c1, c2, hq3⟩ := labsAt_head hq2; obtain ⟨d0, d1, d2, hq4⟩ := labsAt_head hq3; obtain ⟨g0, g1, g2, hq5⟩ := labsAt_head hq4; obtain ⟨i0, i1, i2, hq6⟩ := labsAt_head hq5; go_simp; try with_reducible rfl))
  try simp only [Act.put, List.setIfInBounds_toArray, List.set_cons_zero, List.set_cons_succ]
  refine wpAnyH_ready (rs := [11]) (by kernel_rfl) (by simp) ?_
  refine AllReadyH.cons (o := { dst := some 50, op := Go.Op.call { callee := Go.Callee.value (Go.Operand.func 18), args := #[Go.Operand.tmp 48, Go.Operand.tmp 49], argTypes := #[24, 24] }, type := 4, pos := "law.go:27", after := #[{ on := 9, ground := Go.Ground.data }, { on := 10, ground := Go.Ground.data }, { on := 8, ground := Go.Ground.chain }, { on := 8, ground := Go.Ground.guard }], guard := some (8, true) }) rfl (fun K hK => ?_) AllReadyH.nil
  go_simp
  refine (Under_any a b hfa hfb _).mono ?_
  rintro e w8 ⟨he, hb⟩
  subst he
  refine hK.out _ _ (LabsAt.later hS2 hb) (fun hS3 => ?_)
  clear hK K hS2 hb
  try simp only [Act.put, List.setIfInBounds_toArray, List.set_cons_zero, List.set_cons_succ]
  refine wpAnyH_ready (rs := [14]) (by kernel_rfl) (by simp) ?_
  refine AllReadyH.cons (o := { dst := some 53, op := Go.Op.call { callee := Go.Callee.value (Go.Operand.func 19), args := #[Go.Operand.tmp 51, Go.Operand.tmp 52], argTypes := #[24, 24] }, type := 4, pos := "law.go:27", after := #[{ on := 12, ground := Go.Ground.data }, { on := 13, ground := Go.Ground.data }, { on := 11, ground := Go.Ground.chain }, { on := 8, ground := Go.Ground.guard }], guard := some (8, true) }) rfl (fun K hK => ?_) AllReadyH.nil
  go_simp
  refine (refUnder_any a b hfa hfb _ hS3.err).mono ?_
  rintro e w9 ⟨he, hb⟩
  subst he
  refine hK.out _ _ (LabsAt.later hS3 hb) (fun hS4 => ?_)
  clear hK K hS3 hb
  try simp only [Act.put, List.setIfInBounds_toArray, List.set_cons_zero, List.set_cons_succ]
  refine wpAnyH_take (i := 15) (oi := { dst := some 54, op := Go.Op.binOp Go.BinOp.eql 4 (Go.Operand.tmp 50) (Go.Operand.tmp 53) 4, type := 4, pos := "law.go:27", after := #[{ on := 11, ground := Go.Ground.data }, { on := 14, ground := Go.Ground.data }, { on := 8, ground := Go.Ground.guard }], guard := some (8, true) }) (v := ?_) rfl (by kernel_rfl) (by kernel_rfl) (by kernel_rfl) (fun _ _ _ h => h) (Or.inl ⟨by rfl, ?_⟩) hS4 ?_; rotate_left; (· (intro wq hSw; obtain ⟨a0, a1, a2, hq1⟩ := labsAt_head hSw; obtain ⟨b0, b1, b2, hq2⟩ := labsAt_head hq1; obtain ⟨c0, c1, c2, hq3⟩ := labsAt_head hq2; obtain ⟨d0, d1, d2, hq4⟩ := labsAt_head hq3; obtain ⟨g0, g1, g2, hq5⟩ := labsAt_head hq4; obtain ⟨i0, i1, i2, hq6⟩ := labsAt_head hq5; go_simp; try with_reducible rfl))
  try simp only [Act.put, List.setIfInBounds_toArray, List.set_cons_zero, List.set_cons_succ]
  refine wpAnyH_take (i := 16) (oi := { dst := some 55, op := Go.Op.pick (Go.Operand.tmp 47) (Go.Operand.tmp 54) (Go.Operand.const (Go.Value.bool false)), type := 4, pos := "law.go:27", after := #[{ on := 8, ground := Go.Ground.data }, { on := 15, ground := Go.Ground.data }], guard := none }) (v := ?_) rfl (by kernel_rfl) (by kernel_rfl) (by kernel_rfl) (fun _ _ _ h => h) (Or.inl ⟨by rfl, ?_⟩) hS4 ?_; rotate_left; (· (intro wq hSw; obtain ⟨a0, a1, a2, hq1⟩ := labsAt_head hSw; obtain ⟨b0, b1, b2, hq2⟩ := labsAt_head hq1; obtain ⟨c0, c1, c2, hq3⟩ := labsAt_head hq2; obtain ⟨d0, d1, d2, hq4⟩ := labsAt_head hq3; obtain ⟨g0, g1, g2, hq5⟩ := labsAt_head hq4; obtain ⟨i0, i1, i2, hq6⟩ := labsAt_head hq5; go_simp; try with_reducible rfl))
  try simp only [Act.put, List.setIfInBounds_toArray, List.set_cons_zero, List.set_cons_succ]
  refine wpAnyH_take (i := 17) (oi := { dst := some 56, op := Go.Op.move (Go.Operand.tmp 55), type := 4, pos := "law.go:27", after := #[{ on := 16, ground := Go.Ground.data }, { on := 14, ground := Go.Ground.chain }], guard := none }) (v := ?_) rfl (by kernel_rfl) (by kernel_rfl) (by kernel_rfl) (fun _ _ _ h => h) (Or.inl ⟨by rfl, ?_⟩) hS4 ?_; rotate_left; (· (intro wq hSw; obtain ⟨a0, a1, a2, hq1⟩ := labsAt_head hSw; obtain ⟨b0, b1, b2, hq2⟩ := labsAt_head hq1; obtain ⟨c0, c1, c2, hq3⟩ := labsAt_head hq2; obtain ⟨d0, d1, d2, hq4⟩ := labsAt_head hq3; obtain ⟨g0, g1, g2, hq5⟩ := labsAt_head hq4; obtain ⟨i0, i1, i2, hq6⟩ := labsAt_head hq5; go_simp; try with_reducible rfl))
  try simp only [Act.put, List.setIfInBounds_toArray, List.set_cons_zero, List.set_cons_succ]
  refine wpAnyH_take (i := 18) (oi := { dst := some 57, op := Go.Op.load 24 (Go.Operand.tmp 6), type := 24, pos := "law.go:27", after := #[{ on := 17, ground := Go.Ground.guard }], guard := some (17, true) }) (v := ?_) rfl (by kernel_rfl) (by kernel_rfl) (by kernel_rfl) (fun _ _ _ h => h) (Or.inl ⟨by rfl, ?_⟩) hS4 ?_; rotate_left; (· (intro wq hSw; obtain ⟨a0, a1, a2, hq1⟩ := labsAt_head hSw; obtain ⟨b0, b1, b2, hq2⟩ := labsAt_head hq1; obtain ⟨c0, c1, c2, hq3⟩ := labsAt_head hq2; obtain ⟨d0, d1, d2, hq4⟩ := labsAt_head hq3; obtain ⟨g0, g1, g2, hq5⟩ := labsAt_head hq4; obtain ⟨i0, i1, i2, hq6⟩ := labsAt_head hq5; go_simp; try with_reducible rfl))
  try simp only [Act.put, List.setIfInBounds_toArray, List.set_cons_zero, List.set_cons_succ]
  refine wpAnyH_take (i := 19) (oi := { dst := some 58, op := Go.Op.load 24 (Go.Operand.tmp 8), type := 24, pos := "law.go:27", after := #[{ on := 17, ground := Go.Ground.guard }], guard := some (17, true) }) (v := ?_) rfl (by kernel_rfl) (by kernel_rfl) (by kernel_rfl) (fun _ _ _ h => h) (Or.inl ⟨by rfl, ?_⟩) hS4 ?_; rotate_left; (· (intro wq hSw; obtain ⟨a0, a1, a2, hq1⟩ := labsAt_head hSw; obtain ⟨b0, b1, b2, hq2⟩ := labsAt_head hq1; obtain ⟨c0, c1, c2, hq3⟩ := labsAt_head hq2; obtain ⟨d0, d1, d2, hq4⟩ := labsAt_head hq3; obtain ⟨g0, g1, g2, hq5⟩ := labsAt_head hq4; obtain ⟨i0, i1, i2, hq6⟩ := labsAt_head hq5; go_simp; try with_reducible rfl))
  try simp only [Act.put, List.setIfInBounds_toArray, List.set_cons_zero, List.set_cons_succ]
  refine wpAnyH_take (i := 20) (oi := { dst := some 59, op := Go.Op.binOp Go.BinOp.eql 24 (Go.Operand.tmp 57) (Go.Operand.tmp 58) 24, type := 4, pos := "law.go:27", after := #[{ on := 18, ground := Go.Ground.data }, { on := 19, ground := Go.Ground.data }, { on := 17, ground := Go.Ground.guard }], guard := some (17, true) }) (v := ?_) rfl (by kernel_rfl) (by kernel_rfl) (by kernel_rfl) (fun _ _ _ h => h) (Or.inl ⟨by rfl, ?_⟩) hS4 ?_; rotate_left; (· (intro wq hSw; obtain ⟨a0, a1, a2, hq1⟩ := labsAt_head hSw; obtain ⟨b0, b1, b2, hq2⟩ := labsAt_head hq1; obtain ⟨c0, c1, c2, hq3⟩ := labsAt_head hq2; obtain ⟨d0, d1, d2, hq4⟩ := labsAt_head hq3; obtain ⟨g0, g1, g2, hq5⟩ := labsAt_head hq4; obtain ⟨i0, i1, i2, hq6⟩ := labsAt_head hq5; go_simp; try with_reducible rfl))
  try simp only [Act.put, List.setIfInBounds_toArray, List.set_cons_zero, List.set_cons_succ]
  refine wpAnyH_take (i := 21) (oi := { dst := some 60, op := Go.Op.pick (Go.Operand.tmp 56) (Go.Operand.tmp 59) (Go.Operand.const (Go.Value.bool false)), type := 4, pos := "law.go:27", after := #[{ on := 17, ground := Go.Ground.data }, { on := 20, ground := Go.Ground.data }], guard := none }) (v := ?_) rfl (by kernel_rfl) (by kernel_rfl) (by kernel_rfl) (fun _ _ _ h => h) (Or.inl ⟨by rfl, ?_⟩) hS4 ?_; rotate_left; (· (intro wq hSw; obtain ⟨a0, a1, a2, hq1⟩ := labsAt_head hSw; obtain ⟨b0, b1, b2, hq2⟩ := labsAt_head hq1; obtain ⟨c0, c1, c2, hq3⟩ := labsAt_head hq2; obtain ⟨d0, d1, d2, hq4⟩ := labsAt_head hq3; obtain ⟨g0, g1, g2, hq5⟩ := labsAt_head hq4; obtain ⟨i0, i1, i2, hq6⟩ := labsAt_head hq5; go_simp; try with_reducible rfl))
  try simp only [Act.put, List.setIfInBounds_toArray, List.set_cons_zero, List.set_cons_succ]
  refine wpAnyH_take (i := 22) (oi := { dst := some 61, op := Go.Op.move (Go.Operand.tmp 60), type := 4, pos := "law.go:27", after := #[{ on := 21, ground := Go.Ground.data }, { on := 17, ground := Go.Ground.chain }], guard := none }) (v := ?_) rfl (by kernel_rfl) (by kernel_rfl) (by kernel_rfl) (fun _ _ _ h => h) (Or.inl ⟨by rfl, ?_⟩) hS4 ?_; rotate_left; (· (intro wq hSw; obtain ⟨a0, a1, a2, hq1⟩ := labsAt_head hSw; obtain ⟨b0, b1, b2, hq2⟩ := labsAt_head hq1; obtain ⟨c0, c1, c2, hq3⟩ := labsAt_head hq2; obtain ⟨d0, d1, d2, hq4⟩ := labsAt_head hq3; obtain ⟨g0, g1, g2, hq5⟩ := labsAt_head hq4; obtain ⟨i0, i1, i2, hq6⟩ := labsAt_head hq5; go_simp; try with_reducible rfl))
  try simp only [Act.put, List.setIfInBounds_toArray, List.set_cons_zero, List.set_cons_succ]
  refine wpAnyH_take (i := 23) (oi := { dst := some 62, op := Go.Op.move (Go.Operand.tmp 7), type := 26, pos := "law.go:27", after := #[{ on := 22, ground := Go.Ground.guard }], guard := some (22, true) }) (v := ?_) rfl (by kernel_rfl) (by kernel_rfl) (by kernel_rfl) (fun _ _ _ h => h) (Or.inl ⟨by rfl, ?_⟩) hS4 ?_; rotate_left; (· (intro wq hSw; obtain ⟨a0, a1, a2, hq1⟩ := labsAt_head hSw; obtain ⟨b0, b1, b2, hq2⟩ := labsAt_head hq1; obtain ⟨c0, c1, c2, hq3⟩ := labsAt_head hq2; obtain ⟨d0, d1, d2, hq4⟩ := labsAt_head hq3; obtain ⟨g0, g1, g2, hq5⟩ := labsAt_head hq4; obtain ⟨i0, i1, i2, hq6⟩ := labsAt_head hq5; go_simp; try with_reducible rfl))
  try simp only [Act.put, List.setIfInBounds_toArray, List.set_cons_zero, List.set_cons_succ]
  refine wpAnyH_take (i := 24) (oi := { dst := some 63, op := Go.Op.move (Go.Operand.tmp 9), type := 26, pos := "law.go:27", after := #[{ on := 22, ground := Go.Ground.guard }], guard := some (22, true) }) (v := ?_) rfl (by kernel_rfl) (by kernel_rfl) (by kernel_rfl) (fun _ _ _ h => h) (Or.inl ⟨by rfl, ?_⟩) hS4 ?_; rotate_left; (· (intro wq hSw; obtain ⟨a0, a1, a2, hq1⟩ := labsAt_head hSw; obtain ⟨b0, b1, b2, hq2⟩ := labsAt_head hq1; obtain ⟨c0, c1, c2, hq3⟩ := labsAt_head hq2; obtain ⟨d0, d1, d2, hq4⟩ := labsAt_head hq3; obtain ⟨g0, g1, g2, hq5⟩ := labsAt_head hq4; obtain ⟨i0, i1, i2, hq6⟩ := labsAt_head hq5; go_simp; try with_reducible rfl))
  try simp only [Act.put, List.setIfInBounds_toArray, List.set_cons_zero, List.set_cons_succ]
  refine wpAnyH_take (i := 25) (oi := { dst := some 64, op := Go.Op.binOp Go.BinOp.eql 26 (Go.Operand.tmp 62) (Go.Operand.tmp 63) 26, type := 4, pos := "law.go:27", after := #[{ on := 23, ground := Go.Ground.data }, { on := 24, ground := Go.Ground.data }, { on := 22, ground := Go.Ground.guard }], guard := some (22, true) }) (v := ?_) rfl (by kernel_rfl) (by kernel_rfl) (by kernel_rfl) (fun _ _ _ h => h) (Or.inl ⟨by rfl, ?_⟩) hS4 ?_; rotate_left; (· (intro wq hSw; obtain ⟨a0, a1, a2, hq1⟩ := labsAt_head hSw; obtain ⟨b0, b1, b2, hq2⟩ := labsAt_head hq1; obtain ⟨c0, c1, c2, hq3⟩ := labsAt_head hq2; obtain ⟨d0, d1, d2, hq4⟩ := labsAt_head hq3; obtain ⟨g0, g1, g2, hq5⟩ := labsAt_head hq4; obtain ⟨i0, i1, i2, hq6⟩ := labsAt_head hq5; go_simp; try with_reducible rfl))
  try simp only [Act.put, List.setIfInBounds_toArray, List.set_cons_zero, List.set_cons_succ]
  refine wpAnyH_take (i := 26) (oi := { dst := some 65, op := Go.Op.pick (Go.Operand.tmp 61) (Go.Operand.tmp 64) (Go.Operand.const (Go.Value.bool false)), type := 4, pos := "law.go:27", after := #[{ on := 22, ground := Go.Ground.data }, { on := 25, ground := Go.Ground.data }], guard := none }) (v := ?_) rfl (by kernel_rfl) (by kernel_rfl) (by kernel_rfl) (fun _ _ _ h => h) (Or.inl ⟨by rfl, ?_⟩) hS4 ?_; rotate_left; (· (intro wq hSw; obtain ⟨a0, a1, a2, hq1⟩ := labsAt_head hSw; obtain ⟨b0, b1, b2, hq2⟩ := labsAt_head hq1; obtain ⟨c0, c1, c2, hq3⟩ := labsAt_head hq2; obtain ⟨d0, d1, d2, hq4⟩ := labsAt_head hq3; obtain ⟨g0, g1, g2, hq5⟩ := labsAt_head hq4; obtain ⟨i0, i1, i2, hq6⟩ := labsAt_head hq5; go_simp; try with_reducible rfl))
  try simp only [Act.put, List.setIfInBounds_toArray, List.set_cons_zero, List.set_cons_succ]
  refine wpAnyH_take (i := 27) (oi := { dst := some 66, op := Go.Op.move (Go.Operand.tmp 65), type := 4, pos := "law.go:27", after := #[{ on := 26, ground := Go.Ground.data }, { on := 22, ground := Go.Ground.chain }], guard := none }) (v := ?_) rfl (by kernel_rfl) (by kernel_rfl) (by kernel_rfl) (fun _ _ _ h => h) (Or.inl ⟨by rfl, ?_⟩) hS4 ?_; rotate_left; (· (intro wq hSw; obtain ⟨a0, a1, a2, hq1⟩ := labsAt_head hSw; obtain ⟨b0, b1, b2, hq2⟩ := labsAt_head hq1; obtain ⟨c0, c1, c2, hq3⟩ := labsAt_head hq2; obtain ⟨d0, d1, d2, hq4⟩ := labsAt_head hq3; obtain ⟨g0, g1, g2, hq5⟩ := labsAt_head hq4; obtain ⟨i0, i1, i2, hq6⟩ := labsAt_head hq5; go_simp; try with_reducible rfl))
  try simp only [Act.put, List.setIfInBounds_toArray, List.set_cons_zero, List.set_cons_succ]
  refine wpAnyH_take (i := 28) (oi := { dst := some 67, op := Go.Op.load 24 (Go.Operand.tmp 10), type := 24, pos := "law.go:27", after := #[{ on := 27, ground := Go.Ground.guard }], guard := some (27, true) }) (v := ?_) rfl (by kernel_rfl) (by kernel_rfl) (by kernel_rfl) (fun _ _ _ h => h) (Or.inl ⟨by rfl, ?_⟩) hS4 ?_; rotate_left; (· (intro wq hSw; obtain ⟨a0, a1, a2, hq1⟩ := labsAt_head hSw; obtain ⟨b0, b1, b2, hq2⟩ := labsAt_head hq1; obtain ⟨c0, c1, c2, hq3⟩ := labsAt_head hq2; obtain ⟨d0, d1, d2, hq4⟩ := labsAt_head hq3; obtain ⟨g0, g1, g2, hq5⟩ := labsAt_head hq4; obtain ⟨i0, i1, i2, hq6⟩ := labsAt_head hq5; go_simp; try with_reducible rfl))
  try simp only [Act.put, List.setIfInBounds_toArray, List.set_cons_zero, List.set_cons_succ]
  refine wpAnyH_take (i := 29) (oi := { dst := some 68, op := Go.Op.load 24 (Go.Operand.tmp 12), type := 24, pos := "law.go:27", after := #[{ on := 27, ground := Go.Ground.guard }], guard := some (27, true) }) (v := ?_) rfl (by kernel_rfl) (by kernel_rfl) (by kernel_rfl) (fun _ _ _ h => h) (Or.inl ⟨by rfl, ?_⟩) hS4 ?_; rotate_left; (· (intro wq hSw; obtain ⟨a0, a1, a2, hq1⟩ := labsAt_head hSw; obtain ⟨b0, b1, b2, hq2⟩ := labsAt_head hq1; obtain ⟨c0, c1, c2, hq3⟩ := labsAt_head hq2; obtain ⟨d0, d1, d2, hq4⟩ := labsAt_head hq3; obtain ⟨g0, g1, g2, hq5⟩ := labsAt_head hq4; obtain ⟨i0, i1, i2, hq6⟩ := labsAt_head hq5; go_simp; try with_reducible rfl))
  try simp only [Act.put, List.setIfInBounds_toArray, List.set_cons_zero, List.set_cons_succ]
  refine wpAnyH_take (i := 30) (oi := { dst := some 69, op := Go.Op.binOp Go.BinOp.eql 24 (Go.Operand.tmp 67) (Go.Operand.tmp 68) 24, type := 4, pos := "law.go:27", after := #[{ on := 28, ground := Go.Ground.data }, { on := 29, ground := Go.Ground.data }, { on := 27, ground := Go.Ground.guard }], guard := some (27, true) }) (v := ?_) rfl (by kernel_rfl) (by kernel_rfl) (by kernel_rfl) (fun _ _ _ h => h) (Or.inl ⟨by rfl, ?_⟩) hS4 ?_; rotate_left; (· (intro wq hSw; obtain ⟨a0, a1, a2, hq1⟩ := labsAt_head hSw; obtain ⟨b0, b1, b2, hq2⟩ := labsAt_head hq1; obtain ⟨c0, c1, c2, hq3⟩ := labsAt_head hq2; obtain ⟨d0, d1, d2, hq4⟩ := labsAt_head hq3; obtain ⟨g0, g1, g2, hq5⟩ := labsAt_head hq4; obtain ⟨i0, i1, i2, hq6⟩ := labsAt_head hq5; go_simp; try with_reducible rfl))
  try simp only [Act.put, List.setIfInBounds_toArray, List.set_cons_zero, List.set_cons_succ]
  refine wpAnyH_take (i := 31) (oi := { dst := some 70, op := Go.Op.pick (Go.Operand.tmp 66) (Go.Operand.tmp 69) (Go.Operand.const (Go.Value.bool false)), type := 4, pos := "law.go:27", after := #[{ on := 27, ground := Go.Ground.data }, { on := 30, ground := Go.Ground.data }], guard := none }) (v := ?_) rfl (by kernel_rfl) (by kernel_rfl) (by kernel_rfl) (fun _ _ _ h => h) (Or.inl ⟨by rfl, ?_⟩) hS4 ?_; rotate_left; (· (intro wq hSw; obtain ⟨a0, a1, a2, hq1⟩ := labsAt_head hSw; obtain ⟨b0, b1, b2, hq2⟩ := labsAt_head hq1; obtain ⟨c0, c1, c2, hq3⟩ := labsAt_head hq2; obtain ⟨d0, d1, d2, hq4⟩ := labsAt_head hq3; obtain ⟨g0, g1, g2, hq5⟩ := labsAt_head hq4; obtain ⟨i0, i1, i2, hq6⟩ := labsAt_head hq5; go_simp; try with_reducible rfl))
  try simp only [Act.put, List.setIfInBounds_toArray, List.set_cons_zero, List.set_cons_succ]
  refine wpAnyH_take (i := 32) (oi := { dst := some 71, op := Go.Op.move (Go.Operand.tmp 70), type := 4, pos := "law.go:27", after := #[{ on := 31, ground := Go.Ground.data }, { on := 27, ground := Go.Ground.chain }], guard := none }) (v := ?_) rfl (by kernel_rfl) (by kernel_rfl) (by kernel_rfl) (fun _ _ _ h => h) (Or.inl ⟨by rfl, ?_⟩) hS4 ?_; rotate_left; (· (intro wq hSw; obtain ⟨a0, a1, a2, hq1⟩ := labsAt_head hSw; obtain ⟨b0, b1, b2, hq2⟩ := labsAt_head hq1; obtain ⟨c0, c1, c2, hq3⟩ := labsAt_head hq2; obtain ⟨d0, d1, d2, hq4⟩ := labsAt_head hq3; obtain ⟨g0, g1, g2, hq5⟩ := labsAt_head hq4; obtain ⟨i0, i1, i2, hq6⟩ := labsAt_head hq5; go_simp; try with_reducible rfl))
  try simp only [Act.put, List.setIfInBounds_toArray, List.set_cons_zero, List.set_cons_succ]
  refine wpAnyH_take (i := 33) (oi := { dst := some 72, op := Go.Op.move (Go.Operand.tmp 11), type := 26, pos := "law.go:27", after := #[{ on := 32, ground := Go.Ground.guard }], guard := some (32, true) }) (v := ?_) rfl (by kernel_rfl) (by kernel_rfl) (by kernel_rfl) (fun _ _ _ h => h) (Or.inl ⟨by rfl, ?_⟩) hS4 ?_; rotate_left; (· (intro wq hSw; obtain ⟨a0, a1, a2, hq1⟩ := labsAt_head hSw; obtain ⟨b0, b1, b2, hq2⟩ := labsAt_head hq1; obtain ⟨c0, c1, c2, hq3⟩ := labsAt_head hq2; obtain ⟨d0, d1, d2, hq4⟩ := labsAt_head hq3; obtain ⟨g0, g1, g2, hq5⟩ := labsAt_head hq4; obtain ⟨i0, i1, i2, hq6⟩ := labsAt_head hq5; go_simp; try with_reducible rfl))
  try simp only [Act.put, List.setIfInBounds_toArray, List.set_cons_zero, List.set_cons_succ]
  refine wpAnyH_take (i := 34) (oi := { dst := some 73, op := Go.Op.move (Go.Operand.tmp 13), type := 26, pos := "law.go:27", after := #[{ on := 32, ground := Go.Ground.guard }], guard := some (32, true) }) (v := ?_) rfl (by kernel_rfl) (by kernel_rfl) (by kernel_rfl) (fun _ _ _ h => h) (Or.inl ⟨by rfl, ?_⟩) hS4 ?_; rotate_left; (· (intro wq hSw; obtain ⟨a0, a1, a2, hq1⟩ := labsAt_head hSw; obtain ⟨b0, b1, b2, hq2⟩ := labsAt_head hq1; obtain ⟨c0, c1, c2, hq3⟩ := labsAt_head hq2; obtain ⟨d0, d1, d2, hq4⟩ := labsAt_head hq3; obtain ⟨g0, g1, g2, hq5⟩ := labsAt_head hq4; obtain ⟨i0, i1, i2, hq6⟩ := labsAt_head hq5; go_simp; try with_reducible rfl))
  try simp only [Act.put, List.setIfInBounds_toArray, List.set_cons_zero, List.set_cons_succ]
  refine wpAnyH_take (i := 35) (oi := { dst := some 74, op := Go.Op.binOp Go.BinOp.eql 26 (Go.Operand.tmp 72) (Go.Operand.tmp 73) 26, type := 4, pos := "law.go:27", after := #[{ on := 33, ground := Go.Ground.data }, { on := 34, ground := Go.Ground.data }, { on := 32, ground := Go.Ground.guard }], guard := some (32, true) }) (v := ?_) rfl (by kernel_rfl) (by kernel_rfl) (by kernel_rfl) (fun _ _ _ h => h) (Or.inl ⟨by rfl, ?_⟩) hS4 ?_; rotate_left; (· (intro wq hSw; obtain ⟨a0, a1, a2, hq1⟩ := labsAt_head hSw; obtain ⟨b0, b1, b2, hq2⟩ := labsAt_head hq1; obtain ⟨c0, c1, c2, hq3⟩ := labsAt_head hq2; obtain ⟨d0, d1, d2, hq4⟩ := labsAt_head hq3; obtain ⟨g0, g1, g2, hq5⟩ := labsAt_head hq4; obtain ⟨i0, i1, i2, hq6⟩ := labsAt_head hq5; go_simp; try with_reducible rfl))
  try simp only [Act.put, List.setIfInBounds_toArray, List.set_cons_zero, List.set_cons_succ]
  refine wpAnyH_take (i := 36) (oi := { dst := some 75, op := Go.Op.pick (Go.Operand.tmp 71) (Go.Operand.tmp 74) (Go.Operand.const (Go.Value.bool false)), type := 4, pos := "law.go:27", after := #[{ on := 32, ground := Go.Ground.data }, { on := 35, ground := Go.Ground.data }], guard := none }) (v := ?_) rfl (by kernel_rfl) (by kernel_rfl) (by kernel_rfl) (fun _ _ _ h => h) (Or.inl ⟨by rfl, ?_⟩) hS4 ?_; rotate_left; (· (intro wq hSw; obtain ⟨a0, a1, a2, hq1⟩ := labsAt_head hSw; obtain ⟨b0, b1, b2, hq2⟩ := labsAt_head hq1; obtain ⟨c0, c1, c2, hq3⟩ := labsAt_head hq2; obtain ⟨d0, d1, d2, hq4⟩ := labsAt_head hq3; obtain ⟨g0, g1, g2, hq5⟩ := labsAt_head hq4; obtain ⟨i0, i1, i2, hq6⟩ := labsAt_head hq5; go_simp; try with_reducible rfl))
  try simp only [Act.put, List.setIfInBounds_toArray, List.set_cons_zero, List.set_cons_succ]
  refine wpAnyH_take (i := 37) (oi := { dst := some 76, op := Go.Op.move (Go.Operand.tmp 75), type := 4, pos := "law.go:27", after := #[{ on := 36, ground := Go.Ground.data }, { on := 32, ground := Go.Ground.chain }], guard := none }) (v := ?_) rfl (by kernel_rfl) (by kernel_rfl) (by kernel_rfl) (fun _ _ _ h => h) (Or.inl ⟨by rfl, ?_⟩) hS4 ?_; rotate_left; (· (intro wq hSw; obtain ⟨a0, a1, a2, hq1⟩ := labsAt_head hSw; obtain ⟨b0, b1, b2, hq2⟩ := labsAt_head hq1; obtain ⟨c0, c1, c2, hq3⟩ := labsAt_head hq2; obtain ⟨d0, d1, d2, hq4⟩ := labsAt_head hq3; obtain ⟨g0, g1, g2, hq5⟩ := labsAt_head hq4; obtain ⟨i0, i1, i2, hq6⟩ := labsAt_head hq5; go_simp; try with_reducible rfl))
  try simp only [Act.put, List.setIfInBounds_toArray, List.set_cons_zero, List.set_cons_succ]
  refine wpAnyH_take (i := 38) (oi := { dst := some 77, op := Go.Op.load 24 (Go.Operand.tmp 2), type := 24, pos := "law.go:27", after := #[{ on := 37, ground := Go.Ground.guard }], guard := some (37, true) }) (v := ?_) rfl (by kernel_rfl) (by kernel_rfl) (by kernel_rfl) (fun _ _ _ h => h) (Or.inl ⟨by rfl, ?_⟩) hS4 ?_; rotate_left; (· (intro wq hSw; obtain ⟨a0, a1, a2, hq1⟩ := labsAt_head hSw; obtain ⟨b0, b1, b2, hq2⟩ := labsAt_head hq1; obtain ⟨c0, c1, c2, hq3⟩ := labsAt_head hq2; obtain ⟨d0, d1, d2, hq4⟩ := labsAt_head hq3; obtain ⟨g0, g1, g2, hq5⟩ := labsAt_head hq4; obtain ⟨i0, i1, i2, hq6⟩ := labsAt_head hq5; go_simp; try with_reducible rfl))
  try simp only [Act.put, List.setIfInBounds_toArray, List.set_cons_zero, List.set_cons_succ]
  refine wpAnyH_take (i := 39) (oi := { dst := some 78, op := Go.Op.load 24 (Go.Operand.tmp 3), type := 24, pos := "law.go:27", after := #[{ on := 37, ground := Go.Ground.guard }], guard := some (37, true) }) (v := ?_) rfl (by kernel_rfl) (by kernel_rfl) (by kernel_rfl) (fun _ _ _ h => h) (Or.inl ⟨by rfl, ?_⟩) hS4 ?_; rotate_left; (· (intro wq hSw; obtain ⟨a0, a1, a2, hq1⟩ := labsAt_head hSw; obtain ⟨b0, b1, b2, hq2⟩ := labsAt_head hq1; obtain ⟨c0, c1, c2, hq3⟩ := labsAt_head hq2; obtain ⟨d0, d1, d2, hq4⟩ := labsAt_head hq3; obtain ⟨g0, g1, g2, hq5⟩ := labsAt_head hq4; obtain ⟨i0, i1, i2, hq6⟩ := labsAt_head hq5; go_simp; try with_reducible rfl))
  try simp only [Act.put, List.setIfInBounds_toArray, List.set_cons_zero, List.set_cons_succ]
  refine wpAnyH_take (i := 41) (oi := { dst := some 80, op := Go.Op.load 24 (Go.Operand.tmp 2), type := 24, pos := "law.go:27", after := #[{ on := 37, ground := Go.Ground.guard }], guard := some (37, true) }) (v := ?_) rfl (by kernel_rfl) (by kernel_rfl) (by kernel_rfl) (fun _ _ _ h => h) (Or.inl ⟨by rfl, ?_⟩) hS4 ?_; rotate_left; (· (intro wq hSw; obtain ⟨a0, a1, a2, hq1⟩ := labsAt_head hSw; obtain ⟨b0, b1, b2, hq2⟩ := labsAt_head hq1; obtain ⟨c0, c1, c2, hq3⟩ := labsAt_head hq2; obtain ⟨d0, d1, d2, hq4⟩ := labsAt_head hq3; obtain ⟨g0, g1, g2, hq5⟩ := labsAt_head hq4; obtain ⟨i0, i1, i2, hq6⟩ := labsAt_head hq5; go_simp; try with_reducible rfl))
  try simp only [Act.put, List.setIfInBounds_toArray, List.set_cons_zero, List.set_cons_succ]
  refine wpAnyH_take (i := 42) (oi := { dst := some 81, op := Go.Op.load 24 (Go.Operand.tmp 3), type := 24, pos := "law.go:27", after := #[{ on := 37, ground := Go.Ground.guard }], guard := some (37, true) }) (v := ?_) rfl (by kernel_rfl) (by kernel_rfl) (by kernel_rfl) (fun _ _ _ h => h) (Or.inl ⟨by rfl, ?_⟩) hS4 ?_; rotate_left; (· (intro wq hSw; obtain ⟨a0, a1, a2, hq1⟩ := labsAt_head hSw; obtain ⟨b0, b1, b2, hq2⟩ := labsAt_head hq1; obtain ⟨c0, c1, c2, hq3⟩ := labsAt_head hq2; obtain ⟨d0, d1, d2, hq4⟩ := labsAt_head hq3; obtain ⟨g0, g1, g2, hq5⟩ := labsAt_head hq4; obtain ⟨i0, i1, i2, hq6⟩ := labsAt_head hq5; go_simp; try with_reducible rfl))
  try simp only [Act.put, List.setIfInBounds_toArray, List.set_cons_zero, List.set_cons_succ]
  refine wpAnyH_ready (rs := [40]) (by kernel_rfl) (by simp) ?_
  refine AllReadyH.cons (o := { dst := some 79, op := Go.Op.call { callee := Go.Callee.value (Go.Operand.func 20), args := #[Go.Operand.tmp 77, Go.Operand.tmp 78], argTypes := #[24, 24] }, type := 3, pos := "law.go:27", after := #[{ on := 38, ground := Go.Ground.data }, { on := 39, ground := Go.Ground.data }, { on := 37, ground := Go.Ground.chain }, { on := 37, ground := Go.Ground.guard }], guard := some (37, true) }) rfl (fun K hK => ?_) AllReadyH.nil
  go_simp
  refine (compare_any a b _).mono ?_
  rintro e w10 ⟨he, hb⟩
  subst he
  refine hK.out _ _ (LabsAt.later hS4 hb) (fun hS5 => ?_)
  clear hK K hS4 hb
  try simp only [Act.put, List.setIfInBounds_toArray, List.set_cons_zero, List.set_cons_succ]
  refine wpAnyH_ready (rs := [43]) (by kernel_rfl) (by simp) ?_
  refine AllReadyH.cons (o := { dst := some 82, op := Go.Op.call { callee := Go.Callee.value (Go.Operand.func 21), args := #[Go.Operand.tmp 80, Go.Operand.tmp 81], argTypes := #[24, 24] }, type := 3, pos := "law.go:27", after := #[{ on := 41, ground := Go.Ground.data }, { on := 42, ground := Go.Ground.data }, { on := 40, ground := Go.Ground.chain }, { on := 37, ground := Go.Ground.guard }], guard := some (37, true) }) rfl (fun K hK => ?_) AllReadyH.nil
  go_simp
  refine (refCompare_any a b _).mono ?_
  rintro e w11 ⟨he, hb⟩
  subst he
  refine hK.out _ _ (LabsAt.later hS5 hb) (fun hS6 => ?_)
  clear hK K hS5 hb
  try simp only [Act.put, List.setIfInBounds_toArray, List.set_cons_zero, List.set_cons_succ]
  refine wpAnyH_take (i := 44) (oi := { dst := some 83, op := Go.Op.binOp Go.BinOp.eql 3 (Go.Operand.tmp 79) (Go.Operand.tmp 82) 3, type := 4, pos := "law.go:27", after := #[{ on := 40, ground := Go.Ground.data }, { on := 43, ground := Go.Ground.data }, { on := 37, ground := Go.Ground.guard }], guard := some (37, true) }) (v := ?_) rfl (by kernel_rfl) (by kernel_rfl) (by kernel_rfl) (fun _ _ _ h => h) (Or.inl ⟨by rfl, ?_⟩) hS6 ?_; rotate_left; (· (intro wq hSw; obtain ⟨a0, a1, a2, hq1⟩ := labsAt_head hSw; obtain ⟨b0, b1, b2, hq2⟩ := labsAt_head hq1; obtain ⟨c0, c1, c2, hq3⟩ := labsAt_head hq2; obtain ⟨d0, d1, d2, hq4⟩ := labsAt_head hq3; obtain ⟨g0, g1, g2, hq5⟩ := labsAt_head hq4; obtain ⟨i0, i1, i2, hq6⟩ := labsAt_head hq5; go_simp; try with_reducible rfl))
  try simp only [Act.put, List.setIfInBounds_toArray, List.set_cons_zero, List.set_cons_succ]
  refine wpAnyH_take (i := 45) (oi := { dst := some 84, op := Go.Op.pick (Go.Operand.tmp 76) (Go.Operand.tmp 83) (Go.Operand.const (Go.Value.bool false)), type := 4, pos := "law.go:27", after := #[{ on := 37, ground := Go.Ground.data }, { on := 44, ground := Go.Ground.data }], guard := none }) (v := ?_) rfl (by kernel_rfl) (by kernel_rfl) (by kernel_rfl) (fun _ _ _ h => h) (Or.inl ⟨by rfl, ?_⟩) hS6 ?_; rotate_left; (· (intro wq hSw; obtain ⟨a0, a1, a2, hq1⟩ := labsAt_head hSw; obtain ⟨b0, b1, b2, hq2⟩ := labsAt_head hq1; obtain ⟨c0, c1, c2, hq3⟩ := labsAt_head hq2; obtain ⟨d0, d1, d2, hq4⟩ := labsAt_head hq3; obtain ⟨g0, g1, g2, hq5⟩ := labsAt_head hq4; obtain ⟨i0, i1, i2, hq6⟩ := labsAt_head hq5; go_simp; try with_reducible rfl))
  try simp only [Act.put, List.setIfInBounds_toArray, List.set_cons_zero, List.set_cons_succ]
  refine wpAnyH_take (i := 46) (oi := { dst := some 85, op := Go.Op.move (Go.Operand.tmp 84), type := 4, pos := "law.go:27", after := #[{ on := 45, ground := Go.Ground.data }, { on := 43, ground := Go.Ground.chain }], guard := none }) (v := ?_) rfl (by kernel_rfl) (by kernel_rfl) (by kernel_rfl) (fun _ _ _ h => h) (Or.inl ⟨by rfl, ?_⟩) hS6 ?_; rotate_left; (· (intro wq hSw; obtain ⟨a0, a1, a2, hq1⟩ := labsAt_head hSw; obtain ⟨b0, b1, b2, hq2⟩ := labsAt_head hq1; obtain ⟨c0, c1, c2, hq3⟩ := labsAt_head hq2; obtain ⟨d0, d1, d2, hq4⟩ := labsAt_head hq3; obtain ⟨g0, g1, g2, hq5⟩ := labsAt_head hq4; obtain ⟨i0, i1, i2, hq6⟩ := labsAt_head hq5; go_simp; try with_reducible rfl))
  try simp only [Act.put, List.setIfInBounds_toArray, List.set_cons_zero, List.set_cons_succ]
  refine wpAnyH_ready (rs := [47]) (by kernel_rfl) (by simp) ?_
  refine AllReadyH.cons (o := { dst := some 86, op := Go.Op.call { callee := Go.Callee.value (Go.Operand.func 22), args := #[], argTypes := #[] }, type := 24, pos := "law.go:27", after := #[{ on := 46, ground := Go.Ground.chain }, { on := 46, ground := Go.Ground.guard }], guard := some (46, true) }) rfl (fun K hK => ?_) AllReadyH.nil
  go_simp
  refine (bottom_any _).mono ?_
  rintro e w12 ⟨he, hb⟩
  subst he
  refine hK.out _ _ (LabsAt.later hS6 hb) (fun hS7 => ?_)
  clear hK K hS6 hb
  try simp only [Act.put, List.setIfInBounds_toArray, List.set_cons_zero, List.set_cons_succ]
  refine wpAnyH_ready (rs := [48]) (by kernel_rfl) (by simp) ?_
  refine AllReadyH.cons (o := { dst := some 87, op := Go.Op.call { callee := Go.Callee.value (Go.Operand.func 23), args := #[], argTypes := #[] }, type := 24, pos := "law.go:27", after := #[{ on := 47, ground := Go.Ground.chain }, { on := 46, ground := Go.Ground.guard }], guard := some (46, true) }) rfl (fun K hK => ?_) AllReadyH.nil
  go_simp
  refine (refBottom_any _).mono ?_
  rintro e w13 ⟨he, hb⟩
  subst he
  refine hK.out _ _ (LabsAt.later hS7 hb) (fun hS8 => ?_)
  clear hK K hS7 hb
  try simp only [Act.put, List.setIfInBounds_toArray, List.set_cons_zero, List.set_cons_succ]
  refine wpAnyH_take (i := 49) (oi := { dst := some 88, op := Go.Op.binOp Go.BinOp.eql 24 (Go.Operand.tmp 86) (Go.Operand.tmp 87) 24, type := 4, pos := "law.go:27", after := #[{ on := 47, ground := Go.Ground.data }, { on := 48, ground := Go.Ground.data }, { on := 46, ground := Go.Ground.guard }], guard := some (46, true) }) (v := ?_) rfl (by kernel_rfl) (by kernel_rfl) (by kernel_rfl) (fun _ _ _ h => h) (Or.inl ⟨by rfl, ?_⟩) hS8 ?_; rotate_left; (· (intro wq hSw; obtain ⟨a0, a1, a2, hq1⟩ := labsAt_head hSw; obtain ⟨b0, b1, b2, hq2⟩ := labsAt_head hq1; obtain ⟨c0, c1, c2, hq3⟩ := labsAt_head hq2; obtain ⟨d0, d1, d2, hq4⟩ := labsAt_head hq3; obtain ⟨g0, g1, g2, hq5⟩ := labsAt_head hq4; obtain ⟨i0, i1, i2, hq6⟩ := labsAt_head hq5; go_simp; try with_reducible rfl))
  try simp only [Act.put, List.setIfInBounds_toArray, List.set_cons_zero, List.set_cons_succ]
  refine wpAnyH_take (i := 50) (oi := { dst := some 89, op := Go.Op.pick (Go.Operand.tmp 85) (Go.Operand.tmp 88) (Go.Operand.const (Go.Value.bool false)), type := 4, pos := "law.go:27", after := #[{ on := 46, ground := Go.Ground.data }, { on := 49, ground := Go.Ground.data }], guard := none }) (v := ?_) rfl (by kernel_rfl) (by kernel_rfl) (by kernel_rfl) (fun _ _ _ h => h) (Or.inl ⟨by rfl, ?_⟩) hS8 ?_; rotate_left; (· (intro wq hSw; obtain ⟨a0, a1, a2, hq1⟩ := labsAt_head hSw; obtain ⟨b0, b1, b2, hq2⟩ := labsAt_head hq1; obtain ⟨c0, c1, c2, hq3⟩ := labsAt_head hq2; obtain ⟨d0, d1, d2, hq4⟩ := labsAt_head hq3; obtain ⟨g0, g1, g2, hq5⟩ := labsAt_head hq4; obtain ⟨i0, i1, i2, hq6⟩ := labsAt_head hq5; go_simp; try with_reducible rfl))
  try simp only [Act.put, List.setIfInBounds_toArray, List.set_cons_zero, List.set_cons_succ]
  refine wpAnyH_take (i := 51) (oi := { dst := some 90, op := Go.Op.move (Go.Operand.tmp 89), type := 4, pos := "law.go:27", after := #[{ on := 50, ground := Go.Ground.data }, { on := 48, ground := Go.Ground.chain }], guard := none }) (v := ?_) rfl (by kernel_rfl) (by kernel_rfl) (by kernel_rfl) (fun _ _ _ h => h) (Or.inl ⟨by rfl, ?_⟩) hS8 ?_; rotate_left; (· (intro wq hSw; obtain ⟨a0, a1, a2, hq1⟩ := labsAt_head hSw; obtain ⟨b0, b1, b2, hq2⟩ := labsAt_head hq1; obtain ⟨c0, c1, c2, hq3⟩ := labsAt_head hq2; obtain ⟨d0, d1, d2, hq4⟩ := labsAt_head hq3; obtain ⟨g0, g1, g2, hq5⟩ := labsAt_head hq4; obtain ⟨i0, i1, i2, hq6⟩ := labsAt_head hq5; go_simp; try with_reducible rfl))
  try simp only [Act.put, List.setIfInBounds_toArray, List.set_cons_zero, List.set_cons_succ]
  refine wpAnyH_ready (rs := [52]) (by kernel_rfl) (by simp) ?_
  refine AllReadyH.cons (o := { dst := some 91, op := Go.Op.call { callee := Go.Callee.value (Go.Operand.func 24), args := #[], argTypes := #[] }, type := 24, pos := "law.go:27", after := #[{ on := 51, ground := Go.Ground.chain }, { on := 51, ground := Go.Ground.guard }], guard := some (51, true) }) rfl (fun K hK => ?_) AllReadyH.nil
  go_simp
  refine (top_any _).mono ?_
  rintro e w14 ⟨he, hb⟩
  subst he
  refine hK.out _ _ (LabsAt.later hS8 hb) (fun hS9 => ?_)
  clear hK K hS8 hb
  try simp only [Act.put, List.setIfInBounds_toArray, List.set_cons_zero, List.set_cons_succ]
  refine wpAnyH_ready (rs := [53]) (by kernel_rfl) (by simp) ?_
  refine AllReadyH.cons (o := { dst := some 92, op := Go.Op.call { callee := Go.Callee.value (Go.Operand.func 25), args := #[], argTypes := #[] }, type := 24, pos := "law.go:27", after := #[{ on := 52, ground := Go.Ground.chain }, { on := 51, ground := Go.Ground.guard }], guard := some (51, true) }) rfl (fun K hK => ?_) AllReadyH.nil
  go_simp
  refine (refTop_any _).mono ?_
  rintro e w15 ⟨he, hb⟩
  subst he
  refine hK.out _ _ (LabsAt.later hS9 hb) (fun hS10 => ?_)
  clear hK K hS9 hb
  try simp only [Act.put, List.setIfInBounds_toArray, List.set_cons_zero, List.set_cons_succ]
  refine wpAnyH_take (i := 54) (oi := { dst := some 93, op := Go.Op.binOp Go.BinOp.eql 24 (Go.Operand.tmp 91) (Go.Operand.tmp 92) 24, type := 4, pos := "law.go:27", after := #[{ on := 52, ground := Go.Ground.data }, { on := 53, ground := Go.Ground.data }, { on := 51, ground := Go.Ground.guard }], guard := some (51, true) }) (v := ?_) rfl (by kernel_rfl) (by kernel_rfl) (by kernel_rfl) (fun _ _ _ h => h) (Or.inl ⟨by rfl, ?_⟩) hS10 ?_; rotate_left; (· (intro wq hSw; obtain ⟨a0, a1, a2, hq1⟩ := labsAt_head hSw; obtain ⟨b0, b1, b2, hq2⟩ := labsAt_head hq1; obtain ⟨c0, c1, c2, hq3⟩ := labsAt_head hq2; obtain ⟨d0, d1, d2, hq4⟩ := labsAt_head hq3; obtain ⟨g0, g1, g2, hq5⟩ := labsAt_head hq4; obtain ⟨i0, i1, i2, hq6⟩ := labsAt_head hq5; go_simp; try with_reducible rfl))
  try simp only [Act.put, List.setIfInBounds_toArray, List.set_cons_zero, List.set_cons_succ]
  refine wpAnyH_take (i := 55) (oi := { dst := some 94, op := Go.Op.pick (Go.Operand.tmp 90) (Go.Operand.tmp 93) (Go.Operand.const (Go.Value.bool false)), type := 4, pos := "law.go:27", after := #[{ on := 51, ground := Go.Ground.data }, { on := 54, ground := Go.Ground.data }], guard := none }) (v := ?_) rfl (by kernel_rfl) (by kernel_rfl) (by kernel_rfl) (fun _ _ _ h => h) (Or.inl ⟨by rfl, ?_⟩) hS10 ?_; rotate_left; (· (intro wq hSw; obtain ⟨a0, a1, a2, hq1⟩ := labsAt_head hSw; obtain ⟨b0, b1, b2, hq2⟩ := labsAt_head hq1; obtain ⟨c0, c1, c2, hq3⟩ := labsAt_head hq2; obtain ⟨d0, d1, d2, hq4⟩ := labsAt_head hq3; obtain ⟨g0, g1, g2, hq5⟩ := labsAt_head hq4; obtain ⟨i0, i1, i2, hq6⟩ := labsAt_head hq5; go_simp; try with_reducible rfl))
  try simp only [Act.put, List.setIfInBounds_toArray, List.set_cons_zero, List.set_cons_succ]
  refine wpAnyH_take (i := 56) (oi := { dst := some 4, op := Go.Op.assign (Go.Operand.tmp 94), type := 4, pos := "law.go:27", after := #[{ on := 55, ground := Go.Ground.data }, { on := 53, ground := Go.Ground.chain }, { on := 0, ground := Go.Ground.phase }, { on := 1, ground := Go.Ground.phase }, { on := 2, ground := Go.Ground.phase }, { on := 3, ground := Go.Ground.phase }, { on := 4, ground := Go.Ground.phase }, { on := 5, ground := Go.Ground.phase }, { on := 6, ground := Go.Ground.phase }, { on := 7, ground := Go.Ground.phase }, { on := 8, ground := Go.Ground.phase }, { on := 9, ground := Go.Ground.phase }, { on := 10, ground := Go.Ground.phase }, { on := 11, ground := Go.Ground.phase }, { on := 12, ground := Go.Ground.phase }, { on := 13, ground := Go.Ground.phase }, { on := 14, ground := Go.Ground.phase }, { on := 15, ground := Go.Ground.phase }, { on := 16, ground := Go.Ground.phase }, { on := 17, ground := Go.Ground.phase }, { on := 18, ground := Go.Ground.phase }, { on := 19, ground := Go.Ground.phase }, { on := 20, ground := Go.Ground.phase }, { on := 21, ground := Go.Ground.phase }, { on := 22, ground := Go.Ground.phase }, { on := 23, ground := Go.Ground.phase }, { on := 24, ground := Go.Ground.phase }, { on := 25, ground := Go.Ground.phase }, { on := 26, ground := Go.Ground.phase }, { on := 27, ground := Go.Ground.phase }, { on := 28, ground := Go.Ground.phase }, { on := 29, ground := Go.Ground.phase }, { on := 30, ground := Go.Ground.phase }, { on := 31, ground := Go.Ground.phase }, { on := 32, ground := Go.Ground.phase }, { on := 33, ground := Go.Ground.phase }, { on := 34, ground := Go.Ground.phase }, { on := 35, ground := Go.Ground.phase }, { on := 36, ground := Go.Ground.phase }, { on := 37, ground := Go.Ground.phase }, { on := 38, ground := Go.Ground.phase }, { on := 39, ground := Go.Ground.phase }, { on := 40, ground := Go.Ground.phase }, { on := 41, ground := Go.Ground.phase }, { on := 42, ground := Go.Ground.phase }, { on := 43, ground := Go.Ground.phase }, { on := 44, ground := Go.Ground.phase }, { on := 45, ground := Go.Ground.phase }, { on := 46, ground := Go.Ground.phase }, { on := 47, ground := Go.Ground.phase }, { on := 48, ground := Go.Ground.phase }, { on := 49, ground := Go.Ground.phase }, { on := 50, ground := Go.Ground.phase }, { on := 51, ground := Go.Ground.phase }, { on := 52, ground := Go.Ground.phase }, { on := 53, ground := Go.Ground.phase }, { on := 54, ground := Go.Ground.phase }, { on := 55, ground := Go.Ground.phase }], guard := none }) (v := ?_) rfl (by kernel_rfl) (by kernel_rfl) (by kernel_rfl) (fun _ _ _ h => h) (Or.inl ⟨by rfl, ?_⟩) hS10 ?_; rotate_left; (· (intro wq hSw; obtain ⟨a0, a1, a2, hq1⟩ := labsAt_head hSw; obtain ⟨b0, b1, b2, hq2⟩ := labsAt_head hq1; obtain ⟨c0, c1, c2, hq3⟩ := labsAt_head hq2; obtain ⟨d0, d1, d2, hq4⟩ := labsAt_head hq3; obtain ⟨g0, g1, g2, hq5⟩ := labsAt_head hq4; obtain ⟨i0, i1, i2, hq6⟩ := labsAt_head hq5; go_simp; try with_reducible rfl))
  try simp only [Act.put, List.setIfInBounds_toArray, List.set_cons_zero, List.set_cons_succ]
  refine wpAnyH_done (by kernel_rfl) ?_ _
  have hB := hS10.below
  clear hS10
  go_wp2
  go_ret
  exact ⟨rfl, hB⟩

end Go.Proofs.YtafghaceahchhaaDoor
