/- The law LabelOrders, walked. -/
import Derived.Test.YtafghaceahchhaaDoorLabMem
import Derived.Test.YtafghaceahchhaaDoorLabFacts
namespace Go.Proofs.YtafghaceahchhaaDoor
open Go.RowKit Go.Proofs.Cats Go.Shelf

theorem UnderBot (a : Lab) (ha : a.fits) (h : a.right = true) (w : World) :
    Calls Tryd.prog 18 #[.agg #[.int .i64 0, .int .u64 0, .int .i64 7], .agg #[.int .i64 a.l, .int .u64 a.c, .int .i64 a.i]] w fun e w' => e = .returned (.bool true) ∧ Below w.heap.size w w' := by
  have := Under_any Lab.bot a Lab.fits_bot ha w
  rw [bot_under ha h] at this
  exact this
theorem UnderTop (a : Lab) (ha : a.fits) (h : a.right = true) (w : World) :
    Calls Tryd.prog 18 #[.agg #[.int .i64 a.l, .int .u64 a.c, .int .i64 a.i], .agg #[.int .i64 15, .int .u64 18446744073709551615, .int .i64 0]] w fun e w' => e = .returned (.bool true) ∧ Below w.heap.size w w' := by
  have := Under_any a Lab.top ha Lab.fits_top w
  rw [top_over ha h, top_c] at this
  exact this

set_option maxRecDepth 100000 in
set_option maxHeartbeats 4000000 in
theorem labelOrders_A (a b c : Lab) (hfa : a.fits) (hfb : b.fits) (hfc : c.fits) (hab : a.under b = false) (hra : a.right = true) (w : World) (hg : ErrT w) :
    Calls Tryd.prog 5 #[.agg #[.int .i64 a.l, .int .u64 a.c, .int .i64 a.i], .agg #[.int .i64 b.l, .int .u64 b.c, .int .i64 b.i], .agg #[.int .i64 c.l, .int .u64 c.c, .int .i64 c.i]] w fun e w' => e = .returned (.bool true) ∧ Below w.heap.size w w' := by
  have _hu := And.intro hfa (And.intro hfb (hfc))
  clear _hu
  have AA := Lib.hid (under_refl a hfa)
  have AB := Lib.hid hab
  have RA := Lib.hid hra
  clear hab hra
  obtain ⟨hB, hg1, a0, a1, a2, b0, b1, b2, c0, c1, c2⟩ := three_at w a b c hg
  have hM := labsAt_cons a0 a1 a2 (labsAt_cons b0 b1 b2 (labsAt_cons c0 c1 c2 (labsAt_nil hB hg1)))
  clear hg
  go_enter Tryd.func5, Tryd.ntmps5
  go_wp2_with fail
  refine (shown_any _ hg1).mono ?_
  rintro e w1 ⟨he, hb⟩
  subst he
  replace a0 := cell_later hb a0
  replace a1 := cell_later hb a1
  replace a2 := cell_later hb a2
  replace b0 := cell_later hb b0
  replace b1 := cell_later hb b1
  replace b2 := cell_later hb b2
  replace c0 := cell_later hb c0
  replace c1 := cell_later hb c1
  replace c2 := cell_later hb c2
  replace hM := hM.later hb
  clear hb hB hg1
  go_wp2_with fail
  refine (Under_any a b hfa hfb _).mono ?_
  rintro e w2 ⟨he, hb⟩
  rw [AB.out] at he
  subst he
  replace hM := hM.later hb
  clear hb a0 a1 a2 b0 b1 b2 c0 c1 c2
  go_wp2_with fail
  refine wp_region_held_drew (S := LabsAt w [(w.heap.size, a), (w.heap.size + 1, b), (w.heap.size + 1 + 1, c)]) (by kernel_rfl) (hM.drew) (fun hS0 => ?_)
  clear hM
  refine wpAnyH_take (i := 0) (oi := { dst := some 13, op := Go.Op.move (Go.Operand.tmp 7), type := 4, pos := "law.go:48", after := #[], guard := none }) (v := ?_) rfl (by kernel_rfl) (by kernel_rfl) (by kernel_rfl) (fun _ _ _ h => h) (Or.inl ⟨by rfl, ?_⟩) hS0 ?_; rotate_left; (· (intro wq hSw; obtain ⟨a0, a1, a2, hq⟩ := labsAt_head hSw; obtain ⟨b0, b1, b2, hq2⟩ := labsAt_head hq; obtain ⟨c0, c1, c2, _⟩ := labsAt_head hq2; go_simp; try with_reducible rfl))
  try simp only [Act.put, List.setIfInBounds_toArray, List.set_cons_zero, List.set_cons_succ]
  refine wpAnyH_take (i := 1) (oi := { dst := some 14, op := Go.Op.move (Go.Operand.tmp 13), type := 4, pos := "law.go:48", after := #[{ on := 0, ground := Go.Ground.data }], guard := none }) (v := ?_) rfl (by kernel_rfl) (by kernel_rfl) (by kernel_rfl) (fun _ _ _ h => h) (Or.inl ⟨by rfl, ?_⟩) hS0 ?_; rotate_left; (· (intro wq hSw; obtain ⟨a0, a1, a2, hq⟩ := labsAt_head hSw; obtain ⟨b0, b1, b2, hq2⟩ := labsAt_head hq; obtain ⟨c0, c1, c2, _⟩ := labsAt_head hq2; go_simp; try with_reducible rfl))
  try simp only [Act.put, List.setIfInBounds_toArray, List.set_cons_zero, List.set_cons_succ]
  refine wpAnyH_take (i := 2) (oi := { dst := some 15, op := Go.Op.load 24 (Go.Operand.tmp 3), type := 24, pos := "law.go:48", after := #[{ on := 1, ground := Go.Ground.guard }], guard := some (1, true) }) (v := ?_) rfl (by kernel_rfl) (by kernel_rfl) (by kernel_rfl) (fun _ _ _ h => h) (Or.inl ⟨by rfl, ?_⟩) hS0 ?_; rotate_left; (· (intro wq hSw; obtain ⟨a0, a1, a2, hq⟩ := labsAt_head hSw; obtain ⟨b0, b1, b2, hq2⟩ := labsAt_head hq; obtain ⟨c0, c1, c2, _⟩ := labsAt_head hq2; go_simp; try with_reducible rfl))
  try simp only [Act.put, List.setIfInBounds_toArray, List.set_cons_zero, List.set_cons_succ]
  refine wpAnyH_take (i := 3) (oi := { dst := some 16, op := Go.Op.load 24 (Go.Operand.tmp 3), type := 24, pos := "law.go:48", after := #[{ on := 1, ground := Go.Ground.guard }], guard := some (1, true) }) (v := ?_) rfl (by kernel_rfl) (by kernel_rfl) (by kernel_rfl) (fun _ _ _ h => h) (Or.inl ⟨by rfl, ?_⟩) hS0 ?_; rotate_left; (· (intro wq hSw; obtain ⟨a0, a1, a2, hq⟩ := labsAt_head hSw; obtain ⟨b0, b1, b2, hq2⟩ := labsAt_head hq; obtain ⟨c0, c1, c2, _⟩ := labsAt_head hq2; go_simp; try with_reducible rfl))
  try simp only [Act.put, List.setIfInBounds_toArray, List.set_cons_zero, List.set_cons_succ]
  refine wpAnyH_take (i := 5) (oi := { dst := some 18, op := Go.Op.load 24 (Go.Operand.tmp 3), type := 24, pos := "law.go:48", after := #[{ on := 1, ground := Go.Ground.guard }], guard := some (1, true) }) (v := ?_) rfl (by kernel_rfl) (by kernel_rfl) (by kernel_rfl) (fun _ _ _ h => h) (Or.inl ⟨by rfl, ?_⟩) hS0 ?_; rotate_left; (· (intro wq hSw; obtain ⟨a0, a1, a2, hq⟩ := labsAt_head hSw; obtain ⟨b0, b1, b2, hq2⟩ := labsAt_head hq; obtain ⟨c0, c1, c2, _⟩ := labsAt_head hq2; go_simp; try with_reducible rfl))
  try simp only [Act.put, List.setIfInBounds_toArray, List.set_cons_zero, List.set_cons_succ]
  refine wpAnyH_ready (rs := [4]) (by kernel_rfl) (by simp) ?_
  refine AllReadyH.cons (o := { dst := some 17, op := Go.Op.call { callee := Go.Callee.value (Go.Operand.func 18), args := #[Go.Operand.tmp 15, Go.Operand.tmp 16], argTypes := #[24, 24] }, type := 4, pos := "law.go:48", after := #[{ on := 2, ground := Go.Ground.data }, { on := 3, ground := Go.Ground.data }, { on := 1, ground := Go.Ground.chain }, { on := 1, ground := Go.Ground.guard }], guard := some (1, true) }) rfl (fun K hK => ?_) AllReadyH.nil
  go_simp
  refine (Under_any a a hfa hfa _).mono ?_
  rintro e w3 ⟨he, hb⟩
  rw [AA.out, RA.out] at he
  subst he
  refine hK.out _ _ (LabsAt.later hS0 hb) (fun hS1 => ?_)
  clear hK K hS0 hb
  try simp only [Act.put, List.setIfInBounds_toArray, List.set_cons_zero, List.set_cons_succ]
  refine wpAnyH_ready (rs := [6]) (by kernel_rfl) (by simp) ?_
  refine AllReadyH.cons (o := { dst := some 19, op := Go.Op.call { callee := Go.Callee.value (Go.Operand.func 16), args := #[Go.Operand.tmp 18], argTypes := #[24] }, type := 4, pos := "law.go:48", after := #[{ on := 5, ground := Go.Ground.data }, { on := 4, ground := Go.Ground.chain }, { on := 1, ground := Go.Ground.guard }], guard := some (1, true) }) rfl (fun K hK => ?_) AllReadyH.nil
  go_simp
  refine (right_any a hfa _).mono ?_
  rintro e w4 ⟨he, hb⟩
  rw [RA.out] at he
  subst he
  refine hK.out _ _ (LabsAt.later hS1 hb) (fun hS2 => ?_)
  clear hK K hS1 hb
  try simp only [Act.put, List.setIfInBounds_toArray, List.set_cons_zero, List.set_cons_succ]
  refine wpAnyH_take (i := 7) (oi := { dst := some 20, op := Go.Op.binOp Go.BinOp.eql 4 (Go.Operand.tmp 17) (Go.Operand.tmp 19) 4, type := 4, pos := "law.go:48", after := #[{ on := 4, ground := Go.Ground.data }, { on := 6, ground := Go.Ground.data }, { on := 1, ground := Go.Ground.guard }], guard := some (1, true) }) (v := ?_) rfl (by kernel_rfl) (by kernel_rfl) (by kernel_rfl) (fun _ _ _ h => h) (Or.inl ⟨by rfl, ?_⟩) hS2 ?_; rotate_left; (· (intro wq hSw; obtain ⟨a0, a1, a2, hq⟩ := labsAt_head hSw; obtain ⟨b0, b1, b2, hq2⟩ := labsAt_head hq; obtain ⟨c0, c1, c2, _⟩ := labsAt_head hq2; go_simp; try with_reducible rfl))
  try simp only [Act.put, List.setIfInBounds_toArray, List.set_cons_zero, List.set_cons_succ]
  refine wpAnyH_take (i := 8) (oi := { dst := some 21, op := Go.Op.pick (Go.Operand.tmp 14) (Go.Operand.tmp 20) (Go.Operand.const (Go.Value.bool false)), type := 4, pos := "law.go:48", after := #[{ on := 1, ground := Go.Ground.data }, { on := 7, ground := Go.Ground.data }], guard := none }) (v := ?_) rfl (by kernel_rfl) (by kernel_rfl) (by kernel_rfl) (fun _ _ _ h => h) (Or.inl ⟨by rfl, ?_⟩) hS2 ?_; rotate_left; (· (intro wq hSw; obtain ⟨a0, a1, a2, hq⟩ := labsAt_head hSw; obtain ⟨b0, b1, b2, hq2⟩ := labsAt_head hq; obtain ⟨c0, c1, c2, _⟩ := labsAt_head hq2; go_simp; try with_reducible rfl))
  try simp only [Act.put, List.setIfInBounds_toArray, List.set_cons_zero, List.set_cons_succ]
  refine wpAnyH_take (i := 9) (oi := { dst := some 22, op := Go.Op.move (Go.Operand.tmp 21), type := 4, pos := "law.go:48", after := #[{ on := 8, ground := Go.Ground.data }, { on := 6, ground := Go.Ground.chain }], guard := none }) (v := ?_) rfl (by kernel_rfl) (by kernel_rfl) (by kernel_rfl) (fun _ _ _ h => h) (Or.inl ⟨by rfl, ?_⟩) hS2 ?_; rotate_left; (· (intro wq hSw; obtain ⟨a0, a1, a2, hq⟩ := labsAt_head hSw; obtain ⟨b0, b1, b2, hq2⟩ := labsAt_head hq; obtain ⟨c0, c1, c2, _⟩ := labsAt_head hq2; go_simp; try with_reducible rfl))
  try simp only [Act.put, List.setIfInBounds_toArray, List.set_cons_zero, List.set_cons_succ]
  refine wpAnyH_take (i := 10) (oi := { dst := some 23, op := Go.Op.move (Go.Operand.tmp 8), type := 4, pos := "law.go:48", after := #[{ on := 9, ground := Go.Ground.guard }], guard := some (9, true) }) (v := ?_) rfl (by kernel_rfl) (by kernel_rfl) (by kernel_rfl) (fun _ _ _ h => h) (Or.inl ⟨by rfl, ?_⟩) hS2 ?_; rotate_left; (· (intro wq hSw; obtain ⟨a0, a1, a2, hq⟩ := labsAt_head hSw; obtain ⟨b0, b1, b2, hq2⟩ := labsAt_head hq; obtain ⟨c0, c1, c2, _⟩ := labsAt_head hq2; go_simp; try with_reducible rfl))
  try simp only [Act.put, List.setIfInBounds_toArray, List.set_cons_zero, List.set_cons_succ]
  refine wpAnyH_take (i := 11) (oi := { dst := some 24, op := Go.Op.unOp Go.UnOp.not 4 (Go.Operand.tmp 23), type := 4, pos := "law.go:48", after := #[{ on := 10, ground := Go.Ground.data }, { on := 9, ground := Go.Ground.guard }], guard := some (9, true) }) (v := ?_) rfl (by kernel_rfl) (by kernel_rfl) (by kernel_rfl) (fun _ _ _ h => h) (Or.inl ⟨by rfl, ?_⟩) hS2 ?_; rotate_left; (· (intro wq hSw; obtain ⟨a0, a1, a2, hq⟩ := labsAt_head hSw; obtain ⟨b0, b1, b2, hq2⟩ := labsAt_head hq; obtain ⟨c0, c1, c2, _⟩ := labsAt_head hq2; go_simp; try with_reducible rfl))
  try simp only [Act.put, List.setIfInBounds_toArray, List.set_cons_zero, List.set_cons_succ]
  refine wpAnyH_take (i := 12) (oi := { dst := some 25, op := Go.Op.move (Go.Operand.tmp 24), type := 4, pos := "law.go:48", after := #[{ on := 11, ground := Go.Ground.data }, { on := 9, ground := Go.Ground.chain }, { on := 9, ground := Go.Ground.guard }], guard := some (9, true) }) (v := ?_) rfl (by kernel_rfl) (by kernel_rfl) (by kernel_rfl) (fun _ _ _ h => h) (Or.inl ⟨by rfl, ?_⟩) hS2 ?_; rotate_left; (· (intro wq hSw; obtain ⟨a0, a1, a2, hq⟩ := labsAt_head hSw; obtain ⟨b0, b1, b2, hq2⟩ := labsAt_head hq; obtain ⟨c0, c1, c2, _⟩ := labsAt_head hq2; go_simp; try with_reducible rfl))
  try simp only [Act.put, List.setIfInBounds_toArray, List.set_cons_zero, List.set_cons_succ]
  refine wpAnyH_take (i := 13) (oi := { dst := some 26, op := Go.Op.load 24 (Go.Operand.tmp 4), type := 24, pos := "law.go:48", after := #[{ on := 12, ground := Go.Ground.guard }], guard := some (12, false) }) (v := undef) rfl (by kernel_rfl) (by kernel_rfl) (by kernel_rfl) (fun _ _ _ h => h) (Or.inr ⟨by rfl, rfl⟩) hS2 ?_
  try simp only [Act.put, List.setIfInBounds_toArray, List.set_cons_zero, List.set_cons_succ]
  refine wpAnyH_take (i := 14) (oi := { dst := some 27, op := Go.Op.load 24 (Go.Operand.tmp 3), type := 24, pos := "law.go:48", after := #[{ on := 12, ground := Go.Ground.guard }], guard := some (12, false) }) (v := undef) rfl (by kernel_rfl) (by kernel_rfl) (by kernel_rfl) (fun _ _ _ h => h) (Or.inr ⟨by rfl, rfl⟩) hS2 ?_
  try simp only [Act.put, List.setIfInBounds_toArray, List.set_cons_zero, List.set_cons_succ]
  refine wpAnyH_ready (rs := [15]) (by kernel_rfl) (by simp) ?_
  refine AllReadyH.cons (o := { dst := some 28, op := Go.Op.call { callee := Go.Callee.value (Go.Operand.func 18), args := #[Go.Operand.tmp 26, Go.Operand.tmp 27], argTypes := #[24, 24] }, type := 4, pos := "law.go:48", after := #[{ on := 13, ground := Go.Ground.data }, { on := 14, ground := Go.Ground.data }, { on := 12, ground := Go.Ground.chain }, { on := 12, ground := Go.Ground.guard }], guard := some (12, false) }) rfl (fun K hK => ?_) AllReadyH.nil
  rw [if_neg (by intro h; cases h)]
  refine hK.out _ _ hS2 (fun hS3 => ?_)
  clear hK K hS2
  try simp only [Act.put, List.setIfInBounds_toArray, List.set_cons_zero, List.set_cons_succ]
  refine wpAnyH_take (i := 16) (oi := { dst := some 29, op := Go.Op.unOp Go.UnOp.not 4 (Go.Operand.tmp 28), type := 4, pos := "law.go:48", after := #[{ on := 15, ground := Go.Ground.data }, { on := 12, ground := Go.Ground.guard }], guard := some (12, false) }) (v := undef) rfl (by kernel_rfl) (by kernel_rfl) (by kernel_rfl) (fun _ _ _ h => h) (Or.inr ⟨by rfl, rfl⟩) hS3 ?_
  try simp only [Act.put, List.setIfInBounds_toArray, List.set_cons_zero, List.set_cons_succ]
  refine wpAnyH_take (i := 17) (oi := { dst := some 30, op := Go.Op.pick (Go.Operand.tmp 25) (Go.Operand.const (Go.Value.bool true)) (Go.Operand.tmp 29), type := 4, pos := "law.go:48", after := #[{ on := 12, ground := Go.Ground.data }, { on := 16, ground := Go.Ground.data }, { on := 9, ground := Go.Ground.guard }], guard := some (9, true) }) (v := ?_) rfl (by kernel_rfl) (by kernel_rfl) (by kernel_rfl) (fun _ _ _ h => h) (Or.inl ⟨by rfl, ?_⟩) hS3 ?_; rotate_left; (· (intro wq hSw; obtain ⟨a0, a1, a2, hq⟩ := labsAt_head hSw; obtain ⟨b0, b1, b2, hq2⟩ := labsAt_head hq; obtain ⟨c0, c1, c2, _⟩ := labsAt_head hq2; go_simp; try with_reducible rfl))
  try simp only [Act.put, List.setIfInBounds_toArray, List.set_cons_zero, List.set_cons_succ]
  refine wpAnyH_take (i := 18) (oi := { dst := some 31, op := Go.Op.move (Go.Operand.tmp 30), type := 4, pos := "law.go:48", after := #[{ on := 17, ground := Go.Ground.data }, { on := 15, ground := Go.Ground.chain }, { on := 9, ground := Go.Ground.guard }], guard := some (9, true) }) (v := ?_) rfl (by kernel_rfl) (by kernel_rfl) (by kernel_rfl) (fun _ _ _ h => h) (Or.inl ⟨by rfl, ?_⟩) hS3 ?_; rotate_left; (· (intro wq hSw; obtain ⟨a0, a1, a2, hq⟩ := labsAt_head hSw; obtain ⟨b0, b1, b2, hq2⟩ := labsAt_head hq; obtain ⟨c0, c1, c2, _⟩ := labsAt_head hq2; go_simp; try with_reducible rfl))
  try simp only [Act.put, List.setIfInBounds_toArray, List.set_cons_zero, List.set_cons_succ]
  refine wpAnyH_take (i := 19) (oi := { dst := some 32, op := Go.Op.load 24 (Go.Operand.tmp 3), type := 24, pos := "law.go:48", after := #[{ on := 18, ground := Go.Ground.guard }], guard := some (18, false) }) (v := undef) rfl (by kernel_rfl) (by kernel_rfl) (by kernel_rfl) (fun _ _ _ h => h) (Or.inr ⟨by rfl, rfl⟩) hS3 ?_
  try simp only [Act.put, List.setIfInBounds_toArray, List.set_cons_zero, List.set_cons_succ]
  refine wpAnyH_take (i := 20) (oi := { dst := some 33, op := Go.Op.load 24 (Go.Operand.tmp 4), type := 24, pos := "law.go:48", after := #[{ on := 18, ground := Go.Ground.guard }], guard := some (18, false) }) (v := undef) rfl (by kernel_rfl) (by kernel_rfl) (by kernel_rfl) (fun _ _ _ h => h) (Or.inr ⟨by rfl, rfl⟩) hS3 ?_
  try simp only [Act.put, List.setIfInBounds_toArray, List.set_cons_zero, List.set_cons_succ]
  refine wpAnyH_take (i := 21) (oi := { dst := some 34, op := Go.Op.binOp Go.BinOp.eql 24 (Go.Operand.tmp 32) (Go.Operand.tmp 33) 24, type := 4, pos := "law.go:48", after := #[{ on := 19, ground := Go.Ground.data }, { on := 20, ground := Go.Ground.data }, { on := 18, ground := Go.Ground.guard }], guard := some (18, false) }) (v := undef) rfl (by kernel_rfl) (by kernel_rfl) (by kernel_rfl) (fun _ _ _ h => h) (Or.inr ⟨by rfl, rfl⟩) hS3 ?_
  try simp only [Act.put, List.setIfInBounds_toArray, List.set_cons_zero, List.set_cons_succ]
  refine wpAnyH_take (i := 22) (oi := { dst := some 35, op := Go.Op.pick (Go.Operand.tmp 31) (Go.Operand.const (Go.Value.bool true)) (Go.Operand.tmp 34), type := 4, pos := "law.go:48", after := #[{ on := 18, ground := Go.Ground.data }, { on := 21, ground := Go.Ground.data }, { on := 9, ground := Go.Ground.guard }], guard := some (9, true) }) (v := ?_) rfl (by kernel_rfl) (by kernel_rfl) (by kernel_rfl) (fun _ _ _ h => h) (Or.inl ⟨by rfl, ?_⟩) hS3 ?_; rotate_left; (· (intro wq hSw; obtain ⟨a0, a1, a2, hq⟩ := labsAt_head hSw; obtain ⟨b0, b1, b2, hq2⟩ := labsAt_head hq; obtain ⟨c0, c1, c2, _⟩ := labsAt_head hq2; go_simp; try with_reducible rfl))
  try simp only [Act.put, List.setIfInBounds_toArray, List.set_cons_zero, List.set_cons_succ]
  refine wpAnyH_take (i := 23) (oi := { dst := some 36, op := Go.Op.pick (Go.Operand.tmp 22) (Go.Operand.tmp 35) (Go.Operand.const (Go.Value.bool false)), type := 4, pos := "law.go:48", after := #[{ on := 9, ground := Go.Ground.data }, { on := 22, ground := Go.Ground.data }], guard := none }) (v := ?_) rfl (by kernel_rfl) (by kernel_rfl) (by kernel_rfl) (fun _ _ _ h => h) (Or.inl ⟨by rfl, ?_⟩) hS3 ?_; rotate_left; (· (intro wq hSw; obtain ⟨a0, a1, a2, hq⟩ := labsAt_head hSw; obtain ⟨b0, b1, b2, hq2⟩ := labsAt_head hq; obtain ⟨c0, c1, c2, _⟩ := labsAt_head hq2; go_simp; try with_reducible rfl))
  try simp only [Act.put, List.setIfInBounds_toArray, List.set_cons_zero, List.set_cons_succ]
  refine wpAnyH_take (i := 24) (oi := { dst := some 37, op := Go.Op.move (Go.Operand.tmp 36), type := 4, pos := "law.go:48", after := #[{ on := 23, ground := Go.Ground.data }, { on := 18, ground := Go.Ground.chain }], guard := none }) (v := ?_) rfl (by kernel_rfl) (by kernel_rfl) (by kernel_rfl) (fun _ _ _ h => h) (Or.inl ⟨by rfl, ?_⟩) hS3 ?_; rotate_left; (· (intro wq hSw; obtain ⟨a0, a1, a2, hq⟩ := labsAt_head hSw; obtain ⟨b0, b1, b2, hq2⟩ := labsAt_head hq; obtain ⟨c0, c1, c2, _⟩ := labsAt_head hq2; go_simp; try with_reducible rfl))
  try simp only [Act.put, List.setIfInBounds_toArray, List.set_cons_zero, List.set_cons_succ]
  refine wpAnyH_take (i := 25) (oi := { dst := some 38, op := Go.Op.move (Go.Operand.tmp 8), type := 4, pos := "law.go:48", after := #[{ on := 24, ground := Go.Ground.guard }], guard := some (24, true) }) (v := ?_) rfl (by kernel_rfl) (by kernel_rfl) (by kernel_rfl) (fun _ _ _ h => h) (Or.inl ⟨by rfl, ?_⟩) hS3 ?_; rotate_left; (· (intro wq hSw; obtain ⟨a0, a1, a2, hq⟩ := labsAt_head hSw; obtain ⟨b0, b1, b2, hq2⟩ := labsAt_head hq; obtain ⟨c0, c1, c2, _⟩ := labsAt_head hq2; go_simp; try with_reducible rfl))
  try simp only [Act.put, List.setIfInBounds_toArray, List.set_cons_zero, List.set_cons_succ]
  refine wpAnyH_take (i := 26) (oi := { dst := some 39, op := Go.Op.unOp Go.UnOp.not 4 (Go.Operand.tmp 38), type := 4, pos := "law.go:48", after := #[{ on := 25, ground := Go.Ground.data }, { on := 24, ground := Go.Ground.guard }], guard := some (24, true) }) (v := ?_) rfl (by kernel_rfl) (by kernel_rfl) (by kernel_rfl) (fun _ _ _ h => h) (Or.inl ⟨by rfl, ?_⟩) hS3 ?_; rotate_left; (· (intro wq hSw; obtain ⟨a0, a1, a2, hq⟩ := labsAt_head hSw; obtain ⟨b0, b1, b2, hq2⟩ := labsAt_head hq; obtain ⟨c0, c1, c2, _⟩ := labsAt_head hq2; go_simp; try with_reducible rfl))
  try simp only [Act.put, List.setIfInBounds_toArray, List.set_cons_zero, List.set_cons_succ]
  refine wpAnyH_take (i := 27) (oi := { dst := some 40, op := Go.Op.move (Go.Operand.tmp 39), type := 4, pos := "law.go:48", after := #[{ on := 26, ground := Go.Ground.data }, { on := 24, ground := Go.Ground.chain }, { on := 24, ground := Go.Ground.guard }], guard := some (24, true) }) (v := ?_) rfl (by kernel_rfl) (by kernel_rfl) (by kernel_rfl) (fun _ _ _ h => h) (Or.inl ⟨by rfl, ?_⟩) hS3 ?_; rotate_left; (· (intro wq hSw; obtain ⟨a0, a1, a2, hq⟩ := labsAt_head hSw; obtain ⟨b0, b1, b2, hq2⟩ := labsAt_head hq; obtain ⟨c0, c1, c2, _⟩ := labsAt_head hq2; go_simp; try with_reducible rfl))
  try simp only [Act.put, List.setIfInBounds_toArray, List.set_cons_zero, List.set_cons_succ]
  refine wpAnyH_take (i := 28) (oi := { dst := some 41, op := Go.Op.load 24 (Go.Operand.tmp 4), type := 24, pos := "law.go:48", after := #[{ on := 27, ground := Go.Ground.guard }], guard := some (27, false) }) (v := undef) rfl (by kernel_rfl) (by kernel_rfl) (by kernel_rfl) (fun _ _ _ h => h) (Or.inr ⟨by rfl, rfl⟩) hS3 ?_
  try simp only [Act.put, List.setIfInBounds_toArray, List.set_cons_zero, List.set_cons_succ]
  refine wpAnyH_take (i := 29) (oi := { dst := some 42, op := Go.Op.load 24 (Go.Operand.tmp 5), type := 24, pos := "law.go:48", after := #[{ on := 27, ground := Go.Ground.guard }], guard := some (27, false) }) (v := undef) rfl (by kernel_rfl) (by kernel_rfl) (by kernel_rfl) (fun _ _ _ h => h) (Or.inr ⟨by rfl, rfl⟩) hS3 ?_
  try simp only [Act.put, List.setIfInBounds_toArray, List.set_cons_zero, List.set_cons_succ]
  refine wpAnyH_ready (rs := [30]) (by kernel_rfl) (by simp) ?_
  refine AllReadyH.cons (o := { dst := some 43, op := Go.Op.call { callee := Go.Callee.value (Go.Operand.func 18), args := #[Go.Operand.tmp 41, Go.Operand.tmp 42], argTypes := #[24, 24] }, type := 4, pos := "law.go:48", after := #[{ on := 28, ground := Go.Ground.data }, { on := 29, ground := Go.Ground.data }, { on := 27, ground := Go.Ground.chain }, { on := 27, ground := Go.Ground.guard }], guard := some (27, false) }) rfl (fun K hK => ?_) AllReadyH.nil
  rw [if_neg (by intro h; cases h)]
  refine hK.out _ _ hS3 (fun hS4 => ?_)
  clear hK K hS3
  try simp only [Act.put, List.setIfInBounds_toArray, List.set_cons_zero, List.set_cons_succ]
  refine wpAnyH_take (i := 31) (oi := { dst := some 44, op := Go.Op.unOp Go.UnOp.not 4 (Go.Operand.tmp 43), type := 4, pos := "law.go:48", after := #[{ on := 30, ground := Go.Ground.data }, { on := 27, ground := Go.Ground.guard }], guard := some (27, false) }) (v := undef) rfl (by kernel_rfl) (by kernel_rfl) (by kernel_rfl) (fun _ _ _ h => h) (Or.inr ⟨by rfl, rfl⟩) hS4 ?_
  try simp only [Act.put, List.setIfInBounds_toArray, List.set_cons_zero, List.set_cons_succ]
  refine wpAnyH_take (i := 32) (oi := { dst := some 45, op := Go.Op.pick (Go.Operand.tmp 40) (Go.Operand.const (Go.Value.bool true)) (Go.Operand.tmp 44), type := 4, pos := "law.go:48", after := #[{ on := 27, ground := Go.Ground.data }, { on := 31, ground := Go.Ground.data }, { on := 24, ground := Go.Ground.guard }], guard := some (24, true) }) (v := ?_) rfl (by kernel_rfl) (by kernel_rfl) (by kernel_rfl) (fun _ _ _ h => h) (Or.inl ⟨by rfl, ?_⟩) hS4 ?_; rotate_left; (· (intro wq hSw; obtain ⟨a0, a1, a2, hq⟩ := labsAt_head hSw; obtain ⟨b0, b1, b2, hq2⟩ := labsAt_head hq; obtain ⟨c0, c1, c2, _⟩ := labsAt_head hq2; go_simp; try with_reducible rfl))
  try simp only [Act.put, List.setIfInBounds_toArray, List.set_cons_zero, List.set_cons_succ]
  refine wpAnyH_take (i := 33) (oi := { dst := some 46, op := Go.Op.move (Go.Operand.tmp 45), type := 4, pos := "law.go:48", after := #[{ on := 32, ground := Go.Ground.data }, { on := 30, ground := Go.Ground.chain }, { on := 24, ground := Go.Ground.guard }], guard := some (24, true) }) (v := ?_) rfl (by kernel_rfl) (by kernel_rfl) (by kernel_rfl) (fun _ _ _ h => h) (Or.inl ⟨by rfl, ?_⟩) hS4 ?_; rotate_left; (· (intro wq hSw; obtain ⟨a0, a1, a2, hq⟩ := labsAt_head hSw; obtain ⟨b0, b1, b2, hq2⟩ := labsAt_head hq; obtain ⟨c0, c1, c2, _⟩ := labsAt_head hq2; go_simp; try with_reducible rfl))
  try simp only [Act.put, List.setIfInBounds_toArray, List.set_cons_zero, List.set_cons_succ]
  refine wpAnyH_take (i := 34) (oi := { dst := some 47, op := Go.Op.load 24 (Go.Operand.tmp 3), type := 24, pos := "law.go:48", after := #[{ on := 33, ground := Go.Ground.guard }], guard := some (33, false) }) (v := undef) rfl (by kernel_rfl) (by kernel_rfl) (by kernel_rfl) (fun _ _ _ h => h) (Or.inr ⟨by rfl, rfl⟩) hS4 ?_
  try simp only [Act.put, List.setIfInBounds_toArray, List.set_cons_zero, List.set_cons_succ]
  refine wpAnyH_take (i := 35) (oi := { dst := some 48, op := Go.Op.load 24 (Go.Operand.tmp 5), type := 24, pos := "law.go:48", after := #[{ on := 33, ground := Go.Ground.guard }], guard := some (33, false) }) (v := undef) rfl (by kernel_rfl) (by kernel_rfl) (by kernel_rfl) (fun _ _ _ h => h) (Or.inr ⟨by rfl, rfl⟩) hS4 ?_
  try simp only [Act.put, List.setIfInBounds_toArray, List.set_cons_zero, List.set_cons_succ]
  refine wpAnyH_ready (rs := [36]) (by kernel_rfl) (by simp) ?_
  refine AllReadyH.cons (o := { dst := some 49, op := Go.Op.call { callee := Go.Callee.value (Go.Operand.func 18), args := #[Go.Operand.tmp 47, Go.Operand.tmp 48], argTypes := #[24, 24] }, type := 4, pos := "law.go:48", after := #[{ on := 34, ground := Go.Ground.data }, { on := 35, ground := Go.Ground.data }, { on := 33, ground := Go.Ground.chain }, { on := 33, ground := Go.Ground.guard }], guard := some (33, false) }) rfl (fun K hK => ?_) AllReadyH.nil
  rw [if_neg (by intro h; cases h)]
  refine hK.out _ _ hS4 (fun hS5 => ?_)
  clear hK K hS4
  try simp only [Act.put, List.setIfInBounds_toArray, List.set_cons_zero, List.set_cons_succ]
  refine wpAnyH_take (i := 37) (oi := { dst := some 50, op := Go.Op.pick (Go.Operand.tmp 46) (Go.Operand.const (Go.Value.bool true)) (Go.Operand.tmp 49), type := 4, pos := "law.go:48", after := #[{ on := 33, ground := Go.Ground.data }, { on := 36, ground := Go.Ground.data }, { on := 24, ground := Go.Ground.guard }], guard := some (24, true) }) (v := ?_) rfl (by kernel_rfl) (by kernel_rfl) (by kernel_rfl) (fun _ _ _ h => h) (Or.inl ⟨by rfl, ?_⟩) hS5 ?_; rotate_left; (· (intro wq hSw; obtain ⟨a0, a1, a2, hq⟩ := labsAt_head hSw; obtain ⟨b0, b1, b2, hq2⟩ := labsAt_head hq; obtain ⟨c0, c1, c2, _⟩ := labsAt_head hq2; go_simp; try with_reducible rfl))
  try simp only [Act.put, List.setIfInBounds_toArray, List.set_cons_zero, List.set_cons_succ]
  refine wpAnyH_take (i := 38) (oi := { dst := some 51, op := Go.Op.pick (Go.Operand.tmp 37) (Go.Operand.tmp 50) (Go.Operand.const (Go.Value.bool false)), type := 4, pos := "law.go:48", after := #[{ on := 24, ground := Go.Ground.data }, { on := 37, ground := Go.Ground.data }], guard := none }) (v := ?_) rfl (by kernel_rfl) (by kernel_rfl) (by kernel_rfl) (fun _ _ _ h => h) (Or.inl ⟨by rfl, ?_⟩) hS5 ?_; rotate_left; (· (intro wq hSw; obtain ⟨a0, a1, a2, hq⟩ := labsAt_head hSw; obtain ⟨b0, b1, b2, hq2⟩ := labsAt_head hq; obtain ⟨c0, c1, c2, _⟩ := labsAt_head hq2; go_simp; try with_reducible rfl))
  try simp only [Act.put, List.setIfInBounds_toArray, List.set_cons_zero, List.set_cons_succ]
  refine wpAnyH_take (i := 39) (oi := { dst := some 52, op := Go.Op.move (Go.Operand.tmp 51), type := 4, pos := "law.go:48", after := #[{ on := 38, ground := Go.Ground.data }, { on := 36, ground := Go.Ground.chain }], guard := none }) (v := ?_) rfl (by kernel_rfl) (by kernel_rfl) (by kernel_rfl) (fun _ _ _ h => h) (Or.inl ⟨by rfl, ?_⟩) hS5 ?_; rotate_left; (· (intro wq hSw; obtain ⟨a0, a1, a2, hq⟩ := labsAt_head hSw; obtain ⟨b0, b1, b2, hq2⟩ := labsAt_head hq; obtain ⟨c0, c1, c2, _⟩ := labsAt_head hq2; go_simp; try with_reducible rfl))
  try simp only [Act.put, List.setIfInBounds_toArray, List.set_cons_zero, List.set_cons_succ]
  refine wpAnyH_take (i := 40) (oi := { dst := some 53, op := Go.Op.load 24 (Go.Operand.tmp 3), type := 24, pos := "law.go:48", after := #[{ on := 39, ground := Go.Ground.guard }], guard := some (39, true) }) (v := ?_) rfl (by kernel_rfl) (by kernel_rfl) (by kernel_rfl) (fun _ _ _ h => h) (Or.inl ⟨by rfl, ?_⟩) hS5 ?_; rotate_left; (· (intro wq hSw; obtain ⟨a0, a1, a2, hq⟩ := labsAt_head hSw; obtain ⟨b0, b1, b2, hq2⟩ := labsAt_head hq; obtain ⟨c0, c1, c2, _⟩ := labsAt_head hq2; go_simp; try with_reducible rfl))
  try simp only [Act.put, List.setIfInBounds_toArray, List.set_cons_zero, List.set_cons_succ]
  refine wpAnyH_ready (rs := [41]) (by kernel_rfl) (by simp) ?_
  refine AllReadyH.cons (o := { dst := some 54, op := Go.Op.call { callee := Go.Callee.value (Go.Operand.func 16), args := #[Go.Operand.tmp 53], argTypes := #[24] }, type := 4, pos := "law.go:48", after := #[{ on := 40, ground := Go.Ground.data }, { on := 39, ground := Go.Ground.chain }, { on := 39, ground := Go.Ground.guard }], guard := some (39, true) }) rfl (fun K hK => ?_) AllReadyH.nil
  go_simp
  refine (right_any a hfa _).mono ?_
  rintro e w5 ⟨he, hb⟩
  rw [RA.out] at he
  subst he
  refine hK.out _ _ (LabsAt.later hS5 hb) (fun hS6 => ?_)
  clear hK K hS5 hb
  try simp only [Act.put, List.setIfInBounds_toArray, List.set_cons_zero, List.set_cons_succ]
  refine wpAnyH_take (i := 42) (oi := { dst := some 55, op := Go.Op.unOp Go.UnOp.not 4 (Go.Operand.tmp 54), type := 4, pos := "law.go:48", after := #[{ on := 41, ground := Go.Ground.data }, { on := 39, ground := Go.Ground.guard }], guard := some (39, true) }) (v := ?_) rfl (by kernel_rfl) (by kernel_rfl) (by kernel_rfl) (fun _ _ _ h => h) (Or.inl ⟨by rfl, ?_⟩) hS6 ?_; rotate_left; (· (intro wq hSw; obtain ⟨a0, a1, a2, hq⟩ := labsAt_head hSw; obtain ⟨b0, b1, b2, hq2⟩ := labsAt_head hq; obtain ⟨c0, c1, c2, _⟩ := labsAt_head hq2; go_simp; try with_reducible rfl))
  try simp only [Act.put, List.setIfInBounds_toArray, List.set_cons_zero, List.set_cons_succ]
  refine wpAnyH_take (i := 43) (oi := { dst := some 56, op := Go.Op.move (Go.Operand.tmp 55), type := 4, pos := "law.go:48", after := #[{ on := 42, ground := Go.Ground.data }, { on := 41, ground := Go.Ground.chain }, { on := 39, ground := Go.Ground.guard }], guard := some (39, true) }) (v := ?_) rfl (by kernel_rfl) (by kernel_rfl) (by kernel_rfl) (fun _ _ _ h => h) (Or.inl ⟨by rfl, ?_⟩) hS6 ?_; rotate_left; (· (intro wq hSw; obtain ⟨a0, a1, a2, hq⟩ := labsAt_head hSw; obtain ⟨b0, b1, b2, hq2⟩ := labsAt_head hq; obtain ⟨c0, c1, c2, _⟩ := labsAt_head hq2; go_simp; try with_reducible rfl))
  try simp only [Act.put, List.setIfInBounds_toArray, List.set_cons_zero, List.set_cons_succ]
  refine wpAnyH_take (i := 45) (oi := { dst := some 58, op := Go.Op.load 24 (Go.Operand.tmp 3), type := 24, pos := "law.go:48", after := #[{ on := 43, ground := Go.Ground.guard }], guard := some (43, false) }) (v := ?_) rfl (by kernel_rfl) (by kernel_rfl) (by kernel_rfl) (fun _ _ _ h => h) (Or.inl ⟨by rfl, ?_⟩) hS6 ?_; rotate_left; (· (intro wq hSw; obtain ⟨a0, a1, a2, hq⟩ := labsAt_head hSw; obtain ⟨b0, b1, b2, hq2⟩ := labsAt_head hq; obtain ⟨c0, c1, c2, _⟩ := labsAt_head hq2; go_simp; try with_reducible rfl))
  try simp only [Act.put, List.setIfInBounds_toArray, List.set_cons_zero, List.set_cons_succ]
  refine wpAnyH_ready (rs := [44]) (by kernel_rfl) (by simp) ?_
  refine AllReadyH.cons (o := { dst := some 57, op := Go.Op.call { callee := Go.Callee.value (Go.Operand.func 22), args := #[], argTypes := #[] }, type := 24, pos := "law.go:48", after := #[{ on := 43, ground := Go.Ground.chain }, { on := 43, ground := Go.Ground.guard }], guard := some (43, false) }) rfl (fun K hK => ?_) AllReadyH.nil
  go_simp
  refine (bottom_any _).mono ?_
  rintro e w6 ⟨he, hb⟩
  subst he
  refine hK.out _ _ (LabsAt.later hS6 hb) (fun hS7 => ?_)
  clear hK K hS6 hb
  try simp only [Act.put, List.setIfInBounds_toArray, List.set_cons_zero, List.set_cons_succ]
  refine wpAnyH_ready (rs := [46]) (by kernel_rfl) (by simp) ?_
  refine AllReadyH.cons (o := { dst := some 59, op := Go.Op.call { callee := Go.Callee.value (Go.Operand.func 18), args := #[Go.Operand.tmp 57, Go.Operand.tmp 58], argTypes := #[24, 24] }, type := 4, pos := "law.go:48", after := #[{ on := 44, ground := Go.Ground.data }, { on := 45, ground := Go.Ground.data }, { on := 44, ground := Go.Ground.chain }, { on := 43, ground := Go.Ground.guard }], guard := some (43, false) }) rfl (fun K hK => ?_) AllReadyH.nil
  go_simp
  refine (UnderBot a hfa RA.out _).mono ?_
  rintro e w7 ⟨he, hb⟩
  subst he
  refine hK.out _ _ (LabsAt.later hS7 hb) (fun hS8 => ?_)
  clear hK K hS7 hb
  try simp only [Act.put, List.setIfInBounds_toArray, List.set_cons_zero, List.set_cons_succ]
  refine wpAnyH_take (i := 47) (oi := { dst := some 60, op := Go.Op.move (Go.Operand.tmp 59), type := 4, pos := "law.go:48", after := #[{ on := 46, ground := Go.Ground.data }, { on := 46, ground := Go.Ground.chain }, { on := 43, ground := Go.Ground.guard }], guard := some (43, false) }) (v := ?_) rfl (by kernel_rfl) (by kernel_rfl) (by kernel_rfl) (fun _ _ _ h => h) (Or.inl ⟨by rfl, ?_⟩) hS8 ?_; rotate_left; (· (intro wq hSw; obtain ⟨a0, a1, a2, hq⟩ := labsAt_head hSw; obtain ⟨b0, b1, b2, hq2⟩ := labsAt_head hq; obtain ⟨c0, c1, c2, _⟩ := labsAt_head hq2; go_simp; try with_reducible rfl))
  try simp only [Act.put, List.setIfInBounds_toArray, List.set_cons_zero, List.set_cons_succ]
  refine wpAnyH_take (i := 48) (oi := { dst := some 61, op := Go.Op.load 24 (Go.Operand.tmp 3), type := 24, pos := "law.go:48", after := #[{ on := 47, ground := Go.Ground.guard }], guard := some (47, true) }) (v := ?_) rfl (by kernel_rfl) (by kernel_rfl) (by kernel_rfl) (fun _ _ _ h => h) (Or.inl ⟨by rfl, ?_⟩) hS8 ?_; rotate_left; (· (intro wq hSw; obtain ⟨a0, a1, a2, hq⟩ := labsAt_head hSw; obtain ⟨b0, b1, b2, hq2⟩ := labsAt_head hq; obtain ⟨c0, c1, c2, _⟩ := labsAt_head hq2; go_simp; try with_reducible rfl))
  try simp only [Act.put, List.setIfInBounds_toArray, List.set_cons_zero, List.set_cons_succ]
  refine wpAnyH_ready (rs := [49]) (by kernel_rfl) (by simp) ?_
  refine AllReadyH.cons (o := { dst := some 62, op := Go.Op.call { callee := Go.Callee.value (Go.Operand.func 24), args := #[], argTypes := #[] }, type := 24, pos := "law.go:48", after := #[{ on := 47, ground := Go.Ground.chain }, { on := 47, ground := Go.Ground.guard }], guard := some (47, true) }) rfl (fun K hK => ?_) AllReadyH.nil
  go_simp
  refine (top_any _).mono ?_
  rintro e w8 ⟨he, hb⟩
  subst he
  refine hK.out _ _ (LabsAt.later hS8 hb) (fun hS9 => ?_)
  clear hK K hS8 hb
  try simp only [Act.put, List.setIfInBounds_toArray, List.set_cons_zero, List.set_cons_succ]
  refine wpAnyH_ready (rs := [50]) (by kernel_rfl) (by simp) ?_
  refine AllReadyH.cons (o := { dst := some 63, op := Go.Op.call { callee := Go.Callee.value (Go.Operand.func 18), args := #[Go.Operand.tmp 61, Go.Operand.tmp 62], argTypes := #[24, 24] }, type := 4, pos := "law.go:48", after := #[{ on := 48, ground := Go.Ground.data }, { on := 49, ground := Go.Ground.data }, { on := 49, ground := Go.Ground.chain }, { on := 47, ground := Go.Ground.guard }], guard := some (47, true) }) rfl (fun K hK => ?_) AllReadyH.nil
  go_simp
  refine (UnderTop a hfa RA.out _).mono ?_
  rintro e w9 ⟨he, hb⟩
  subst he
  refine hK.out _ _ (LabsAt.later hS9 hb) (fun hS10 => ?_)
  clear hK K hS9 hb
  try simp only [Act.put, List.setIfInBounds_toArray, List.set_cons_zero, List.set_cons_succ]
  refine wpAnyH_take (i := 51) (oi := { dst := some 64, op := Go.Op.pick (Go.Operand.tmp 60) (Go.Operand.tmp 63) (Go.Operand.const (Go.Value.bool false)), type := 4, pos := "law.go:48", after := #[{ on := 47, ground := Go.Ground.data }, { on := 50, ground := Go.Ground.data }, { on := 43, ground := Go.Ground.guard }], guard := some (43, false) }) (v := ?_) rfl (by kernel_rfl) (by kernel_rfl) (by kernel_rfl) (fun _ _ _ h => h) (Or.inl ⟨by rfl, ?_⟩) hS10 ?_; rotate_left; (· (intro wq hSw; obtain ⟨a0, a1, a2, hq⟩ := labsAt_head hSw; obtain ⟨b0, b1, b2, hq2⟩ := labsAt_head hq; obtain ⟨c0, c1, c2, _⟩ := labsAt_head hq2; go_simp; try with_reducible rfl))
  try simp only [Act.put, List.setIfInBounds_toArray, List.set_cons_zero, List.set_cons_succ]
  refine wpAnyH_take (i := 52) (oi := { dst := some 65, op := Go.Op.pick (Go.Operand.tmp 56) (Go.Operand.const (Go.Value.bool true)) (Go.Operand.tmp 64), type := 4, pos := "law.go:48", after := #[{ on := 43, ground := Go.Ground.data }, { on := 51, ground := Go.Ground.data }, { on := 39, ground := Go.Ground.guard }], guard := some (39, true) }) (v := ?_) rfl (by kernel_rfl) (by kernel_rfl) (by kernel_rfl) (fun _ _ _ h => h) (Or.inl ⟨by rfl, ?_⟩) hS10 ?_; rotate_left; (· (intro wq hSw; obtain ⟨a0, a1, a2, hq⟩ := labsAt_head hSw; obtain ⟨b0, b1, b2, hq2⟩ := labsAt_head hq; obtain ⟨c0, c1, c2, _⟩ := labsAt_head hq2; go_simp; try with_reducible rfl))
  try simp only [Act.put, List.setIfInBounds_toArray, List.set_cons_zero, List.set_cons_succ]
  refine wpAnyH_take (i := 53) (oi := { dst := some 66, op := Go.Op.pick (Go.Operand.tmp 52) (Go.Operand.tmp 65) (Go.Operand.const (Go.Value.bool false)), type := 4, pos := "law.go:48", after := #[{ on := 39, ground := Go.Ground.data }, { on := 52, ground := Go.Ground.data }], guard := none }) (v := ?_) rfl (by kernel_rfl) (by kernel_rfl) (by kernel_rfl) (fun _ _ _ h => h) (Or.inl ⟨by rfl, ?_⟩) hS10 ?_; rotate_left; (· (intro wq hSw; obtain ⟨a0, a1, a2, hq⟩ := labsAt_head hSw; obtain ⟨b0, b1, b2, hq2⟩ := labsAt_head hq; obtain ⟨c0, c1, c2, _⟩ := labsAt_head hq2; go_simp; try with_reducible rfl))
  try simp only [Act.put, List.setIfInBounds_toArray, List.set_cons_zero, List.set_cons_succ]
  refine wpAnyH_take (i := 54) (oi := { dst := some 6, op := Go.Op.assign (Go.Operand.tmp 66), type := 4, pos := "law.go:48", after := #[{ on := 53, ground := Go.Ground.data }, { on := 50, ground := Go.Ground.chain }, { on := 0, ground := Go.Ground.phase }, { on := 1, ground := Go.Ground.phase }, { on := 2, ground := Go.Ground.phase }, { on := 3, ground := Go.Ground.phase }, { on := 4, ground := Go.Ground.phase }, { on := 5, ground := Go.Ground.phase }, { on := 6, ground := Go.Ground.phase }, { on := 7, ground := Go.Ground.phase }, { on := 8, ground := Go.Ground.phase }, { on := 9, ground := Go.Ground.phase }, { on := 10, ground := Go.Ground.phase }, { on := 11, ground := Go.Ground.phase }, { on := 12, ground := Go.Ground.phase }, { on := 13, ground := Go.Ground.phase }, { on := 14, ground := Go.Ground.phase }, { on := 15, ground := Go.Ground.phase }, { on := 16, ground := Go.Ground.phase }, { on := 17, ground := Go.Ground.phase }, { on := 18, ground := Go.Ground.phase }, { on := 19, ground := Go.Ground.phase }, { on := 20, ground := Go.Ground.phase }, { on := 21, ground := Go.Ground.phase }, { on := 22, ground := Go.Ground.phase }, { on := 23, ground := Go.Ground.phase }, { on := 24, ground := Go.Ground.phase }, { on := 25, ground := Go.Ground.phase }, { on := 26, ground := Go.Ground.phase }, { on := 27, ground := Go.Ground.phase }, { on := 28, ground := Go.Ground.phase }, { on := 29, ground := Go.Ground.phase }, { on := 30, ground := Go.Ground.phase }, { on := 31, ground := Go.Ground.phase }, { on := 32, ground := Go.Ground.phase }, { on := 33, ground := Go.Ground.phase }, { on := 34, ground := Go.Ground.phase }, { on := 35, ground := Go.Ground.phase }, { on := 36, ground := Go.Ground.phase }, { on := 37, ground := Go.Ground.phase }, { on := 38, ground := Go.Ground.phase }, { on := 39, ground := Go.Ground.phase }, { on := 40, ground := Go.Ground.phase }, { on := 41, ground := Go.Ground.phase }, { on := 42, ground := Go.Ground.phase }, { on := 43, ground := Go.Ground.phase }, { on := 44, ground := Go.Ground.phase }, { on := 45, ground := Go.Ground.phase }, { on := 46, ground := Go.Ground.phase }, { on := 47, ground := Go.Ground.phase }, { on := 48, ground := Go.Ground.phase }, { on := 49, ground := Go.Ground.phase }, { on := 50, ground := Go.Ground.phase }, { on := 51, ground := Go.Ground.phase }, { on := 52, ground := Go.Ground.phase }, { on := 53, ground := Go.Ground.phase }], guard := none }) (v := ?_) rfl (by kernel_rfl) (by kernel_rfl) (by kernel_rfl) (fun _ _ _ h => h) (Or.inl ⟨by rfl, ?_⟩) hS10 ?_; rotate_left; (· (intro wq hSw; obtain ⟨a0, a1, a2, hq⟩ := labsAt_head hSw; obtain ⟨b0, b1, b2, hq2⟩ := labsAt_head hq; obtain ⟨c0, c1, c2, _⟩ := labsAt_head hq2; go_simp; try with_reducible rfl))
  try simp only [Act.put, List.setIfInBounds_toArray, List.set_cons_zero, List.set_cons_succ]
  refine wpAnyH_done (by kernel_rfl) ?_ _
  have hB := hS10.below
  clear hS10
  go_wp2
  go_ret
  exact ⟨rfl, hB⟩

set_option maxRecDepth 100000 in
set_option maxHeartbeats 4000000 in
theorem labelOrders_B (a b c : Lab) (hfa : a.fits) (hfb : b.fits) (hfc : c.fits) (hab : a.under b = false) (hra : a.right = false) (w : World) (hg : ErrT w) :
    Calls Tryd.prog 5 #[.agg #[.int .i64 a.l, .int .u64 a.c, .int .i64 a.i], .agg #[.int .i64 b.l, .int .u64 b.c, .int .i64 b.i], .agg #[.int .i64 c.l, .int .u64 c.c, .int .i64 c.i]] w fun e w' => e = .returned (.bool true) ∧ Below w.heap.size w w' := by
  have _hu := And.intro hfa (And.intro hfb (hfc))
  clear _hu
  have AA := Lib.hid (under_refl a hfa)
  have AB := Lib.hid hab
  have RA := Lib.hid hra
  clear hab hra
  obtain ⟨hB, hg1, a0, a1, a2, b0, b1, b2, c0, c1, c2⟩ := three_at w a b c hg
  have hM := labsAt_cons a0 a1 a2 (labsAt_cons b0 b1 b2 (labsAt_cons c0 c1 c2 (labsAt_nil hB hg1)))
  clear hg
  go_enter Tryd.func5, Tryd.ntmps5
  go_wp2_with fail
  refine (shown_any _ hg1).mono ?_
  rintro e w1 ⟨he, hb⟩
  subst he
  replace a0 := cell_later hb a0
  replace a1 := cell_later hb a1
  replace a2 := cell_later hb a2
  replace b0 := cell_later hb b0
  replace b1 := cell_later hb b1
  replace b2 := cell_later hb b2
  replace c0 := cell_later hb c0
  replace c1 := cell_later hb c1
  replace c2 := cell_later hb c2
  replace hM := hM.later hb
  clear hb hB hg1
  go_wp2_with fail
  refine (Under_any a b hfa hfb _).mono ?_
  rintro e w2 ⟨he, hb⟩
  rw [AB.out] at he
  subst he
  replace hM := hM.later hb
  clear hb a0 a1 a2 b0 b1 b2 c0 c1 c2
  go_wp2_with fail
  refine wp_region_held_drew (S := LabsAt w [(w.heap.size, a), (w.heap.size + 1, b), (w.heap.size + 1 + 1, c)]) (by kernel_rfl) (hM.drew) (fun hS0 => ?_)
  clear hM
  refine wpAnyH_take (i := 0) (oi := { dst := some 13, op := Go.Op.move (Go.Operand.tmp 7), type := 4, pos := "law.go:48", after := #[], guard := none }) (v := ?_) rfl (by kernel_rfl) (by kernel_rfl) (by kernel_rfl) (fun _ _ _ h => h) (Or.inl ⟨by rfl, ?_⟩) hS0 ?_; rotate_left; (· (intro wq hSw; obtain ⟨a0, a1, a2, hq⟩ := labsAt_head hSw; obtain ⟨b0, b1, b2, hq2⟩ := labsAt_head hq; obtain ⟨c0, c1, c2, _⟩ := labsAt_head hq2; go_simp; try with_reducible rfl))
  try simp only [Act.put, List.setIfInBounds_toArray, List.set_cons_zero, List.set_cons_succ]
  refine wpAnyH_take (i := 1) (oi := { dst := some 14, op := Go.Op.move (Go.Operand.tmp 13), type := 4, pos := "law.go:48", after := #[{ on := 0, ground := Go.Ground.data }], guard := none }) (v := ?_) rfl (by kernel_rfl) (by kernel_rfl) (by kernel_rfl) (fun _ _ _ h => h) (Or.inl ⟨by rfl, ?_⟩) hS0 ?_; rotate_left; (· (intro wq hSw; obtain ⟨a0, a1, a2, hq⟩ := labsAt_head hSw; obtain ⟨b0, b1, b2, hq2⟩ := labsAt_head hq; obtain ⟨c0, c1, c2, _⟩ := labsAt_head hq2; go_simp; try with_reducible rfl))
  try simp only [Act.put, List.setIfInBounds_toArray, List.set_cons_zero, List.set_cons_succ]
  refine wpAnyH_take (i := 2) (oi := { dst := some 15, op := Go.Op.load 24 (Go.Operand.tmp 3), type := 24, pos := "law.go:48", after := #[{ on := 1, ground := Go.Ground.guard }], guard := some (1, true) }) (v := ?_) rfl (by kernel_rfl) (by kernel_rfl) (by kernel_rfl) (fun _ _ _ h => h) (Or.inl ⟨by rfl, ?_⟩) hS0 ?_; rotate_left; (· (intro wq hSw; obtain ⟨a0, a1, a2, hq⟩ := labsAt_head hSw; obtain ⟨b0, b1, b2, hq2⟩ := labsAt_head hq; obtain ⟨c0, c1, c2, _⟩ := labsAt_head hq2; go_simp; try with_reducible rfl))
  try simp only [Act.put, List.setIfInBounds_toArray, List.set_cons_zero, List.set_cons_succ]
  refine wpAnyH_take (i := 3) (oi := { dst := some 16, op := Go.Op.load 24 (Go.Operand.tmp 3), type := 24, pos := "law.go:48", after := #[{ on := 1, ground := Go.Ground.guard }], guard := some (1, true) }) (v := ?_) rfl (by kernel_rfl) (by kernel_rfl) (by kernel_rfl) (fun _ _ _ h => h) (Or.inl ⟨by rfl, ?_⟩) hS0 ?_; rotate_left; (· (intro wq hSw; obtain ⟨a0, a1, a2, hq⟩ := labsAt_head hSw; obtain ⟨b0, b1, b2, hq2⟩ := labsAt_head hq; obtain ⟨c0, c1, c2, _⟩ := labsAt_head hq2; go_simp; try with_reducible rfl))
  try simp only [Act.put, List.setIfInBounds_toArray, List.set_cons_zero, List.set_cons_succ]
  refine wpAnyH_take (i := 5) (oi := { dst := some 18, op := Go.Op.load 24 (Go.Operand.tmp 3), type := 24, pos := "law.go:48", after := #[{ on := 1, ground := Go.Ground.guard }], guard := some (1, true) }) (v := ?_) rfl (by kernel_rfl) (by kernel_rfl) (by kernel_rfl) (fun _ _ _ h => h) (Or.inl ⟨by rfl, ?_⟩) hS0 ?_; rotate_left; (· (intro wq hSw; obtain ⟨a0, a1, a2, hq⟩ := labsAt_head hSw; obtain ⟨b0, b1, b2, hq2⟩ := labsAt_head hq; obtain ⟨c0, c1, c2, _⟩ := labsAt_head hq2; go_simp; try with_reducible rfl))
  try simp only [Act.put, List.setIfInBounds_toArray, List.set_cons_zero, List.set_cons_succ]
  refine wpAnyH_ready (rs := [4]) (by kernel_rfl) (by simp) ?_
  refine AllReadyH.cons (o := { dst := some 17, op := Go.Op.call { callee := Go.Callee.value (Go.Operand.func 18), args := #[Go.Operand.tmp 15, Go.Operand.tmp 16], argTypes := #[24, 24] }, type := 4, pos := "law.go:48", after := #[{ on := 2, ground := Go.Ground.data }, { on := 3, ground := Go.Ground.data }, { on := 1, ground := Go.Ground.chain }, { on := 1, ground := Go.Ground.guard }], guard := some (1, true) }) rfl (fun K hK => ?_) AllReadyH.nil
  go_simp
  refine (Under_any a a hfa hfa _).mono ?_
  rintro e w3 ⟨he, hb⟩
  rw [AA.out, RA.out] at he
  subst he
  refine hK.out _ _ (LabsAt.later hS0 hb) (fun hS1 => ?_)
  clear hK K hS0 hb
  try simp only [Act.put, List.setIfInBounds_toArray, List.set_cons_zero, List.set_cons_succ]
  refine wpAnyH_ready (rs := [6]) (by kernel_rfl) (by simp) ?_
  refine AllReadyH.cons (o := { dst := some 19, op := Go.Op.call { callee := Go.Callee.value (Go.Operand.func 16), args := #[Go.Operand.tmp 18], argTypes := #[24] }, type := 4, pos := "law.go:48", after := #[{ on := 5, ground := Go.Ground.data }, { on := 4, ground := Go.Ground.chain }, { on := 1, ground := Go.Ground.guard }], guard := some (1, true) }) rfl (fun K hK => ?_) AllReadyH.nil
  go_simp
  refine (right_any a hfa _).mono ?_
  rintro e w4 ⟨he, hb⟩
  rw [RA.out] at he
  subst he
  refine hK.out _ _ (LabsAt.later hS1 hb) (fun hS2 => ?_)
  clear hK K hS1 hb
  try simp only [Act.put, List.setIfInBounds_toArray, List.set_cons_zero, List.set_cons_succ]
  refine wpAnyH_take (i := 7) (oi := { dst := some 20, op := Go.Op.binOp Go.BinOp.eql 4 (Go.Operand.tmp 17) (Go.Operand.tmp 19) 4, type := 4, pos := "law.go:48", after := #[{ on := 4, ground := Go.Ground.data }, { on := 6, ground := Go.Ground.data }, { on := 1, ground := Go.Ground.guard }], guard := some (1, true) }) (v := ?_) rfl (by kernel_rfl) (by kernel_rfl) (by kernel_rfl) (fun _ _ _ h => h) (Or.inl ⟨by rfl, ?_⟩) hS2 ?_; rotate_left; (· (intro wq hSw; obtain ⟨a0, a1, a2, hq⟩ := labsAt_head hSw; obtain ⟨b0, b1, b2, hq2⟩ := labsAt_head hq; obtain ⟨c0, c1, c2, _⟩ := labsAt_head hq2; go_simp; try with_reducible rfl))
  try simp only [Act.put, List.setIfInBounds_toArray, List.set_cons_zero, List.set_cons_succ]
  refine wpAnyH_take (i := 8) (oi := { dst := some 21, op := Go.Op.pick (Go.Operand.tmp 14) (Go.Operand.tmp 20) (Go.Operand.const (Go.Value.bool false)), type := 4, pos := "law.go:48", after := #[{ on := 1, ground := Go.Ground.data }, { on := 7, ground := Go.Ground.data }], guard := none }) (v := ?_) rfl (by kernel_rfl) (by kernel_rfl) (by kernel_rfl) (fun _ _ _ h => h) (Or.inl ⟨by rfl, ?_⟩) hS2 ?_; rotate_left; (· (intro wq hSw; obtain ⟨a0, a1, a2, hq⟩ := labsAt_head hSw; obtain ⟨b0, b1, b2, hq2⟩ := labsAt_head hq; obtain ⟨c0, c1, c2, _⟩ := labsAt_head hq2; go_simp; try with_reducible rfl))
  try simp only [Act.put, List.setIfInBounds_toArray, List.set_cons_zero, List.set_cons_succ]
  refine wpAnyH_take (i := 9) (oi := { dst := some 22, op := Go.Op.move (Go.Operand.tmp 21), type := 4, pos := "law.go:48", after := #[{ on := 8, ground := Go.Ground.data }, { on := 6, ground := Go.Ground.chain }], guard := none }) (v := ?_) rfl (by kernel_rfl) (by kernel_rfl) (by kernel_rfl) (fun _ _ _ h => h) (Or.inl ⟨by rfl, ?_⟩) hS2 ?_; rotate_left; (· (intro wq hSw; obtain ⟨a0, a1, a2, hq⟩ := labsAt_head hSw; obtain ⟨b0, b1, b2, hq2⟩ := labsAt_head hq; obtain ⟨c0, c1, c2, _⟩ := labsAt_head hq2; go_simp; try with_reducible rfl))
  try simp only [Act.put, List.setIfInBounds_toArray, List.set_cons_zero, List.set_cons_succ]
  refine wpAnyH_take (i := 10) (oi := { dst := some 23, op := Go.Op.move (Go.Operand.tmp 8), type := 4, pos := "law.go:48", after := #[{ on := 9, ground := Go.Ground.guard }], guard := some (9, true) }) (v := ?_) rfl (by kernel_rfl) (by kernel_rfl) (by kernel_rfl) (fun _ _ _ h => h) (Or.inl ⟨by rfl, ?_⟩) hS2 ?_; rotate_left; (· (intro wq hSw; obtain ⟨a0, a1, a2, hq⟩ := labsAt_head hSw; obtain ⟨b0, b1, b2, hq2⟩ := labsAt_head hq; obtain ⟨c0, c1, c2, _⟩ := labsAt_head hq2; go_simp; try with_reducible rfl))
  try simp only [Act.put, List.setIfInBounds_toArray, List.set_cons_zero, List.set_cons_succ]
  refine wpAnyH_take (i := 11) (oi := { dst := some 24, op := Go.Op.unOp Go.UnOp.not 4 (Go.Operand.tmp 23), type := 4, pos := "law.go:48", after := #[{ on := 10, ground := Go.Ground.data }, { on := 9, ground := Go.Ground.guard }], guard := some (9, true) }) (v := ?_) rfl (by kernel_rfl) (by kernel_rfl) (by kernel_rfl) (fun _ _ _ h => h) (Or.inl ⟨by rfl, ?_⟩) hS2 ?_; rotate_left; (· (intro wq hSw; obtain ⟨a0, a1, a2, hq⟩ := labsAt_head hSw; obtain ⟨b0, b1, b2, hq2⟩ := labsAt_head hq; obtain ⟨c0, c1, c2, _⟩ := labsAt_head hq2; go_simp; try with_reducible rfl))
  try simp only [Act.put, List.setIfInBounds_toArray, List.set_cons_zero, List.set_cons_succ]
  refine wpAnyH_take (i := 12) (oi := { dst := some 25, op := Go.Op.move (Go.Operand.tmp 24), type := 4, pos := "law.go:48", after := #[{ on := 11, ground := Go.Ground.data }, { on := 9, ground := Go.Ground.chain }, { on := 9, ground := Go.Ground.guard }], guard := some (9, true) }) (v := ?_) rfl (by kernel_rfl) (by kernel_rfl) (by kernel_rfl) (fun _ _ _ h => h) (Or.inl ⟨by rfl, ?_⟩) hS2 ?_; rotate_left; (· (intro wq hSw; obtain ⟨a0, a1, a2, hq⟩ := labsAt_head hSw; obtain ⟨b0, b1, b2, hq2⟩ := labsAt_head hq; obtain ⟨c0, c1, c2, _⟩ := labsAt_head hq2; go_simp; try with_reducible rfl))
  try simp only [Act.put, List.setIfInBounds_toArray, List.set_cons_zero, List.set_cons_succ]
  refine wpAnyH_take (i := 13) (oi := { dst := some 26, op := Go.Op.load 24 (Go.Operand.tmp 4), type := 24, pos := "law.go:48", after := #[{ on := 12, ground := Go.Ground.guard }], guard := some (12, false) }) (v := undef) rfl (by kernel_rfl) (by kernel_rfl) (by kernel_rfl) (fun _ _ _ h => h) (Or.inr ⟨by rfl, rfl⟩) hS2 ?_
  try simp only [Act.put, List.setIfInBounds_toArray, List.set_cons_zero, List.set_cons_succ]
  refine wpAnyH_take (i := 14) (oi := { dst := some 27, op := Go.Op.load 24 (Go.Operand.tmp 3), type := 24, pos := "law.go:48", after := #[{ on := 12, ground := Go.Ground.guard }], guard := some (12, false) }) (v := undef) rfl (by kernel_rfl) (by kernel_rfl) (by kernel_rfl) (fun _ _ _ h => h) (Or.inr ⟨by rfl, rfl⟩) hS2 ?_
  try simp only [Act.put, List.setIfInBounds_toArray, List.set_cons_zero, List.set_cons_succ]
  refine wpAnyH_ready (rs := [15]) (by kernel_rfl) (by simp) ?_
  refine AllReadyH.cons (o := { dst := some 28, op := Go.Op.call { callee := Go.Callee.value (Go.Operand.func 18), args := #[Go.Operand.tmp 26, Go.Operand.tmp 27], argTypes := #[24, 24] }, type := 4, pos := "law.go:48", after := #[{ on := 13, ground := Go.Ground.data }, { on := 14, ground := Go.Ground.data }, { on := 12, ground := Go.Ground.chain }, { on := 12, ground := Go.Ground.guard }], guard := some (12, false) }) rfl (fun K hK => ?_) AllReadyH.nil
  rw [if_neg (by intro h; cases h)]
  refine hK.out _ _ hS2 (fun hS3 => ?_)
  clear hK K hS2
  try simp only [Act.put, List.setIfInBounds_toArray, List.set_cons_zero, List.set_cons_succ]
  refine wpAnyH_take (i := 16) (oi := { dst := some 29, op := Go.Op.unOp Go.UnOp.not 4 (Go.Operand.tmp 28), type := 4, pos := "law.go:48", after := #[{ on := 15, ground := Go.Ground.data }, { on := 12, ground := Go.Ground.guard }], guard := some (12, false) }) (v := undef) rfl (by kernel_rfl) (by kernel_rfl) (by kernel_rfl) (fun _ _ _ h => h) (Or.inr ⟨by rfl, rfl⟩) hS3 ?_
  try simp only [Act.put, List.setIfInBounds_toArray, List.set_cons_zero, List.set_cons_succ]
  refine wpAnyH_take (i := 17) (oi := { dst := some 30, op := Go.Op.pick (Go.Operand.tmp 25) (Go.Operand.const (Go.Value.bool true)) (Go.Operand.tmp 29), type := 4, pos := "law.go:48", after := #[{ on := 12, ground := Go.Ground.data }, { on := 16, ground := Go.Ground.data }, { on := 9, ground := Go.Ground.guard }], guard := some (9, true) }) (v := ?_) rfl (by kernel_rfl) (by kernel_rfl) (by kernel_rfl) (fun _ _ _ h => h) (Or.inl ⟨by rfl, ?_⟩) hS3 ?_; rotate_left; (· (intro wq hSw; obtain ⟨a0, a1, a2, hq⟩ := labsAt_head hSw; obtain ⟨b0, b1, b2, hq2⟩ := labsAt_head hq; obtain ⟨c0, c1, c2, _⟩ := labsAt_head hq2; go_simp; try with_reducible rfl))
  try simp only [Act.put, List.setIfInBounds_toArray, List.set_cons_zero, List.set_cons_succ]
  refine wpAnyH_take (i := 18) (oi := { dst := some 31, op := Go.Op.move (Go.Operand.tmp 30), type := 4, pos := "law.go:48", after := #[{ on := 17, ground := Go.Ground.data }, { on := 15, ground := Go.Ground.chain }, { on := 9, ground := Go.Ground.guard }], guard := some (9, true) }) (v := ?_) rfl (by kernel_rfl) (by kernel_rfl) (by kernel_rfl) (fun _ _ _ h => h) (Or.inl ⟨by rfl, ?_⟩) hS3 ?_; rotate_left; (· (intro wq hSw; obtain ⟨a0, a1, a2, hq⟩ := labsAt_head hSw; obtain ⟨b0, b1, b2, hq2⟩ := labsAt_head hq; obtain ⟨c0, c1, c2, _⟩ := labsAt_head hq2; go_simp; try with_reducible rfl))
  try simp only [Act.put, List.setIfInBounds_toArray, List.set_cons_zero, List.set_cons_succ]
  refine wpAnyH_take (i := 19) (oi := { dst := some 32, op := Go.Op.load 24 (Go.Operand.tmp 3), type := 24, pos := "law.go:48", after := #[{ on := 18, ground := Go.Ground.guard }], guard := some (18, false) }) (v := undef) rfl (by kernel_rfl) (by kernel_rfl) (by kernel_rfl) (fun _ _ _ h => h) (Or.inr ⟨by rfl, rfl⟩) hS3 ?_
  try simp only [Act.put, List.setIfInBounds_toArray, List.set_cons_zero, List.set_cons_succ]
  refine wpAnyH_take (i := 20) (oi := { dst := some 33, op := Go.Op.load 24 (Go.Operand.tmp 4), type := 24, pos := "law.go:48", after := #[{ on := 18, ground := Go.Ground.guard }], guard := some (18, false) }) (v := undef) rfl (by kernel_rfl) (by kernel_rfl) (by kernel_rfl) (fun _ _ _ h => h) (Or.inr ⟨by rfl, rfl⟩) hS3 ?_
  try simp only [Act.put, List.setIfInBounds_toArray, List.set_cons_zero, List.set_cons_succ]
  refine wpAnyH_take (i := 21) (oi := { dst := some 34, op := Go.Op.binOp Go.BinOp.eql 24 (Go.Operand.tmp 32) (Go.Operand.tmp 33) 24, type := 4, pos := "law.go:48", after := #[{ on := 19, ground := Go.Ground.data }, { on := 20, ground := Go.Ground.data }, { on := 18, ground := Go.Ground.guard }], guard := some (18, false) }) (v := undef) rfl (by kernel_rfl) (by kernel_rfl) (by kernel_rfl) (fun _ _ _ h => h) (Or.inr ⟨by rfl, rfl⟩) hS3 ?_
  try simp only [Act.put, List.setIfInBounds_toArray, List.set_cons_zero, List.set_cons_succ]
  refine wpAnyH_take (i := 22) (oi := { dst := some 35, op := Go.Op.pick (Go.Operand.tmp 31) (Go.Operand.const (Go.Value.bool true)) (Go.Operand.tmp 34), type := 4, pos := "law.go:48", after := #[{ on := 18, ground := Go.Ground.data }, { on := 21, ground := Go.Ground.data }, { on := 9, ground := Go.Ground.guard }], guard := some (9, true) }) (v := ?_) rfl (by kernel_rfl) (by kernel_rfl) (by kernel_rfl) (fun _ _ _ h => h) (Or.inl ⟨by rfl, ?_⟩) hS3 ?_; rotate_left; (· (intro wq hSw; obtain ⟨a0, a1, a2, hq⟩ := labsAt_head hSw; obtain ⟨b0, b1, b2, hq2⟩ := labsAt_head hq; obtain ⟨c0, c1, c2, _⟩ := labsAt_head hq2; go_simp; try with_reducible rfl))
  try simp only [Act.put, List.setIfInBounds_toArray, List.set_cons_zero, List.set_cons_succ]
  refine wpAnyH_take (i := 23) (oi := { dst := some 36, op := Go.Op.pick (Go.Operand.tmp 22) (Go.Operand.tmp 35) (Go.Operand.const (Go.Value.bool false)), type := 4, pos := "law.go:48", after := #[{ on := 9, ground := Go.Ground.data }, { on := 22, ground := Go.Ground.data }], guard := none }) (v := ?_) rfl (by kernel_rfl) (by kernel_rfl) (by kernel_rfl) (fun _ _ _ h => h) (Or.inl ⟨by rfl, ?_⟩) hS3 ?_; rotate_left; (· (intro wq hSw; obtain ⟨a0, a1, a2, hq⟩ := labsAt_head hSw; obtain ⟨b0, b1, b2, hq2⟩ := labsAt_head hq; obtain ⟨c0, c1, c2, _⟩ := labsAt_head hq2; go_simp; try with_reducible rfl))
  try simp only [Act.put, List.setIfInBounds_toArray, List.set_cons_zero, List.set_cons_succ]
  refine wpAnyH_take (i := 24) (oi := { dst := some 37, op := Go.Op.move (Go.Operand.tmp 36), type := 4, pos := "law.go:48", after := #[{ on := 23, ground := Go.Ground.data }, { on := 18, ground := Go.Ground.chain }], guard := none }) (v := ?_) rfl (by kernel_rfl) (by kernel_rfl) (by kernel_rfl) (fun _ _ _ h => h) (Or.inl ⟨by rfl, ?_⟩) hS3 ?_; rotate_left; (· (intro wq hSw; obtain ⟨a0, a1, a2, hq⟩ := labsAt_head hSw; obtain ⟨b0, b1, b2, hq2⟩ := labsAt_head hq; obtain ⟨c0, c1, c2, _⟩ := labsAt_head hq2; go_simp; try with_reducible rfl))
  try simp only [Act.put, List.setIfInBounds_toArray, List.set_cons_zero, List.set_cons_succ]
  refine wpAnyH_take (i := 25) (oi := { dst := some 38, op := Go.Op.move (Go.Operand.tmp 8), type := 4, pos := "law.go:48", after := #[{ on := 24, ground := Go.Ground.guard }], guard := some (24, true) }) (v := ?_) rfl (by kernel_rfl) (by kernel_rfl) (by kernel_rfl) (fun _ _ _ h => h) (Or.inl ⟨by rfl, ?_⟩) hS3 ?_; rotate_left; (· (intro wq hSw; obtain ⟨a0, a1, a2, hq⟩ := labsAt_head hSw; obtain ⟨b0, b1, b2, hq2⟩ := labsAt_head hq; obtain ⟨c0, c1, c2, _⟩ := labsAt_head hq2; go_simp; try with_reducible rfl))
  try simp only [Act.put, List.setIfInBounds_toArray, List.set_cons_zero, List.set_cons_succ]
  refine wpAnyH_take (i := 26) (oi := { dst := some 39, op := Go.Op.unOp Go.UnOp.not 4 (Go.Operand.tmp 38), type := 4, pos := "law.go:48", after := #[{ on := 25, ground := Go.Ground.data }, { on := 24, ground := Go.Ground.guard }], guard := some (24, true) }) (v := ?_) rfl (by kernel_rfl) (by kernel_rfl) (by kernel_rfl) (fun _ _ _ h => h) (Or.inl ⟨by rfl, ?_⟩) hS3 ?_; rotate_left; (· (intro wq hSw; obtain ⟨a0, a1, a2, hq⟩ := labsAt_head hSw; obtain ⟨b0, b1, b2, hq2⟩ := labsAt_head hq; obtain ⟨c0, c1, c2, _⟩ := labsAt_head hq2; go_simp; try with_reducible rfl))
  try simp only [Act.put, List.setIfInBounds_toArray, List.set_cons_zero, List.set_cons_succ]
  refine wpAnyH_take (i := 27) (oi := { dst := some 40, op := Go.Op.move (Go.Operand.tmp 39), type := 4, pos := "law.go:48", after := #[{ on := 26, ground := Go.Ground.data }, { on := 24, ground := Go.Ground.chain }, { on := 24, ground := Go.Ground.guard }], guard := some (24, true) }) (v := ?_) rfl (by kernel_rfl) (by kernel_rfl) (by kernel_rfl) (fun _ _ _ h => h) (Or.inl ⟨by rfl, ?_⟩) hS3 ?_; rotate_left; (· (intro wq hSw; obtain ⟨a0, a1, a2, hq⟩ := labsAt_head hSw; obtain ⟨b0, b1, b2, hq2⟩ := labsAt_head hq; obtain ⟨c0, c1, c2, _⟩ := labsAt_head hq2; go_simp; try with_reducible rfl))
  try simp only [Act.put, List.setIfInBounds_toArray, List.set_cons_zero, List.set_cons_succ]
  refine wpAnyH_take (i := 28) (oi := { dst := some 41, op := Go.Op.load 24 (Go.Operand.tmp 4), type := 24, pos := "law.go:48", after := #[{ on := 27, ground := Go.Ground.guard }], guard := some (27, false) }) (v := undef) rfl (by kernel_rfl) (by kernel_rfl) (by kernel_rfl) (fun _ _ _ h => h) (Or.inr ⟨by rfl, rfl⟩) hS3 ?_
  try simp only [Act.put, List.setIfInBounds_toArray, List.set_cons_zero, List.set_cons_succ]
  refine wpAnyH_take (i := 29) (oi := { dst := some 42, op := Go.Op.load 24 (Go.Operand.tmp 5), type := 24, pos := "law.go:48", after := #[{ on := 27, ground := Go.Ground.guard }], guard := some (27, false) }) (v := undef) rfl (by kernel_rfl) (by kernel_rfl) (by kernel_rfl) (fun _ _ _ h => h) (Or.inr ⟨by rfl, rfl⟩) hS3 ?_
  try simp only [Act.put, List.setIfInBounds_toArray, List.set_cons_zero, List.set_cons_succ]
  refine wpAnyH_ready (rs := [30]) (by kernel_rfl) (by simp) ?_
  refine AllReadyH.cons (o := { dst := some 43, op := Go.Op.call { callee := Go.Callee.value (Go.Operand.func 18), args := #[Go.Operand.tmp 41, Go.Operand.tmp 42], argTypes := #[24, 24] }, type := 4, pos := "law.go:48", after := #[{ on := 28, ground := Go.Ground.data }, { on := 29, ground := Go.Ground.data }, { on := 27, ground := Go.Ground.chain }, { on := 27, ground := Go.Ground.guard }], guard := some (27, false) }) rfl (fun K hK => ?_) AllReadyH.nil
  rw [if_neg (by intro h; cases h)]
  refine hK.out _ _ hS3 (fun hS4 => ?_)
  clear hK K hS3
  try simp only [Act.put, List.setIfInBounds_toArray, List.set_cons_zero, List.set_cons_succ]
  refine wpAnyH_take (i := 31) (oi := { dst := some 44, op := Go.Op.unOp Go.UnOp.not 4 (Go.Operand.tmp 43), type := 4, pos := "law.go:48", after := #[{ on := 30, ground := Go.Ground.data }, { on := 27, ground := Go.Ground.guard }], guard := some (27, false) }) (v := undef) rfl (by kernel_rfl) (by kernel_rfl) (by kernel_rfl) (fun _ _ _ h => h) (Or.inr ⟨by rfl, rfl⟩) hS4 ?_
  try simp only [Act.put, List.setIfInBounds_toArray, List.set_cons_zero, List.set_cons_succ]
  refine wpAnyH_take (i := 32) (oi := { dst := some 45, op := Go.Op.pick (Go.Operand.tmp 40) (Go.Operand.const (Go.Value.bool true)) (Go.Operand.tmp 44), type := 4, pos := "law.go:48", after := #[{ on := 27, ground := Go.Ground.data }, { on := 31, ground := Go.Ground.data }, { on := 24, ground := Go.Ground.guard }], guard := some (24, true) }) (v := ?_) rfl (by kernel_rfl) (by kernel_rfl) (by kernel_rfl) (fun _ _ _ h => h) (Or.inl ⟨by rfl, ?_⟩) hS4 ?_; rotate_left; (· (intro wq hSw; obtain ⟨a0, a1, a2, hq⟩ := labsAt_head hSw; obtain ⟨b0, b1, b2, hq2⟩ := labsAt_head hq; obtain ⟨c0, c1, c2, _⟩ := labsAt_head hq2; go_simp; try with_reducible rfl))
  try simp only [Act.put, List.setIfInBounds_toArray, List.set_cons_zero, List.set_cons_succ]
  refine wpAnyH_take (i := 33) (oi := { dst := some 46, op := Go.Op.move (Go.Operand.tmp 45), type := 4, pos := "law.go:48", after := #[{ on := 32, ground := Go.Ground.data }, { on := 30, ground := Go.Ground.chain }, { on := 24, ground := Go.Ground.guard }], guard := some (24, true) }) (v := ?_) rfl (by kernel_rfl) (by kernel_rfl) (by kernel_rfl) (fun _ _ _ h => h) (Or.inl ⟨by rfl, ?_⟩) hS4 ?_; rotate_left; (· (intro wq hSw; obtain ⟨a0, a1, a2, hq⟩ := labsAt_head hSw; obtain ⟨b0, b1, b2, hq2⟩ := labsAt_head hq; obtain ⟨c0, c1, c2, _⟩ := labsAt_head hq2; go_simp; try with_reducible rfl))
  try simp only [Act.put, List.setIfInBounds_toArray, List.set_cons_zero, List.set_cons_succ]
  refine wpAnyH_take (i := 34) (oi := { dst := some 47, op := Go.Op.load 24 (Go.Operand.tmp 3), type := 24, pos := "law.go:48", after := #[{ on := 33, ground := Go.Ground.guard }], guard := some (33, false) }) (v := undef) rfl (by kernel_rfl) (by kernel_rfl) (by kernel_rfl) (fun _ _ _ h => h) (Or.inr ⟨by rfl, rfl⟩) hS4 ?_
  try simp only [Act.put, List.setIfInBounds_toArray, List.set_cons_zero, List.set_cons_succ]
  refine wpAnyH_take (i := 35) (oi := { dst := some 48, op := Go.Op.load 24 (Go.Operand.tmp 5), type := 24, pos := "law.go:48", after := #[{ on := 33, ground := Go.Ground.guard }], guard := some (33, false) }) (v := undef) rfl (by kernel_rfl) (by kernel_rfl) (by kernel_rfl) (fun _ _ _ h => h) (Or.inr ⟨by rfl, rfl⟩) hS4 ?_
  try simp only [Act.put, List.setIfInBounds_toArray, List.set_cons_zero, List.set_cons_succ]
  refine wpAnyH_ready (rs := [36]) (by kernel_rfl) (by simp) ?_
  refine AllReadyH.cons (o := { dst := some 49, op := Go.Op.call { callee := Go.Callee.value (Go.Operand.func 18), args := #[Go.Operand.tmp 47, Go.Operand.tmp 48], argTypes := #[24, 24] }, type := 4, pos := "law.go:48", after := #[{ on := 34, ground := Go.Ground.data }, { on := 35, ground := Go.Ground.data }, { on := 33, ground := Go.Ground.chain }, { on := 33, ground := Go.Ground.guard }], guard := some (33, false) }) rfl (fun K hK => ?_) AllReadyH.nil
  rw [if_neg (by intro h; cases h)]
  refine hK.out _ _ hS4 (fun hS5 => ?_)
  clear hK K hS4
  try simp only [Act.put, List.setIfInBounds_toArray, List.set_cons_zero, List.set_cons_succ]
  refine wpAnyH_take (i := 37) (oi := { dst := some 50, op := Go.Op.pick (Go.Operand.tmp 46) (Go.Operand.const (Go.Value.bool true)) (Go.Operand.tmp 49), type := 4, pos := "law.go:48", after := #[{ on := 33, ground := Go.Ground.data }, { on := 36, ground := Go.Ground.data }, { on := 24, ground := Go.Ground.guard }], guard := some (24, true) }) (v := ?_) rfl (by kernel_rfl) (by kernel_rfl) (by kernel_rfl) (fun _ _ _ h => h) (Or.inl ⟨by rfl, ?_⟩) hS5 ?_; rotate_left; (· (intro wq hSw; obtain ⟨a0, a1, a2, hq⟩ := labsAt_head hSw; obtain ⟨b0, b1, b2, hq2⟩ := labsAt_head hq; obtain ⟨c0, c1, c2, _⟩ := labsAt_head hq2; go_simp; try with_reducible rfl))
  try simp only [Act.put, List.setIfInBounds_toArray, List.set_cons_zero, List.set_cons_succ]
  refine wpAnyH_take (i := 38) (oi := { dst := some 51, op := Go.Op.pick (Go.Operand.tmp 37) (Go.Operand.tmp 50) (Go.Operand.const (Go.Value.bool false)), type := 4, pos := "law.go:48", after := #[{ on := 24, ground := Go.Ground.data }, { on := 37, ground := Go.Ground.data }], guard := none }) (v := ?_) rfl (by kernel_rfl) (by kernel_rfl) (by kernel_rfl) (fun _ _ _ h => h) (Or.inl ⟨by rfl, ?_⟩) hS5 ?_; rotate_left; (· (intro wq hSw; obtain ⟨a0, a1, a2, hq⟩ := labsAt_head hSw; obtain ⟨b0, b1, b2, hq2⟩ := labsAt_head hq; obtain ⟨c0, c1, c2, _⟩ := labsAt_head hq2; go_simp; try with_reducible rfl))
  try simp only [Act.put, List.setIfInBounds_toArray, List.set_cons_zero, List.set_cons_succ]
  refine wpAnyH_take (i := 39) (oi := { dst := some 52, op := Go.Op.move (Go.Operand.tmp 51), type := 4, pos := "law.go:48", after := #[{ on := 38, ground := Go.Ground.data }, { on := 36, ground := Go.Ground.chain }], guard := none }) (v := ?_) rfl (by kernel_rfl) (by kernel_rfl) (by kernel_rfl) (fun _ _ _ h => h) (Or.inl ⟨by rfl, ?_⟩) hS5 ?_; rotate_left; (· (intro wq hSw; obtain ⟨a0, a1, a2, hq⟩ := labsAt_head hSw; obtain ⟨b0, b1, b2, hq2⟩ := labsAt_head hq; obtain ⟨c0, c1, c2, _⟩ := labsAt_head hq2; go_simp; try with_reducible rfl))
  try simp only [Act.put, List.setIfInBounds_toArray, List.set_cons_zero, List.set_cons_succ]
  refine wpAnyH_take (i := 40) (oi := { dst := some 53, op := Go.Op.load 24 (Go.Operand.tmp 3), type := 24, pos := "law.go:48", after := #[{ on := 39, ground := Go.Ground.guard }], guard := some (39, true) }) (v := ?_) rfl (by kernel_rfl) (by kernel_rfl) (by kernel_rfl) (fun _ _ _ h => h) (Or.inl ⟨by rfl, ?_⟩) hS5 ?_; rotate_left; (· (intro wq hSw; obtain ⟨a0, a1, a2, hq⟩ := labsAt_head hSw; obtain ⟨b0, b1, b2, hq2⟩ := labsAt_head hq; obtain ⟨c0, c1, c2, _⟩ := labsAt_head hq2; go_simp; try with_reducible rfl))
  try simp only [Act.put, List.setIfInBounds_toArray, List.set_cons_zero, List.set_cons_succ]
  refine wpAnyH_ready (rs := [41]) (by kernel_rfl) (by simp) ?_
  refine AllReadyH.cons (o := { dst := some 54, op := Go.Op.call { callee := Go.Callee.value (Go.Operand.func 16), args := #[Go.Operand.tmp 53], argTypes := #[24] }, type := 4, pos := "law.go:48", after := #[{ on := 40, ground := Go.Ground.data }, { on := 39, ground := Go.Ground.chain }, { on := 39, ground := Go.Ground.guard }], guard := some (39, true) }) rfl (fun K hK => ?_) AllReadyH.nil
  go_simp
  refine (right_any a hfa _).mono ?_
  rintro e w5 ⟨he, hb⟩
  rw [RA.out] at he
  subst he
  refine hK.out _ _ (LabsAt.later hS5 hb) (fun hS6 => ?_)
  clear hK K hS5 hb
  try simp only [Act.put, List.setIfInBounds_toArray, List.set_cons_zero, List.set_cons_succ]
  refine wpAnyH_take (i := 42) (oi := { dst := some 55, op := Go.Op.unOp Go.UnOp.not 4 (Go.Operand.tmp 54), type := 4, pos := "law.go:48", after := #[{ on := 41, ground := Go.Ground.data }, { on := 39, ground := Go.Ground.guard }], guard := some (39, true) }) (v := ?_) rfl (by kernel_rfl) (by kernel_rfl) (by kernel_rfl) (fun _ _ _ h => h) (Or.inl ⟨by rfl, ?_⟩) hS6 ?_; rotate_left; (· (intro wq hSw; obtain ⟨a0, a1, a2, hq⟩ := labsAt_head hSw; obtain ⟨b0, b1, b2, hq2⟩ := labsAt_head hq; obtain ⟨c0, c1, c2, _⟩ := labsAt_head hq2; go_simp; try with_reducible rfl))
  try simp only [Act.put, List.setIfInBounds_toArray, List.set_cons_zero, List.set_cons_succ]
  refine wpAnyH_take (i := 43) (oi := { dst := some 56, op := Go.Op.move (Go.Operand.tmp 55), type := 4, pos := "law.go:48", after := #[{ on := 42, ground := Go.Ground.data }, { on := 41, ground := Go.Ground.chain }, { on := 39, ground := Go.Ground.guard }], guard := some (39, true) }) (v := ?_) rfl (by kernel_rfl) (by kernel_rfl) (by kernel_rfl) (fun _ _ _ h => h) (Or.inl ⟨by rfl, ?_⟩) hS6 ?_; rotate_left; (· (intro wq hSw; obtain ⟨a0, a1, a2, hq⟩ := labsAt_head hSw; obtain ⟨b0, b1, b2, hq2⟩ := labsAt_head hq; obtain ⟨c0, c1, c2, _⟩ := labsAt_head hq2; go_simp; try with_reducible rfl))
  try simp only [Act.put, List.setIfInBounds_toArray, List.set_cons_zero, List.set_cons_succ]
  refine wpAnyH_take (i := 45) (oi := { dst := some 58, op := Go.Op.load 24 (Go.Operand.tmp 3), type := 24, pos := "law.go:48", after := #[{ on := 43, ground := Go.Ground.guard }], guard := some (43, false) }) (v := undef) rfl (by kernel_rfl) (by kernel_rfl) (by kernel_rfl) (fun _ _ _ h => h) (Or.inr ⟨by rfl, rfl⟩) hS6 ?_
  try simp only [Act.put, List.setIfInBounds_toArray, List.set_cons_zero, List.set_cons_succ]
  refine wpAnyH_ready (rs := [44]) (by kernel_rfl) (by simp) ?_
  refine AllReadyH.cons (o := { dst := some 57, op := Go.Op.call { callee := Go.Callee.value (Go.Operand.func 22), args := #[], argTypes := #[] }, type := 24, pos := "law.go:48", after := #[{ on := 43, ground := Go.Ground.chain }, { on := 43, ground := Go.Ground.guard }], guard := some (43, false) }) rfl (fun K hK => ?_) AllReadyH.nil
  rw [if_neg (by intro h; cases h)]
  refine hK.out _ _ hS6 (fun hS7 => ?_)
  clear hK K hS6
  try simp only [Act.put, List.setIfInBounds_toArray, List.set_cons_zero, List.set_cons_succ]
  refine wpAnyH_ready (rs := [46]) (by kernel_rfl) (by simp) ?_
  refine AllReadyH.cons (o := { dst := some 59, op := Go.Op.call { callee := Go.Callee.value (Go.Operand.func 18), args := #[Go.Operand.tmp 57, Go.Operand.tmp 58], argTypes := #[24, 24] }, type := 4, pos := "law.go:48", after := #[{ on := 44, ground := Go.Ground.data }, { on := 45, ground := Go.Ground.data }, { on := 44, ground := Go.Ground.chain }, { on := 43, ground := Go.Ground.guard }], guard := some (43, false) }) rfl (fun K hK => ?_) AllReadyH.nil
  rw [if_neg (by intro h; cases h)]
  refine hK.out _ _ hS7 (fun hS8 => ?_)
  clear hK K hS7
  try simp only [Act.put, List.setIfInBounds_toArray, List.set_cons_zero, List.set_cons_succ]
  refine wpAnyH_take (i := 47) (oi := { dst := some 60, op := Go.Op.move (Go.Operand.tmp 59), type := 4, pos := "law.go:48", after := #[{ on := 46, ground := Go.Ground.data }, { on := 46, ground := Go.Ground.chain }, { on := 43, ground := Go.Ground.guard }], guard := some (43, false) }) (v := undef) rfl (by kernel_rfl) (by kernel_rfl) (by kernel_rfl) (fun _ _ _ h => h) (Or.inr ⟨by rfl, rfl⟩) hS8 ?_
  try simp only [Act.put, List.setIfInBounds_toArray, List.set_cons_zero, List.set_cons_succ]
  refine wpAnyH_take (i := 48) (oi := { dst := some 61, op := Go.Op.load 24 (Go.Operand.tmp 3), type := 24, pos := "law.go:48", after := #[{ on := 47, ground := Go.Ground.guard }], guard := some (47, true) }) (v := undef) rfl (by kernel_rfl) (by kernel_rfl) (by kernel_rfl) (fun _ _ _ h => h) (Or.inr ⟨by rfl, rfl⟩) hS8 ?_
  try simp only [Act.put, List.setIfInBounds_toArray, List.set_cons_zero, List.set_cons_succ]
  refine wpAnyH_ready (rs := [49]) (by kernel_rfl) (by simp) ?_
  refine AllReadyH.cons (o := { dst := some 62, op := Go.Op.call { callee := Go.Callee.value (Go.Operand.func 24), args := #[], argTypes := #[] }, type := 24, pos := "law.go:48", after := #[{ on := 47, ground := Go.Ground.chain }, { on := 47, ground := Go.Ground.guard }], guard := some (47, true) }) rfl (fun K hK => ?_) AllReadyH.nil
  rw [if_neg (by intro h; cases h)]
  refine hK.out _ _ hS8 (fun hS9 => ?_)
  clear hK K hS8
  try simp only [Act.put, List.setIfInBounds_toArray, List.set_cons_zero, List.set_cons_succ]
  refine wpAnyH_ready (rs := [50]) (by kernel_rfl) (by simp) ?_
  refine AllReadyH.cons (o := { dst := some 63, op := Go.Op.call { callee := Go.Callee.value (Go.Operand.func 18), args := #[Go.Operand.tmp 61, Go.Operand.tmp 62], argTypes := #[24, 24] }, type := 4, pos := "law.go:48", after := #[{ on := 48, ground := Go.Ground.data }, { on := 49, ground := Go.Ground.data }, { on := 49, ground := Go.Ground.chain }, { on := 47, ground := Go.Ground.guard }], guard := some (47, true) }) rfl (fun K hK => ?_) AllReadyH.nil
  rw [if_neg (by intro h; cases h)]
  refine hK.out _ _ hS9 (fun hS10 => ?_)
  clear hK K hS9
  try simp only [Act.put, List.setIfInBounds_toArray, List.set_cons_zero, List.set_cons_succ]
  refine wpAnyH_take (i := 51) (oi := { dst := some 64, op := Go.Op.pick (Go.Operand.tmp 60) (Go.Operand.tmp 63) (Go.Operand.const (Go.Value.bool false)), type := 4, pos := "law.go:48", after := #[{ on := 47, ground := Go.Ground.data }, { on := 50, ground := Go.Ground.data }, { on := 43, ground := Go.Ground.guard }], guard := some (43, false) }) (v := undef) rfl (by kernel_rfl) (by kernel_rfl) (by kernel_rfl) (fun _ _ _ h => h) (Or.inr ⟨by rfl, rfl⟩) hS10 ?_
  try simp only [Act.put, List.setIfInBounds_toArray, List.set_cons_zero, List.set_cons_succ]
  refine wpAnyH_take (i := 52) (oi := { dst := some 65, op := Go.Op.pick (Go.Operand.tmp 56) (Go.Operand.const (Go.Value.bool true)) (Go.Operand.tmp 64), type := 4, pos := "law.go:48", after := #[{ on := 43, ground := Go.Ground.data }, { on := 51, ground := Go.Ground.data }, { on := 39, ground := Go.Ground.guard }], guard := some (39, true) }) (v := ?_) rfl (by kernel_rfl) (by kernel_rfl) (by kernel_rfl) (fun _ _ _ h => h) (Or.inl ⟨by rfl, ?_⟩) hS10 ?_; rotate_left; (· (intro wq hSw; obtain ⟨a0, a1, a2, hq⟩ := labsAt_head hSw; obtain ⟨b0, b1, b2, hq2⟩ := labsAt_head hq; obtain ⟨c0, c1, c2, _⟩ := labsAt_head hq2; go_simp; try with_reducible rfl))
  try simp only [Act.put, List.setIfInBounds_toArray, List.set_cons_zero, List.set_cons_succ]
  refine wpAnyH_take (i := 53) (oi := { dst := some 66, op := Go.Op.pick (Go.Operand.tmp 52) (Go.Operand.tmp 65) (Go.Operand.const (Go.Value.bool false)), type := 4, pos := "law.go:48", after := #[{ on := 39, ground := Go.Ground.data }, { on := 52, ground := Go.Ground.data }], guard := none }) (v := ?_) rfl (by kernel_rfl) (by kernel_rfl) (by kernel_rfl) (fun _ _ _ h => h) (Or.inl ⟨by rfl, ?_⟩) hS10 ?_; rotate_left; (· (intro wq hSw; obtain ⟨a0, a1, a2, hq⟩ := labsAt_head hSw; obtain ⟨b0, b1, b2, hq2⟩ := labsAt_head hq; obtain ⟨c0, c1, c2, _⟩ := labsAt_head hq2; go_simp; try with_reducible rfl))
  try simp only [Act.put, List.setIfInBounds_toArray, List.set_cons_zero, List.set_cons_succ]
  refine wpAnyH_take (i := 54) (oi := { dst := some 6, op := Go.Op.assign (Go.Operand.tmp 66), type := 4, pos := "law.go:48", after := #[{ on := 53, ground := Go.Ground.data }, { on := 50, ground := Go.Ground.chain }, { on := 0, ground := Go.Ground.phase }, { on := 1, ground := Go.Ground.phase }, { on := 2, ground := Go.Ground.phase }, { on := 3, ground := Go.Ground.phase }, { on := 4, ground := Go.Ground.phase }, { on := 5, ground := Go.Ground.phase }, { on := 6, ground := Go.Ground.phase }, { on := 7, ground := Go.Ground.phase }, { on := 8, ground := Go.Ground.phase }, { on := 9, ground := Go.Ground.phase }, { on := 10, ground := Go.Ground.phase }, { on := 11, ground := Go.Ground.phase }, { on := 12, ground := Go.Ground.phase }, { on := 13, ground := Go.Ground.phase }, { on := 14, ground := Go.Ground.phase }, { on := 15, ground := Go.Ground.phase }, { on := 16, ground := Go.Ground.phase }, { on := 17, ground := Go.Ground.phase }, { on := 18, ground := Go.Ground.phase }, { on := 19, ground := Go.Ground.phase }, { on := 20, ground := Go.Ground.phase }, { on := 21, ground := Go.Ground.phase }, { on := 22, ground := Go.Ground.phase }, { on := 23, ground := Go.Ground.phase }, { on := 24, ground := Go.Ground.phase }, { on := 25, ground := Go.Ground.phase }, { on := 26, ground := Go.Ground.phase }, { on := 27, ground := Go.Ground.phase }, { on := 28, ground := Go.Ground.phase }, { on := 29, ground := Go.Ground.phase }, { on := 30, ground := Go.Ground.phase }, { on := 31, ground := Go.Ground.phase }, { on := 32, ground := Go.Ground.phase }, { on := 33, ground := Go.Ground.phase }, { on := 34, ground := Go.Ground.phase }, { on := 35, ground := Go.Ground.phase }, { on := 36, ground := Go.Ground.phase }, { on := 37, ground := Go.Ground.phase }, { on := 38, ground := Go.Ground.phase }, { on := 39, ground := Go.Ground.phase }, { on := 40, ground := Go.Ground.phase }, { on := 41, ground := Go.Ground.phase }, { on := 42, ground := Go.Ground.phase }, { on := 43, ground := Go.Ground.phase }, { on := 44, ground := Go.Ground.phase }, { on := 45, ground := Go.Ground.phase }, { on := 46, ground := Go.Ground.phase }, { on := 47, ground := Go.Ground.phase }, { on := 48, ground := Go.Ground.phase }, { on := 49, ground := Go.Ground.phase }, { on := 50, ground := Go.Ground.phase }, { on := 51, ground := Go.Ground.phase }, { on := 52, ground := Go.Ground.phase }, { on := 53, ground := Go.Ground.phase }], guard := none }) (v := ?_) rfl (by kernel_rfl) (by kernel_rfl) (by kernel_rfl) (fun _ _ _ h => h) (Or.inl ⟨by rfl, ?_⟩) hS10 ?_; rotate_left; (· (intro wq hSw; obtain ⟨a0, a1, a2, hq⟩ := labsAt_head hSw; obtain ⟨b0, b1, b2, hq2⟩ := labsAt_head hq; obtain ⟨c0, c1, c2, _⟩ := labsAt_head hq2; go_simp; try with_reducible rfl))
  try simp only [Act.put, List.setIfInBounds_toArray, List.set_cons_zero, List.set_cons_succ]
  refine wpAnyH_done (by kernel_rfl) ?_ _
  have hB := hS10.below
  clear hS10
  go_wp2
  go_ret
  exact ⟨rfl, hB⟩

set_option maxRecDepth 100000 in
set_option maxHeartbeats 4000000 in
theorem labelOrders_C (a b c : Lab) (hfa : a.fits) (hfb : b.fits) (hfc : c.fits) (hab : a.under b = true) (hba : b.under a = false) (hbc : b.under c = false) (w : World) (hg : ErrT w) :
    Calls Tryd.prog 5 #[.agg #[.int .i64 a.l, .int .u64 a.c, .int .i64 a.i], .agg #[.int .i64 b.l, .int .u64 b.c, .int .i64 b.i], .agg #[.int .i64 c.l, .int .u64 c.c, .int .i64 c.i]] w fun e w' => e = .returned (.bool true) ∧ Below w.heap.size w w' := by
  have _hu := And.intro hfa (And.intro hfb (hfc))
  clear _hu
  have hra : a.right = true := ((under_iff' hfa hfb).1 hab).1
  have AA := Lib.hid (under_refl a hfa)
  have AB := Lib.hid hab
  have RA := Lib.hid hra
  have BA := Lib.hid hba
  have BC := Lib.hid hbc
  clear hab hra hba hbc
  obtain ⟨hB, hg1, a0, a1, a2, b0, b1, b2, c0, c1, c2⟩ := three_at w a b c hg
  have hM := labsAt_cons a0 a1 a2 (labsAt_cons b0 b1 b2 (labsAt_cons c0 c1 c2 (labsAt_nil hB hg1)))
  clear hg
  go_enter Tryd.func5, Tryd.ntmps5
  go_wp2_with fail
  refine (shown_any _ hg1).mono ?_
  rintro e w1 ⟨he, hb⟩
  subst he
  replace a0 := cell_later hb a0
  replace a1 := cell_later hb a1
  replace a2 := cell_later hb a2
  replace b0 := cell_later hb b0
  replace b1 := cell_later hb b1
  replace b2 := cell_later hb b2
  replace c0 := cell_later hb c0
  replace c1 := cell_later hb c1
  replace c2 := cell_later hb c2
  replace hM := hM.later hb
  clear hb hB hg1
  go_wp2_with fail
  refine (Under_any a b hfa hfb _).mono ?_
  rintro e w2 ⟨he, hb⟩
  rw [AB.out] at he
  subst he
  replace hM := hM.later hb
  clear hb a0 a1 a2 b0 b1 b2 c0 c1 c2
  go_wp2_with fail
  refine wp_region_held_drew (S := LabsAt w [(w.heap.size, a), (w.heap.size + 1, b), (w.heap.size + 1 + 1, c)]) (by kernel_rfl) (hM.drew) (fun hS0 => ?_)
  clear hM
  refine wpAnyH_take (i := 0) (oi := { dst := some 13, op := Go.Op.move (Go.Operand.tmp 7), type := 4, pos := "law.go:48", after := #[], guard := none }) (v := ?_) rfl (by kernel_rfl) (by kernel_rfl) (by kernel_rfl) (fun _ _ _ h => h) (Or.inl ⟨by rfl, ?_⟩) hS0 ?_; rotate_left; (· (intro wq hSw; obtain ⟨a0, a1, a2, hq⟩ := labsAt_head hSw; obtain ⟨b0, b1, b2, hq2⟩ := labsAt_head hq; obtain ⟨c0, c1, c2, _⟩ := labsAt_head hq2; go_simp; try with_reducible rfl))
  try simp only [Act.put, List.setIfInBounds_toArray, List.set_cons_zero, List.set_cons_succ]
  refine wpAnyH_take (i := 1) (oi := { dst := some 14, op := Go.Op.move (Go.Operand.tmp 13), type := 4, pos := "law.go:48", after := #[{ on := 0, ground := Go.Ground.data }], guard := none }) (v := ?_) rfl (by kernel_rfl) (by kernel_rfl) (by kernel_rfl) (fun _ _ _ h => h) (Or.inl ⟨by rfl, ?_⟩) hS0 ?_; rotate_left; (· (intro wq hSw; obtain ⟨a0, a1, a2, hq⟩ := labsAt_head hSw; obtain ⟨b0, b1, b2, hq2⟩ := labsAt_head hq; obtain ⟨c0, c1, c2, _⟩ := labsAt_head hq2; go_simp; try with_reducible rfl))
  try simp only [Act.put, List.setIfInBounds_toArray, List.set_cons_zero, List.set_cons_succ]
  refine wpAnyH_take (i := 2) (oi := { dst := some 15, op := Go.Op.load 24 (Go.Operand.tmp 3), type := 24, pos := "law.go:48", after := #[{ on := 1, ground := Go.Ground.guard }], guard := some (1, true) }) (v := ?_) rfl (by kernel_rfl) (by kernel_rfl) (by kernel_rfl) (fun _ _ _ h => h) (Or.inl ⟨by rfl, ?_⟩) hS0 ?_; rotate_left; (· (intro wq hSw; obtain ⟨a0, a1, a2, hq⟩ := labsAt_head hSw; obtain ⟨b0, b1, b2, hq2⟩ := labsAt_head hq; obtain ⟨c0, c1, c2, _⟩ := labsAt_head hq2; go_simp; try with_reducible rfl))
  try simp only [Act.put, List.setIfInBounds_toArray, List.set_cons_zero, List.set_cons_succ]
  refine wpAnyH_take (i := 3) (oi := { dst := some 16, op := Go.Op.load 24 (Go.Operand.tmp 3), type := 24, pos := "law.go:48", after := #[{ on := 1, ground := Go.Ground.guard }], guard := some (1, true) }) (v := ?_) rfl (by kernel_rfl) (by kernel_rfl) (by kernel_rfl) (fun _ _ _ h => h) (Or.inl ⟨by rfl, ?_⟩) hS0 ?_; rotate_left; (· (intro wq hSw; obtain ⟨a0, a1, a2, hq⟩ := labsAt_head hSw; obtain ⟨b0, b1, b2, hq2⟩ := labsAt_head hq; obtain ⟨c0, c1, c2, _⟩ := labsAt_head hq2; go_simp; try with_reducible rfl))
  try simp only [Act.put, List.setIfInBounds_toArray, List.set_cons_zero, List.set_cons_succ]
  refine wpAnyH_take (i := 5) (oi := { dst := some 18, op := Go.Op.load 24 (Go.Operand.tmp 3), type := 24, pos := "law.go:48", after := #[{ on := 1, ground := Go.Ground.guard }], guard := some (1, true) }) (v := ?_) rfl (by kernel_rfl) (by kernel_rfl) (by kernel_rfl) (fun _ _ _ h => h) (Or.inl ⟨by rfl, ?_⟩) hS0 ?_; rotate_left; (· (intro wq hSw; obtain ⟨a0, a1, a2, hq⟩ := labsAt_head hSw; obtain ⟨b0, b1, b2, hq2⟩ := labsAt_head hq; obtain ⟨c0, c1, c2, _⟩ := labsAt_head hq2; go_simp; try with_reducible rfl))
  try simp only [Act.put, List.setIfInBounds_toArray, List.set_cons_zero, List.set_cons_succ]
  refine wpAnyH_ready (rs := [4]) (by kernel_rfl) (by simp) ?_
  refine AllReadyH.cons (o := { dst := some 17, op := Go.Op.call { callee := Go.Callee.value (Go.Operand.func 18), args := #[Go.Operand.tmp 15, Go.Operand.tmp 16], argTypes := #[24, 24] }, type := 4, pos := "law.go:48", after := #[{ on := 2, ground := Go.Ground.data }, { on := 3, ground := Go.Ground.data }, { on := 1, ground := Go.Ground.chain }, { on := 1, ground := Go.Ground.guard }], guard := some (1, true) }) rfl (fun K hK => ?_) AllReadyH.nil
  go_simp
  refine (Under_any a a hfa hfa _).mono ?_
  rintro e w3 ⟨he, hb⟩
  rw [AA.out, RA.out] at he
  subst he
  refine hK.out _ _ (LabsAt.later hS0 hb) (fun hS1 => ?_)
  clear hK K hS0 hb
  try simp only [Act.put, List.setIfInBounds_toArray, List.set_cons_zero, List.set_cons_succ]
  refine wpAnyH_ready (rs := [6]) (by kernel_rfl) (by simp) ?_
  refine AllReadyH.cons (o := { dst := some 19, op := Go.Op.call { callee := Go.Callee.value (Go.Operand.func 16), args := #[Go.Operand.tmp 18], argTypes := #[24] }, type := 4, pos := "law.go:48", after := #[{ on := 5, ground := Go.Ground.data }, { on := 4, ground := Go.Ground.chain }, { on := 1, ground := Go.Ground.guard }], guard := some (1, true) }) rfl (fun K hK => ?_) AllReadyH.nil
  go_simp
  refine (right_any a hfa _).mono ?_
  rintro e w4 ⟨he, hb⟩
  rw [RA.out] at he
  subst he
  refine hK.out _ _ (LabsAt.later hS1 hb) (fun hS2 => ?_)
  clear hK K hS1 hb
  try simp only [Act.put, List.setIfInBounds_toArray, List.set_cons_zero, List.set_cons_succ]
  refine wpAnyH_take (i := 7) (oi := { dst := some 20, op := Go.Op.binOp Go.BinOp.eql 4 (Go.Operand.tmp 17) (Go.Operand.tmp 19) 4, type := 4, pos := "law.go:48", after := #[{ on := 4, ground := Go.Ground.data }, { on := 6, ground := Go.Ground.data }, { on := 1, ground := Go.Ground.guard }], guard := some (1, true) }) (v := ?_) rfl (by kernel_rfl) (by kernel_rfl) (by kernel_rfl) (fun _ _ _ h => h) (Or.inl ⟨by rfl, ?_⟩) hS2 ?_; rotate_left; (· (intro wq hSw; obtain ⟨a0, a1, a2, hq⟩ := labsAt_head hSw; obtain ⟨b0, b1, b2, hq2⟩ := labsAt_head hq; obtain ⟨c0, c1, c2, _⟩ := labsAt_head hq2; go_simp; try with_reducible rfl))
  try simp only [Act.put, List.setIfInBounds_toArray, List.set_cons_zero, List.set_cons_succ]
  refine wpAnyH_take (i := 8) (oi := { dst := some 21, op := Go.Op.pick (Go.Operand.tmp 14) (Go.Operand.tmp 20) (Go.Operand.const (Go.Value.bool false)), type := 4, pos := "law.go:48", after := #[{ on := 1, ground := Go.Ground.data }, { on := 7, ground := Go.Ground.data }], guard := none }) (v := ?_) rfl (by kernel_rfl) (by kernel_rfl) (by kernel_rfl) (fun _ _ _ h => h) (Or.inl ⟨by rfl, ?_⟩) hS2 ?_; rotate_left; (· (intro wq hSw; obtain ⟨a0, a1, a2, hq⟩ := labsAt_head hSw; obtain ⟨b0, b1, b2, hq2⟩ := labsAt_head hq; obtain ⟨c0, c1, c2, _⟩ := labsAt_head hq2; go_simp; try with_reducible rfl))
  try simp only [Act.put, List.setIfInBounds_toArray, List.set_cons_zero, List.set_cons_succ]
  refine wpAnyH_take (i := 9) (oi := { dst := some 22, op := Go.Op.move (Go.Operand.tmp 21), type := 4, pos := "law.go:48", after := #[{ on := 8, ground := Go.Ground.data }, { on := 6, ground := Go.Ground.chain }], guard := none }) (v := ?_) rfl (by kernel_rfl) (by kernel_rfl) (by kernel_rfl) (fun _ _ _ h => h) (Or.inl ⟨by rfl, ?_⟩) hS2 ?_; rotate_left; (· (intro wq hSw; obtain ⟨a0, a1, a2, hq⟩ := labsAt_head hSw; obtain ⟨b0, b1, b2, hq2⟩ := labsAt_head hq; obtain ⟨c0, c1, c2, _⟩ := labsAt_head hq2; go_simp; try with_reducible rfl))
  try simp only [Act.put, List.setIfInBounds_toArray, List.set_cons_zero, List.set_cons_succ]
  refine wpAnyH_take (i := 10) (oi := { dst := some 23, op := Go.Op.move (Go.Operand.tmp 8), type := 4, pos := "law.go:48", after := #[{ on := 9, ground := Go.Ground.guard }], guard := some (9, true) }) (v := ?_) rfl (by kernel_rfl) (by kernel_rfl) (by kernel_rfl) (fun _ _ _ h => h) (Or.inl ⟨by rfl, ?_⟩) hS2 ?_; rotate_left; (· (intro wq hSw; obtain ⟨a0, a1, a2, hq⟩ := labsAt_head hSw; obtain ⟨b0, b1, b2, hq2⟩ := labsAt_head hq; obtain ⟨c0, c1, c2, _⟩ := labsAt_head hq2; go_simp; try with_reducible rfl))
  try simp only [Act.put, List.setIfInBounds_toArray, List.set_cons_zero, List.set_cons_succ]
  refine wpAnyH_take (i := 11) (oi := { dst := some 24, op := Go.Op.unOp Go.UnOp.not 4 (Go.Operand.tmp 23), type := 4, pos := "law.go:48", after := #[{ on := 10, ground := Go.Ground.data }, { on := 9, ground := Go.Ground.guard }], guard := some (9, true) }) (v := ?_) rfl (by kernel_rfl) (by kernel_rfl) (by kernel_rfl) (fun _ _ _ h => h) (Or.inl ⟨by rfl, ?_⟩) hS2 ?_; rotate_left; (· (intro wq hSw; obtain ⟨a0, a1, a2, hq⟩ := labsAt_head hSw; obtain ⟨b0, b1, b2, hq2⟩ := labsAt_head hq; obtain ⟨c0, c1, c2, _⟩ := labsAt_head hq2; go_simp; try with_reducible rfl))
  try simp only [Act.put, List.setIfInBounds_toArray, List.set_cons_zero, List.set_cons_succ]
  refine wpAnyH_take (i := 12) (oi := { dst := some 25, op := Go.Op.move (Go.Operand.tmp 24), type := 4, pos := "law.go:48", after := #[{ on := 11, ground := Go.Ground.data }, { on := 9, ground := Go.Ground.chain }, { on := 9, ground := Go.Ground.guard }], guard := some (9, true) }) (v := ?_) rfl (by kernel_rfl) (by kernel_rfl) (by kernel_rfl) (fun _ _ _ h => h) (Or.inl ⟨by rfl, ?_⟩) hS2 ?_; rotate_left; (· (intro wq hSw; obtain ⟨a0, a1, a2, hq⟩ := labsAt_head hSw; obtain ⟨b0, b1, b2, hq2⟩ := labsAt_head hq; obtain ⟨c0, c1, c2, _⟩ := labsAt_head hq2; go_simp; try with_reducible rfl))
  try simp only [Act.put, List.setIfInBounds_toArray, List.set_cons_zero, List.set_cons_succ]
  refine wpAnyH_take (i := 13) (oi := { dst := some 26, op := Go.Op.load 24 (Go.Operand.tmp 4), type := 24, pos := "law.go:48", after := #[{ on := 12, ground := Go.Ground.guard }], guard := some (12, false) }) (v := ?_) rfl (by kernel_rfl) (by kernel_rfl) (by kernel_rfl) (fun _ _ _ h => h) (Or.inl ⟨by rfl, ?_⟩) hS2 ?_; rotate_left; (· (intro wq hSw; obtain ⟨a0, a1, a2, hq⟩ := labsAt_head hSw; obtain ⟨b0, b1, b2, hq2⟩ := labsAt_head hq; obtain ⟨c0, c1, c2, _⟩ := labsAt_head hq2; go_simp; try with_reducible rfl))
  try simp only [Act.put, List.setIfInBounds_toArray, List.set_cons_zero, List.set_cons_succ]
  refine wpAnyH_take (i := 14) (oi := { dst := some 27, op := Go.Op.load 24 (Go.Operand.tmp 3), type := 24, pos := "law.go:48", after := #[{ on := 12, ground := Go.Ground.guard }], guard := some (12, false) }) (v := ?_) rfl (by kernel_rfl) (by kernel_rfl) (by kernel_rfl) (fun _ _ _ h => h) (Or.inl ⟨by rfl, ?_⟩) hS2 ?_; rotate_left; (· (intro wq hSw; obtain ⟨a0, a1, a2, hq⟩ := labsAt_head hSw; obtain ⟨b0, b1, b2, hq2⟩ := labsAt_head hq; obtain ⟨c0, c1, c2, _⟩ := labsAt_head hq2; go_simp; try with_reducible rfl))
  try simp only [Act.put, List.setIfInBounds_toArray, List.set_cons_zero, List.set_cons_succ]
  refine wpAnyH_ready (rs := [15]) (by kernel_rfl) (by simp) ?_
  refine AllReadyH.cons (o := { dst := some 28, op := Go.Op.call { callee := Go.Callee.value (Go.Operand.func 18), args := #[Go.Operand.tmp 26, Go.Operand.tmp 27], argTypes := #[24, 24] }, type := 4, pos := "law.go:48", after := #[{ on := 13, ground := Go.Ground.data }, { on := 14, ground := Go.Ground.data }, { on := 12, ground := Go.Ground.chain }, { on := 12, ground := Go.Ground.guard }], guard := some (12, false) }) rfl (fun K hK => ?_) AllReadyH.nil
  go_simp
  refine (Under_any b a hfb hfa _).mono ?_
  rintro e w5 ⟨he, hb⟩
  rw [BA.out] at he
  subst he
  refine hK.out _ _ (LabsAt.later hS2 hb) (fun hS3 => ?_)
  clear hK K hS2 hb
  try simp only [Act.put, List.setIfInBounds_toArray, List.set_cons_zero, List.set_cons_succ]
  refine wpAnyH_take (i := 16) (oi := { dst := some 29, op := Go.Op.unOp Go.UnOp.not 4 (Go.Operand.tmp 28), type := 4, pos := "law.go:48", after := #[{ on := 15, ground := Go.Ground.data }, { on := 12, ground := Go.Ground.guard }], guard := some (12, false) }) (v := ?_) rfl (by kernel_rfl) (by kernel_rfl) (by kernel_rfl) (fun _ _ _ h => h) (Or.inl ⟨by rfl, ?_⟩) hS3 ?_; rotate_left; (· (intro wq hSw; obtain ⟨a0, a1, a2, hq⟩ := labsAt_head hSw; obtain ⟨b0, b1, b2, hq2⟩ := labsAt_head hq; obtain ⟨c0, c1, c2, _⟩ := labsAt_head hq2; go_simp; try with_reducible rfl))
  try simp only [Act.put, List.setIfInBounds_toArray, List.set_cons_zero, List.set_cons_succ]
  refine wpAnyH_take (i := 17) (oi := { dst := some 30, op := Go.Op.pick (Go.Operand.tmp 25) (Go.Operand.const (Go.Value.bool true)) (Go.Operand.tmp 29), type := 4, pos := "law.go:48", after := #[{ on := 12, ground := Go.Ground.data }, { on := 16, ground := Go.Ground.data }, { on := 9, ground := Go.Ground.guard }], guard := some (9, true) }) (v := ?_) rfl (by kernel_rfl) (by kernel_rfl) (by kernel_rfl) (fun _ _ _ h => h) (Or.inl ⟨by rfl, ?_⟩) hS3 ?_; rotate_left; (· (intro wq hSw; obtain ⟨a0, a1, a2, hq⟩ := labsAt_head hSw; obtain ⟨b0, b1, b2, hq2⟩ := labsAt_head hq; obtain ⟨c0, c1, c2, _⟩ := labsAt_head hq2; go_simp; try with_reducible rfl))
  try simp only [Act.put, List.setIfInBounds_toArray, List.set_cons_zero, List.set_cons_succ]
  refine wpAnyH_take (i := 18) (oi := { dst := some 31, op := Go.Op.move (Go.Operand.tmp 30), type := 4, pos := "law.go:48", after := #[{ on := 17, ground := Go.Ground.data }, { on := 15, ground := Go.Ground.chain }, { on := 9, ground := Go.Ground.guard }], guard := some (9, true) }) (v := ?_) rfl (by kernel_rfl) (by kernel_rfl) (by kernel_rfl) (fun _ _ _ h => h) (Or.inl ⟨by rfl, ?_⟩) hS3 ?_; rotate_left; (· (intro wq hSw; obtain ⟨a0, a1, a2, hq⟩ := labsAt_head hSw; obtain ⟨b0, b1, b2, hq2⟩ := labsAt_head hq; obtain ⟨c0, c1, c2, _⟩ := labsAt_head hq2; go_simp; try with_reducible rfl))
  try simp only [Act.put, List.setIfInBounds_toArray, List.set_cons_zero, List.set_cons_succ]
  refine wpAnyH_take (i := 19) (oi := { dst := some 32, op := Go.Op.load 24 (Go.Operand.tmp 3), type := 24, pos := "law.go:48", after := #[{ on := 18, ground := Go.Ground.guard }], guard := some (18, false) }) (v := undef) rfl (by kernel_rfl) (by kernel_rfl) (by kernel_rfl) (fun _ _ _ h => h) (Or.inr ⟨by rfl, rfl⟩) hS3 ?_
  try simp only [Act.put, List.setIfInBounds_toArray, List.set_cons_zero, List.set_cons_succ]
  refine wpAnyH_take (i := 20) (oi := { dst := some 33, op := Go.Op.load 24 (Go.Operand.tmp 4), type := 24, pos := "law.go:48", after := #[{ on := 18, ground := Go.Ground.guard }], guard := some (18, false) }) (v := undef) rfl (by kernel_rfl) (by kernel_rfl) (by kernel_rfl) (fun _ _ _ h => h) (Or.inr ⟨by rfl, rfl⟩) hS3 ?_
  try simp only [Act.put, List.setIfInBounds_toArray, List.set_cons_zero, List.set_cons_succ]
  refine wpAnyH_take (i := 21) (oi := { dst := some 34, op := Go.Op.binOp Go.BinOp.eql 24 (Go.Operand.tmp 32) (Go.Operand.tmp 33) 24, type := 4, pos := "law.go:48", after := #[{ on := 19, ground := Go.Ground.data }, { on := 20, ground := Go.Ground.data }, { on := 18, ground := Go.Ground.guard }], guard := some (18, false) }) (v := undef) rfl (by kernel_rfl) (by kernel_rfl) (by kernel_rfl) (fun _ _ _ h => h) (Or.inr ⟨by rfl, rfl⟩) hS3 ?_
  try simp only [Act.put, List.setIfInBounds_toArray, List.set_cons_zero, List.set_cons_succ]
  refine wpAnyH_take (i := 22) (oi := { dst := some 35, op := Go.Op.pick (Go.Operand.tmp 31) (Go.Operand.const (Go.Value.bool true)) (Go.Operand.tmp 34), type := 4, pos := "law.go:48", after := #[{ on := 18, ground := Go.Ground.data }, { on := 21, ground := Go.Ground.data }, { on := 9, ground := Go.Ground.guard }], guard := some (9, true) }) (v := ?_) rfl (by kernel_rfl) (by kernel_rfl) (by kernel_rfl) (fun _ _ _ h => h) (Or.inl ⟨by rfl, ?_⟩) hS3 ?_; rotate_left; (· (intro wq hSw; obtain ⟨a0, a1, a2, hq⟩ := labsAt_head hSw; obtain ⟨b0, b1, b2, hq2⟩ := labsAt_head hq; obtain ⟨c0, c1, c2, _⟩ := labsAt_head hq2; go_simp; try with_reducible rfl))
  try simp only [Act.put, List.setIfInBounds_toArray, List.set_cons_zero, List.set_cons_succ]
  refine wpAnyH_take (i := 23) (oi := { dst := some 36, op := Go.Op.pick (Go.Operand.tmp 22) (Go.Operand.tmp 35) (Go.Operand.const (Go.Value.bool false)), type := 4, pos := "law.go:48", after := #[{ on := 9, ground := Go.Ground.data }, { on := 22, ground := Go.Ground.data }], guard := none }) (v := ?_) rfl (by kernel_rfl) (by kernel_rfl) (by kernel_rfl) (fun _ _ _ h => h) (Or.inl ⟨by rfl, ?_⟩) hS3 ?_; rotate_left; (· (intro wq hSw; obtain ⟨a0, a1, a2, hq⟩ := labsAt_head hSw; obtain ⟨b0, b1, b2, hq2⟩ := labsAt_head hq; obtain ⟨c0, c1, c2, _⟩ := labsAt_head hq2; go_simp; try with_reducible rfl))
  try simp only [Act.put, List.setIfInBounds_toArray, List.set_cons_zero, List.set_cons_succ]
  refine wpAnyH_take (i := 24) (oi := { dst := some 37, op := Go.Op.move (Go.Operand.tmp 36), type := 4, pos := "law.go:48", after := #[{ on := 23, ground := Go.Ground.data }, { on := 18, ground := Go.Ground.chain }], guard := none }) (v := ?_) rfl (by kernel_rfl) (by kernel_rfl) (by kernel_rfl) (fun _ _ _ h => h) (Or.inl ⟨by rfl, ?_⟩) hS3 ?_; rotate_left; (· (intro wq hSw; obtain ⟨a0, a1, a2, hq⟩ := labsAt_head hSw; obtain ⟨b0, b1, b2, hq2⟩ := labsAt_head hq; obtain ⟨c0, c1, c2, _⟩ := labsAt_head hq2; go_simp; try with_reducible rfl))
  try simp only [Act.put, List.setIfInBounds_toArray, List.set_cons_zero, List.set_cons_succ]
  refine wpAnyH_take (i := 25) (oi := { dst := some 38, op := Go.Op.move (Go.Operand.tmp 8), type := 4, pos := "law.go:48", after := #[{ on := 24, ground := Go.Ground.guard }], guard := some (24, true) }) (v := ?_) rfl (by kernel_rfl) (by kernel_rfl) (by kernel_rfl) (fun _ _ _ h => h) (Or.inl ⟨by rfl, ?_⟩) hS3 ?_; rotate_left; (· (intro wq hSw; obtain ⟨a0, a1, a2, hq⟩ := labsAt_head hSw; obtain ⟨b0, b1, b2, hq2⟩ := labsAt_head hq; obtain ⟨c0, c1, c2, _⟩ := labsAt_head hq2; go_simp; try with_reducible rfl))
  try simp only [Act.put, List.setIfInBounds_toArray, List.set_cons_zero, List.set_cons_succ]
  refine wpAnyH_take (i := 26) (oi := { dst := some 39, op := Go.Op.unOp Go.UnOp.not 4 (Go.Operand.tmp 38), type := 4, pos := "law.go:48", after := #[{ on := 25, ground := Go.Ground.data }, { on := 24, ground := Go.Ground.guard }], guard := some (24, true) }) (v := ?_) rfl (by kernel_rfl) (by kernel_rfl) (by kernel_rfl) (fun _ _ _ h => h) (Or.inl ⟨by rfl, ?_⟩) hS3 ?_; rotate_left; (· (intro wq hSw; obtain ⟨a0, a1, a2, hq⟩ := labsAt_head hSw; obtain ⟨b0, b1, b2, hq2⟩ := labsAt_head hq; obtain ⟨c0, c1, c2, _⟩ := labsAt_head hq2; go_simp; try with_reducible rfl))
  try simp only [Act.put, List.setIfInBounds_toArray, List.set_cons_zero, List.set_cons_succ]
  refine wpAnyH_take (i := 27) (oi := { dst := some 40, op := Go.Op.move (Go.Operand.tmp 39), type := 4, pos := "law.go:48", after := #[{ on := 26, ground := Go.Ground.data }, { on := 24, ground := Go.Ground.chain }, { on := 24, ground := Go.Ground.guard }], guard := some (24, true) }) (v := ?_) rfl (by kernel_rfl) (by kernel_rfl) (by kernel_rfl) (fun _ _ _ h => h) (Or.inl ⟨by rfl, ?_⟩) hS3 ?_; rotate_left; (· (intro wq hSw; obtain ⟨a0, a1, a2, hq⟩ := labsAt_head hSw; obtain ⟨b0, b1, b2, hq2⟩ := labsAt_head hq; obtain ⟨c0, c1, c2, _⟩ := labsAt_head hq2; go_simp; try with_reducible rfl))
  try simp only [Act.put, List.setIfInBounds_toArray, List.set_cons_zero, List.set_cons_succ]
  refine wpAnyH_take (i := 28) (oi := { dst := some 41, op := Go.Op.load 24 (Go.Operand.tmp 4), type := 24, pos := "law.go:48", after := #[{ on := 27, ground := Go.Ground.guard }], guard := some (27, false) }) (v := ?_) rfl (by kernel_rfl) (by kernel_rfl) (by kernel_rfl) (fun _ _ _ h => h) (Or.inl ⟨by rfl, ?_⟩) hS3 ?_; rotate_left; (· (intro wq hSw; obtain ⟨a0, a1, a2, hq⟩ := labsAt_head hSw; obtain ⟨b0, b1, b2, hq2⟩ := labsAt_head hq; obtain ⟨c0, c1, c2, _⟩ := labsAt_head hq2; go_simp; try with_reducible rfl))
  try simp only [Act.put, List.setIfInBounds_toArray, List.set_cons_zero, List.set_cons_succ]
  refine wpAnyH_take (i := 29) (oi := { dst := some 42, op := Go.Op.load 24 (Go.Operand.tmp 5), type := 24, pos := "law.go:48", after := #[{ on := 27, ground := Go.Ground.guard }], guard := some (27, false) }) (v := ?_) rfl (by kernel_rfl) (by kernel_rfl) (by kernel_rfl) (fun _ _ _ h => h) (Or.inl ⟨by rfl, ?_⟩) hS3 ?_; rotate_left; (· (intro wq hSw; obtain ⟨a0, a1, a2, hq⟩ := labsAt_head hSw; obtain ⟨b0, b1, b2, hq2⟩ := labsAt_head hq; obtain ⟨c0, c1, c2, _⟩ := labsAt_head hq2; go_simp; try with_reducible rfl))
  try simp only [Act.put, List.setIfInBounds_toArray, List.set_cons_zero, List.set_cons_succ]
  refine wpAnyH_ready (rs := [30]) (by kernel_rfl) (by simp) ?_
  refine AllReadyH.cons (o := { dst := some 43, op := Go.Op.call { callee := Go.Callee.value (Go.Operand.func 18), args := #[Go.Operand.tmp 41, Go.Operand.tmp 42], argTypes := #[24, 24] }, type := 4, pos := "law.go:48", after := #[{ on := 28, ground := Go.Ground.data }, { on := 29, ground := Go.Ground.data }, { on := 27, ground := Go.Ground.chain }, { on := 27, ground := Go.Ground.guard }], guard := some (27, false) }) rfl (fun K hK => ?_) AllReadyH.nil
  go_simp
  refine (Under_any b c hfb hfc _).mono ?_
  rintro e w6 ⟨he, hb⟩
  rw [BC.out] at he
  subst he
  refine hK.out _ _ (LabsAt.later hS3 hb) (fun hS4 => ?_)
  clear hK K hS3 hb
  try simp only [Act.put, List.setIfInBounds_toArray, List.set_cons_zero, List.set_cons_succ]
  refine wpAnyH_take (i := 31) (oi := { dst := some 44, op := Go.Op.unOp Go.UnOp.not 4 (Go.Operand.tmp 43), type := 4, pos := "law.go:48", after := #[{ on := 30, ground := Go.Ground.data }, { on := 27, ground := Go.Ground.guard }], guard := some (27, false) }) (v := ?_) rfl (by kernel_rfl) (by kernel_rfl) (by kernel_rfl) (fun _ _ _ h => h) (Or.inl ⟨by rfl, ?_⟩) hS4 ?_; rotate_left; (· (intro wq hSw; obtain ⟨a0, a1, a2, hq⟩ := labsAt_head hSw; obtain ⟨b0, b1, b2, hq2⟩ := labsAt_head hq; obtain ⟨c0, c1, c2, _⟩ := labsAt_head hq2; go_simp; try with_reducible rfl))
  try simp only [Act.put, List.setIfInBounds_toArray, List.set_cons_zero, List.set_cons_succ]
  refine wpAnyH_take (i := 32) (oi := { dst := some 45, op := Go.Op.pick (Go.Operand.tmp 40) (Go.Operand.const (Go.Value.bool true)) (Go.Operand.tmp 44), type := 4, pos := "law.go:48", after := #[{ on := 27, ground := Go.Ground.data }, { on := 31, ground := Go.Ground.data }, { on := 24, ground := Go.Ground.guard }], guard := some (24, true) }) (v := ?_) rfl (by kernel_rfl) (by kernel_rfl) (by kernel_rfl) (fun _ _ _ h => h) (Or.inl ⟨by rfl, ?_⟩) hS4 ?_; rotate_left; (· (intro wq hSw; obtain ⟨a0, a1, a2, hq⟩ := labsAt_head hSw; obtain ⟨b0, b1, b2, hq2⟩ := labsAt_head hq; obtain ⟨c0, c1, c2, _⟩ := labsAt_head hq2; go_simp; try with_reducible rfl))
  try simp only [Act.put, List.setIfInBounds_toArray, List.set_cons_zero, List.set_cons_succ]
  refine wpAnyH_take (i := 33) (oi := { dst := some 46, op := Go.Op.move (Go.Operand.tmp 45), type := 4, pos := "law.go:48", after := #[{ on := 32, ground := Go.Ground.data }, { on := 30, ground := Go.Ground.chain }, { on := 24, ground := Go.Ground.guard }], guard := some (24, true) }) (v := ?_) rfl (by kernel_rfl) (by kernel_rfl) (by kernel_rfl) (fun _ _ _ h => h) (Or.inl ⟨by rfl, ?_⟩) hS4 ?_; rotate_left; (· (intro wq hSw; obtain ⟨a0, a1, a2, hq⟩ := labsAt_head hSw; obtain ⟨b0, b1, b2, hq2⟩ := labsAt_head hq; obtain ⟨c0, c1, c2, _⟩ := labsAt_head hq2; go_simp; try with_reducible rfl))
  try simp only [Act.put, List.setIfInBounds_toArray, List.set_cons_zero, List.set_cons_succ]
  refine wpAnyH_take (i := 34) (oi := { dst := some 47, op := Go.Op.load 24 (Go.Operand.tmp 3), type := 24, pos := "law.go:48", after := #[{ on := 33, ground := Go.Ground.guard }], guard := some (33, false) }) (v := undef) rfl (by kernel_rfl) (by kernel_rfl) (by kernel_rfl) (fun _ _ _ h => h) (Or.inr ⟨by rfl, rfl⟩) hS4 ?_
  try simp only [Act.put, List.setIfInBounds_toArray, List.set_cons_zero, List.set_cons_succ]
  refine wpAnyH_take (i := 35) (oi := { dst := some 48, op := Go.Op.load 24 (Go.Operand.tmp 5), type := 24, pos := "law.go:48", after := #[{ on := 33, ground := Go.Ground.guard }], guard := some (33, false) }) (v := undef) rfl (by kernel_rfl) (by kernel_rfl) (by kernel_rfl) (fun _ _ _ h => h) (Or.inr ⟨by rfl, rfl⟩) hS4 ?_
  try simp only [Act.put, List.setIfInBounds_toArray, List.set_cons_zero, List.set_cons_succ]
  refine wpAnyH_ready (rs := [36]) (by kernel_rfl) (by simp) ?_
  refine AllReadyH.cons (o := { dst := some 49, op := Go.Op.call { callee := Go.Callee.value (Go.Operand.func 18), args := #[Go.Operand.tmp 47, Go.Operand.tmp 48], argTypes := #[24, 24] }, type := 4, pos := "law.go:48", after := #[{ on := 34, ground := Go.Ground.data }, { on := 35, ground := Go.Ground.data }, { on := 33, ground := Go.Ground.chain }, { on := 33, ground := Go.Ground.guard }], guard := some (33, false) }) rfl (fun K hK => ?_) AllReadyH.nil
  rw [if_neg (by intro h; cases h)]
  refine hK.out _ _ hS4 (fun hS5 => ?_)
  clear hK K hS4
  try simp only [Act.put, List.setIfInBounds_toArray, List.set_cons_zero, List.set_cons_succ]
  refine wpAnyH_take (i := 37) (oi := { dst := some 50, op := Go.Op.pick (Go.Operand.tmp 46) (Go.Operand.const (Go.Value.bool true)) (Go.Operand.tmp 49), type := 4, pos := "law.go:48", after := #[{ on := 33, ground := Go.Ground.data }, { on := 36, ground := Go.Ground.data }, { on := 24, ground := Go.Ground.guard }], guard := some (24, true) }) (v := ?_) rfl (by kernel_rfl) (by kernel_rfl) (by kernel_rfl) (fun _ _ _ h => h) (Or.inl ⟨by rfl, ?_⟩) hS5 ?_; rotate_left; (· (intro wq hSw; obtain ⟨a0, a1, a2, hq⟩ := labsAt_head hSw; obtain ⟨b0, b1, b2, hq2⟩ := labsAt_head hq; obtain ⟨c0, c1, c2, _⟩ := labsAt_head hq2; go_simp; try with_reducible rfl))
  try simp only [Act.put, List.setIfInBounds_toArray, List.set_cons_zero, List.set_cons_succ]
  refine wpAnyH_take (i := 38) (oi := { dst := some 51, op := Go.Op.pick (Go.Operand.tmp 37) (Go.Operand.tmp 50) (Go.Operand.const (Go.Value.bool false)), type := 4, pos := "law.go:48", after := #[{ on := 24, ground := Go.Ground.data }, { on := 37, ground := Go.Ground.data }], guard := none }) (v := ?_) rfl (by kernel_rfl) (by kernel_rfl) (by kernel_rfl) (fun _ _ _ h => h) (Or.inl ⟨by rfl, ?_⟩) hS5 ?_; rotate_left; (· (intro wq hSw; obtain ⟨a0, a1, a2, hq⟩ := labsAt_head hSw; obtain ⟨b0, b1, b2, hq2⟩ := labsAt_head hq; obtain ⟨c0, c1, c2, _⟩ := labsAt_head hq2; go_simp; try with_reducible rfl))
  try simp only [Act.put, List.setIfInBounds_toArray, List.set_cons_zero, List.set_cons_succ]
  refine wpAnyH_take (i := 39) (oi := { dst := some 52, op := Go.Op.move (Go.Operand.tmp 51), type := 4, pos := "law.go:48", after := #[{ on := 38, ground := Go.Ground.data }, { on := 36, ground := Go.Ground.chain }], guard := none }) (v := ?_) rfl (by kernel_rfl) (by kernel_rfl) (by kernel_rfl) (fun _ _ _ h => h) (Or.inl ⟨by rfl, ?_⟩) hS5 ?_; rotate_left; (· (intro wq hSw; obtain ⟨a0, a1, a2, hq⟩ := labsAt_head hSw; obtain ⟨b0, b1, b2, hq2⟩ := labsAt_head hq; obtain ⟨c0, c1, c2, _⟩ := labsAt_head hq2; go_simp; try with_reducible rfl))
  try simp only [Act.put, List.setIfInBounds_toArray, List.set_cons_zero, List.set_cons_succ]
  refine wpAnyH_take (i := 40) (oi := { dst := some 53, op := Go.Op.load 24 (Go.Operand.tmp 3), type := 24, pos := "law.go:48", after := #[{ on := 39, ground := Go.Ground.guard }], guard := some (39, true) }) (v := ?_) rfl (by kernel_rfl) (by kernel_rfl) (by kernel_rfl) (fun _ _ _ h => h) (Or.inl ⟨by rfl, ?_⟩) hS5 ?_; rotate_left; (· (intro wq hSw; obtain ⟨a0, a1, a2, hq⟩ := labsAt_head hSw; obtain ⟨b0, b1, b2, hq2⟩ := labsAt_head hq; obtain ⟨c0, c1, c2, _⟩ := labsAt_head hq2; go_simp; try with_reducible rfl))
  try simp only [Act.put, List.setIfInBounds_toArray, List.set_cons_zero, List.set_cons_succ]
  refine wpAnyH_ready (rs := [41]) (by kernel_rfl) (by simp) ?_
  refine AllReadyH.cons (o := { dst := some 54, op := Go.Op.call { callee := Go.Callee.value (Go.Operand.func 16), args := #[Go.Operand.tmp 53], argTypes := #[24] }, type := 4, pos := "law.go:48", after := #[{ on := 40, ground := Go.Ground.data }, { on := 39, ground := Go.Ground.chain }, { on := 39, ground := Go.Ground.guard }], guard := some (39, true) }) rfl (fun K hK => ?_) AllReadyH.nil
  go_simp
  refine (right_any a hfa _).mono ?_
  rintro e w7 ⟨he, hb⟩
  rw [RA.out] at he
  subst he
  refine hK.out _ _ (LabsAt.later hS5 hb) (fun hS6 => ?_)
  clear hK K hS5 hb
  try simp only [Act.put, List.setIfInBounds_toArray, List.set_cons_zero, List.set_cons_succ]
  refine wpAnyH_take (i := 42) (oi := { dst := some 55, op := Go.Op.unOp Go.UnOp.not 4 (Go.Operand.tmp 54), type := 4, pos := "law.go:48", after := #[{ on := 41, ground := Go.Ground.data }, { on := 39, ground := Go.Ground.guard }], guard := some (39, true) }) (v := ?_) rfl (by kernel_rfl) (by kernel_rfl) (by kernel_rfl) (fun _ _ _ h => h) (Or.inl ⟨by rfl, ?_⟩) hS6 ?_; rotate_left; (· (intro wq hSw; obtain ⟨a0, a1, a2, hq⟩ := labsAt_head hSw; obtain ⟨b0, b1, b2, hq2⟩ := labsAt_head hq; obtain ⟨c0, c1, c2, _⟩ := labsAt_head hq2; go_simp; try with_reducible rfl))
  try simp only [Act.put, List.setIfInBounds_toArray, List.set_cons_zero, List.set_cons_succ]
  refine wpAnyH_take (i := 43) (oi := { dst := some 56, op := Go.Op.move (Go.Operand.tmp 55), type := 4, pos := "law.go:48", after := #[{ on := 42, ground := Go.Ground.data }, { on := 41, ground := Go.Ground.chain }, { on := 39, ground := Go.Ground.guard }], guard := some (39, true) }) (v := ?_) rfl (by kernel_rfl) (by kernel_rfl) (by kernel_rfl) (fun _ _ _ h => h) (Or.inl ⟨by rfl, ?_⟩) hS6 ?_; rotate_left; (· (intro wq hSw; obtain ⟨a0, a1, a2, hq⟩ := labsAt_head hSw; obtain ⟨b0, b1, b2, hq2⟩ := labsAt_head hq; obtain ⟨c0, c1, c2, _⟩ := labsAt_head hq2; go_simp; try with_reducible rfl))
  try simp only [Act.put, List.setIfInBounds_toArray, List.set_cons_zero, List.set_cons_succ]
  refine wpAnyH_take (i := 45) (oi := { dst := some 58, op := Go.Op.load 24 (Go.Operand.tmp 3), type := 24, pos := "law.go:48", after := #[{ on := 43, ground := Go.Ground.guard }], guard := some (43, false) }) (v := ?_) rfl (by kernel_rfl) (by kernel_rfl) (by kernel_rfl) (fun _ _ _ h => h) (Or.inl ⟨by rfl, ?_⟩) hS6 ?_; rotate_left; (· (intro wq hSw; obtain ⟨a0, a1, a2, hq⟩ := labsAt_head hSw; obtain ⟨b0, b1, b2, hq2⟩ := labsAt_head hq; obtain ⟨c0, c1, c2, _⟩ := labsAt_head hq2; go_simp; try with_reducible rfl))
  try simp only [Act.put, List.setIfInBounds_toArray, List.set_cons_zero, List.set_cons_succ]
  refine wpAnyH_ready (rs := [44]) (by kernel_rfl) (by simp) ?_
  refine AllReadyH.cons (o := { dst := some 57, op := Go.Op.call { callee := Go.Callee.value (Go.Operand.func 22), args := #[], argTypes := #[] }, type := 24, pos := "law.go:48", after := #[{ on := 43, ground := Go.Ground.chain }, { on := 43, ground := Go.Ground.guard }], guard := some (43, false) }) rfl (fun K hK => ?_) AllReadyH.nil
  go_simp
  refine (bottom_any _).mono ?_
  rintro e w8 ⟨he, hb⟩
  subst he
  refine hK.out _ _ (LabsAt.later hS6 hb) (fun hS7 => ?_)
  clear hK K hS6 hb
  try simp only [Act.put, List.setIfInBounds_toArray, List.set_cons_zero, List.set_cons_succ]
  refine wpAnyH_ready (rs := [46]) (by kernel_rfl) (by simp) ?_
  refine AllReadyH.cons (o := { dst := some 59, op := Go.Op.call { callee := Go.Callee.value (Go.Operand.func 18), args := #[Go.Operand.tmp 57, Go.Operand.tmp 58], argTypes := #[24, 24] }, type := 4, pos := "law.go:48", after := #[{ on := 44, ground := Go.Ground.data }, { on := 45, ground := Go.Ground.data }, { on := 44, ground := Go.Ground.chain }, { on := 43, ground := Go.Ground.guard }], guard := some (43, false) }) rfl (fun K hK => ?_) AllReadyH.nil
  go_simp
  refine (UnderBot a hfa RA.out _).mono ?_
  rintro e w9 ⟨he, hb⟩
  subst he
  refine hK.out _ _ (LabsAt.later hS7 hb) (fun hS8 => ?_)
  clear hK K hS7 hb
  try simp only [Act.put, List.setIfInBounds_toArray, List.set_cons_zero, List.set_cons_succ]
  refine wpAnyH_take (i := 47) (oi := { dst := some 60, op := Go.Op.move (Go.Operand.tmp 59), type := 4, pos := "law.go:48", after := #[{ on := 46, ground := Go.Ground.data }, { on := 46, ground := Go.Ground.chain }, { on := 43, ground := Go.Ground.guard }], guard := some (43, false) }) (v := ?_) rfl (by kernel_rfl) (by kernel_rfl) (by kernel_rfl) (fun _ _ _ h => h) (Or.inl ⟨by rfl, ?_⟩) hS8 ?_; rotate_left; (· (intro wq hSw; obtain ⟨a0, a1, a2, hq⟩ := labsAt_head hSw; obtain ⟨b0, b1, b2, hq2⟩ := labsAt_head hq; obtain ⟨c0, c1, c2, _⟩ := labsAt_head hq2; go_simp; try with_reducible rfl))
  try simp only [Act.put, List.setIfInBounds_toArray, List.set_cons_zero, List.set_cons_succ]
  refine wpAnyH_take (i := 48) (oi := { dst := some 61, op := Go.Op.load 24 (Go.Operand.tmp 3), type := 24, pos := "law.go:48", after := #[{ on := 47, ground := Go.Ground.guard }], guard := some (47, true) }) (v := ?_) rfl (by kernel_rfl) (by kernel_rfl) (by kernel_rfl) (fun _ _ _ h => h) (Or.inl ⟨by rfl, ?_⟩) hS8 ?_; rotate_left; (· (intro wq hSw; obtain ⟨a0, a1, a2, hq⟩ := labsAt_head hSw; obtain ⟨b0, b1, b2, hq2⟩ := labsAt_head hq; obtain ⟨c0, c1, c2, _⟩ := labsAt_head hq2; go_simp; try with_reducible rfl))
  try simp only [Act.put, List.setIfInBounds_toArray, List.set_cons_zero, List.set_cons_succ]
  refine wpAnyH_ready (rs := [49]) (by kernel_rfl) (by simp) ?_
  refine AllReadyH.cons (o := { dst := some 62, op := Go.Op.call { callee := Go.Callee.value (Go.Operand.func 24), args := #[], argTypes := #[] }, type := 24, pos := "law.go:48", after := #[{ on := 47, ground := Go.Ground.chain }, { on := 47, ground := Go.Ground.guard }], guard := some (47, true) }) rfl (fun K hK => ?_) AllReadyH.nil
  go_simp
  refine (top_any _).mono ?_
  rintro e w10 ⟨he, hb⟩
  subst he
  refine hK.out _ _ (LabsAt.later hS8 hb) (fun hS9 => ?_)
  clear hK K hS8 hb
  try simp only [Act.put, List.setIfInBounds_toArray, List.set_cons_zero, List.set_cons_succ]
  refine wpAnyH_ready (rs := [50]) (by kernel_rfl) (by simp) ?_
  refine AllReadyH.cons (o := { dst := some 63, op := Go.Op.call { callee := Go.Callee.value (Go.Operand.func 18), args := #[Go.Operand.tmp 61, Go.Operand.tmp 62], argTypes := #[24, 24] }, type := 4, pos := "law.go:48", after := #[{ on := 48, ground := Go.Ground.data }, { on := 49, ground := Go.Ground.data }, { on := 49, ground := Go.Ground.chain }, { on := 47, ground := Go.Ground.guard }], guard := some (47, true) }) rfl (fun K hK => ?_) AllReadyH.nil
  go_simp
  refine (UnderTop a hfa RA.out _).mono ?_
  rintro e w11 ⟨he, hb⟩
  subst he
  refine hK.out _ _ (LabsAt.later hS9 hb) (fun hS10 => ?_)
  clear hK K hS9 hb
  try simp only [Act.put, List.setIfInBounds_toArray, List.set_cons_zero, List.set_cons_succ]
  refine wpAnyH_take (i := 51) (oi := { dst := some 64, op := Go.Op.pick (Go.Operand.tmp 60) (Go.Operand.tmp 63) (Go.Operand.const (Go.Value.bool false)), type := 4, pos := "law.go:48", after := #[{ on := 47, ground := Go.Ground.data }, { on := 50, ground := Go.Ground.data }, { on := 43, ground := Go.Ground.guard }], guard := some (43, false) }) (v := ?_) rfl (by kernel_rfl) (by kernel_rfl) (by kernel_rfl) (fun _ _ _ h => h) (Or.inl ⟨by rfl, ?_⟩) hS10 ?_; rotate_left; (· (intro wq hSw; obtain ⟨a0, a1, a2, hq⟩ := labsAt_head hSw; obtain ⟨b0, b1, b2, hq2⟩ := labsAt_head hq; obtain ⟨c0, c1, c2, _⟩ := labsAt_head hq2; go_simp; try with_reducible rfl))
  try simp only [Act.put, List.setIfInBounds_toArray, List.set_cons_zero, List.set_cons_succ]
  refine wpAnyH_take (i := 52) (oi := { dst := some 65, op := Go.Op.pick (Go.Operand.tmp 56) (Go.Operand.const (Go.Value.bool true)) (Go.Operand.tmp 64), type := 4, pos := "law.go:48", after := #[{ on := 43, ground := Go.Ground.data }, { on := 51, ground := Go.Ground.data }, { on := 39, ground := Go.Ground.guard }], guard := some (39, true) }) (v := ?_) rfl (by kernel_rfl) (by kernel_rfl) (by kernel_rfl) (fun _ _ _ h => h) (Or.inl ⟨by rfl, ?_⟩) hS10 ?_; rotate_left; (· (intro wq hSw; obtain ⟨a0, a1, a2, hq⟩ := labsAt_head hSw; obtain ⟨b0, b1, b2, hq2⟩ := labsAt_head hq; obtain ⟨c0, c1, c2, _⟩ := labsAt_head hq2; go_simp; try with_reducible rfl))
  try simp only [Act.put, List.setIfInBounds_toArray, List.set_cons_zero, List.set_cons_succ]
  refine wpAnyH_take (i := 53) (oi := { dst := some 66, op := Go.Op.pick (Go.Operand.tmp 52) (Go.Operand.tmp 65) (Go.Operand.const (Go.Value.bool false)), type := 4, pos := "law.go:48", after := #[{ on := 39, ground := Go.Ground.data }, { on := 52, ground := Go.Ground.data }], guard := none }) (v := ?_) rfl (by kernel_rfl) (by kernel_rfl) (by kernel_rfl) (fun _ _ _ h => h) (Or.inl ⟨by rfl, ?_⟩) hS10 ?_; rotate_left; (· (intro wq hSw; obtain ⟨a0, a1, a2, hq⟩ := labsAt_head hSw; obtain ⟨b0, b1, b2, hq2⟩ := labsAt_head hq; obtain ⟨c0, c1, c2, _⟩ := labsAt_head hq2; go_simp; try with_reducible rfl))
  try simp only [Act.put, List.setIfInBounds_toArray, List.set_cons_zero, List.set_cons_succ]
  refine wpAnyH_take (i := 54) (oi := { dst := some 6, op := Go.Op.assign (Go.Operand.tmp 66), type := 4, pos := "law.go:48", after := #[{ on := 53, ground := Go.Ground.data }, { on := 50, ground := Go.Ground.chain }, { on := 0, ground := Go.Ground.phase }, { on := 1, ground := Go.Ground.phase }, { on := 2, ground := Go.Ground.phase }, { on := 3, ground := Go.Ground.phase }, { on := 4, ground := Go.Ground.phase }, { on := 5, ground := Go.Ground.phase }, { on := 6, ground := Go.Ground.phase }, { on := 7, ground := Go.Ground.phase }, { on := 8, ground := Go.Ground.phase }, { on := 9, ground := Go.Ground.phase }, { on := 10, ground := Go.Ground.phase }, { on := 11, ground := Go.Ground.phase }, { on := 12, ground := Go.Ground.phase }, { on := 13, ground := Go.Ground.phase }, { on := 14, ground := Go.Ground.phase }, { on := 15, ground := Go.Ground.phase }, { on := 16, ground := Go.Ground.phase }, { on := 17, ground := Go.Ground.phase }, { on := 18, ground := Go.Ground.phase }, { on := 19, ground := Go.Ground.phase }, { on := 20, ground := Go.Ground.phase }, { on := 21, ground := Go.Ground.phase }, { on := 22, ground := Go.Ground.phase }, { on := 23, ground := Go.Ground.phase }, { on := 24, ground := Go.Ground.phase }, { on := 25, ground := Go.Ground.phase }, { on := 26, ground := Go.Ground.phase }, { on := 27, ground := Go.Ground.phase }, { on := 28, ground := Go.Ground.phase }, { on := 29, ground := Go.Ground.phase }, { on := 30, ground := Go.Ground.phase }, { on := 31, ground := Go.Ground.phase }, { on := 32, ground := Go.Ground.phase }, { on := 33, ground := Go.Ground.phase }, { on := 34, ground := Go.Ground.phase }, { on := 35, ground := Go.Ground.phase }, { on := 36, ground := Go.Ground.phase }, { on := 37, ground := Go.Ground.phase }, { on := 38, ground := Go.Ground.phase }, { on := 39, ground := Go.Ground.phase }, { on := 40, ground := Go.Ground.phase }, { on := 41, ground := Go.Ground.phase }, { on := 42, ground := Go.Ground.phase }, { on := 43, ground := Go.Ground.phase }, { on := 44, ground := Go.Ground.phase }, { on := 45, ground := Go.Ground.phase }, { on := 46, ground := Go.Ground.phase }, { on := 47, ground := Go.Ground.phase }, { on := 48, ground := Go.Ground.phase }, { on := 49, ground := Go.Ground.phase }, { on := 50, ground := Go.Ground.phase }, { on := 51, ground := Go.Ground.phase }, { on := 52, ground := Go.Ground.phase }, { on := 53, ground := Go.Ground.phase }], guard := none }) (v := ?_) rfl (by kernel_rfl) (by kernel_rfl) (by kernel_rfl) (fun _ _ _ h => h) (Or.inl ⟨by rfl, ?_⟩) hS10 ?_; rotate_left; (· (intro wq hSw; obtain ⟨a0, a1, a2, hq⟩ := labsAt_head hSw; obtain ⟨b0, b1, b2, hq2⟩ := labsAt_head hq; obtain ⟨c0, c1, c2, _⟩ := labsAt_head hq2; go_simp; try with_reducible rfl))
  try simp only [Act.put, List.setIfInBounds_toArray, List.set_cons_zero, List.set_cons_succ]
  refine wpAnyH_done (by kernel_rfl) ?_ _
  have hB := hS10.below
  clear hS10
  go_wp2
  go_ret
  exact ⟨rfl, hB⟩

set_option maxRecDepth 100000 in
set_option maxHeartbeats 4000000 in
theorem labelOrders_D (a b c : Lab) (hfa : a.fits) (hfb : b.fits) (hfc : c.fits) (hab : a.under b = true) (hba : b.under a = false) (hbc : b.under c = true) (w : World) (hg : ErrT w) :
    Calls Tryd.prog 5 #[.agg #[.int .i64 a.l, .int .u64 a.c, .int .i64 a.i], .agg #[.int .i64 b.l, .int .u64 b.c, .int .i64 b.i], .agg #[.int .i64 c.l, .int .u64 c.c, .int .i64 c.i]] w fun e w' => e = .returned (.bool true) ∧ Below w.heap.size w w' := by
  have _hu := And.intro hfa (And.intro hfb (hfc))
  clear _hu
  have hra : a.right = true := ((under_iff' hfa hfb).1 hab).1
  have AA := Lib.hid (under_refl a hfa)
  have AB := Lib.hid hab
  have RA := Lib.hid hra
  have BA := Lib.hid hba
  have BC := Lib.hid hbc
  have AC := Lib.hid (under_trans hfa hfb hfc hab hbc)
  clear hab hra hba hbc
  obtain ⟨hB, hg1, a0, a1, a2, b0, b1, b2, c0, c1, c2⟩ := three_at w a b c hg
  have hM := labsAt_cons a0 a1 a2 (labsAt_cons b0 b1 b2 (labsAt_cons c0 c1 c2 (labsAt_nil hB hg1)))
  clear hg
  go_enter Tryd.func5, Tryd.ntmps5
  go_wp2_with fail
  refine (shown_any _ hg1).mono ?_
  rintro e w1 ⟨he, hb⟩
  subst he
  replace a0 := cell_later hb a0
  replace a1 := cell_later hb a1
  replace a2 := cell_later hb a2
  replace b0 := cell_later hb b0
  replace b1 := cell_later hb b1
  replace b2 := cell_later hb b2
  replace c0 := cell_later hb c0
  replace c1 := cell_later hb c1
  replace c2 := cell_later hb c2
  replace hM := hM.later hb
  clear hb hB hg1
  go_wp2_with fail
  refine (Under_any a b hfa hfb _).mono ?_
  rintro e w2 ⟨he, hb⟩
  rw [AB.out] at he
  subst he
  replace hM := hM.later hb
  clear hb a0 a1 a2 b0 b1 b2 c0 c1 c2
  go_wp2_with fail
  refine wp_region_held_drew (S := LabsAt w [(w.heap.size, a), (w.heap.size + 1, b), (w.heap.size + 1 + 1, c)]) (by kernel_rfl) (hM.drew) (fun hS0 => ?_)
  clear hM
  refine wpAnyH_take (i := 0) (oi := { dst := some 13, op := Go.Op.move (Go.Operand.tmp 7), type := 4, pos := "law.go:48", after := #[], guard := none }) (v := ?_) rfl (by kernel_rfl) (by kernel_rfl) (by kernel_rfl) (fun _ _ _ h => h) (Or.inl ⟨by rfl, ?_⟩) hS0 ?_; rotate_left; (· (intro wq hSw; obtain ⟨a0, a1, a2, hq⟩ := labsAt_head hSw; obtain ⟨b0, b1, b2, hq2⟩ := labsAt_head hq; obtain ⟨c0, c1, c2, _⟩ := labsAt_head hq2; go_simp; try with_reducible rfl))
  try simp only [Act.put, List.setIfInBounds_toArray, List.set_cons_zero, List.set_cons_succ]
  refine wpAnyH_take (i := 1) (oi := { dst := some 14, op := Go.Op.move (Go.Operand.tmp 13), type := 4, pos := "law.go:48", after := #[{ on := 0, ground := Go.Ground.data }], guard := none }) (v := ?_) rfl (by kernel_rfl) (by kernel_rfl) (by kernel_rfl) (fun _ _ _ h => h) (Or.inl ⟨by rfl, ?_⟩) hS0 ?_; rotate_left; (· (intro wq hSw; obtain ⟨a0, a1, a2, hq⟩ := labsAt_head hSw; obtain ⟨b0, b1, b2, hq2⟩ := labsAt_head hq; obtain ⟨c0, c1, c2, _⟩ := labsAt_head hq2; go_simp; try with_reducible rfl))
  try simp only [Act.put, List.setIfInBounds_toArray, List.set_cons_zero, List.set_cons_succ]
  refine wpAnyH_take (i := 2) (oi := { dst := some 15, op := Go.Op.load 24 (Go.Operand.tmp 3), type := 24, pos := "law.go:48", after := #[{ on := 1, ground := Go.Ground.guard }], guard := some (1, true) }) (v := ?_) rfl (by kernel_rfl) (by kernel_rfl) (by kernel_rfl) (fun _ _ _ h => h) (Or.inl ⟨by rfl, ?_⟩) hS0 ?_; rotate_left; (· (intro wq hSw; obtain ⟨a0, a1, a2, hq⟩ := labsAt_head hSw; obtain ⟨b0, b1, b2, hq2⟩ := labsAt_head hq; obtain ⟨c0, c1, c2, _⟩ := labsAt_head hq2; go_simp; try with_reducible rfl))
  try simp only [Act.put, List.setIfInBounds_toArray, List.set_cons_zero, List.set_cons_succ]
  refine wpAnyH_take (i := 3) (oi := { dst := some 16, op := Go.Op.load 24 (Go.Operand.tmp 3), type := 24, pos := "law.go:48", after := #[{ on := 1, ground := Go.Ground.guard }], guard := some (1, true) }) (v := ?_) rfl (by kernel_rfl) (by kernel_rfl) (by kernel_rfl) (fun _ _ _ h => h) (Or.inl ⟨by rfl, ?_⟩) hS0 ?_; rotate_left; (· (intro wq hSw; obtain ⟨a0, a1, a2, hq⟩ := labsAt_head hSw; obtain ⟨b0, b1, b2, hq2⟩ := labsAt_head hq; obtain ⟨c0, c1, c2, _⟩ := labsAt_head hq2; go_simp; try with_reducible rfl))
  try simp only [Act.put, List.setIfInBounds_toArray, List.set_cons_zero, List.set_cons_succ]
  refine wpAnyH_take (i := 5) (oi := { dst := some 18, op := Go.Op.load 24 (Go.Operand.tmp 3), type := 24, pos := "law.go:48", after := #[{ on := 1, ground := Go.Ground.guard }], guard := some (1, true) }) (v := ?_) rfl (by kernel_rfl) (by kernel_rfl) (by kernel_rfl) (fun _ _ _ h => h) (Or.inl ⟨by rfl, ?_⟩) hS0 ?_; rotate_left; (· (intro wq hSw; obtain ⟨a0, a1, a2, hq⟩ := labsAt_head hSw; obtain ⟨b0, b1, b2, hq2⟩ := labsAt_head hq; obtain ⟨c0, c1, c2, _⟩ := labsAt_head hq2; go_simp; try with_reducible rfl))
  try simp only [Act.put, List.setIfInBounds_toArray, List.set_cons_zero, List.set_cons_succ]
  refine wpAnyH_ready (rs := [4]) (by kernel_rfl) (by simp) ?_
  refine AllReadyH.cons (o := { dst := some 17, op := Go.Op.call { callee := Go.Callee.value (Go.Operand.func 18), args := #[Go.Operand.tmp 15, Go.Operand.tmp 16], argTypes := #[24, 24] }, type := 4, pos := "law.go:48", after := #[{ on := 2, ground := Go.Ground.data }, { on := 3, ground := Go.Ground.data }, { on := 1, ground := Go.Ground.chain }, { on := 1, ground := Go.Ground.guard }], guard := some (1, true) }) rfl (fun K hK => ?_) AllReadyH.nil
  go_simp
  refine (Under_any a a hfa hfa _).mono ?_
  rintro e w3 ⟨he, hb⟩
  rw [AA.out, RA.out] at he
  subst he
  refine hK.out _ _ (LabsAt.later hS0 hb) (fun hS1 => ?_)
  clear hK K hS0 hb
  try simp only [Act.put, List.setIfInBounds_toArray, List.set_cons_zero, List.set_cons_succ]
  refine wpAnyH_ready (rs := [6]) (by kernel_rfl) (by simp) ?_
  refine AllReadyH.cons (o := { dst := some 19, op := Go.Op.call { callee := Go.Callee.value (Go.Operand.func 16), args := #[Go.Operand.tmp 18], argTypes := #[24] }, type := 4, pos := "law.go:48", after := #[{ on := 5, ground := Go.Ground.data }, { on := 4, ground := Go.Ground.chain }, { on := 1, ground := Go.Ground.guard }], guard := some (1, true) }) rfl (fun K hK => ?_) AllReadyH.nil
  go_simp
  refine (right_any a hfa _).mono ?_
  rintro e w4 ⟨he, hb⟩
  rw [RA.out] at he
  subst he
  refine hK.out _ _ (LabsAt.later hS1 hb) (fun hS2 => ?_)
  clear hK K hS1 hb
  try simp only [Act.put, List.setIfInBounds_toArray, List.set_cons_zero, List.set_cons_succ]
  refine wpAnyH_take (i := 7) (oi := { dst := some 20, op := Go.Op.binOp Go.BinOp.eql 4 (Go.Operand.tmp 17) (Go.Operand.tmp 19) 4, type := 4, pos := "law.go:48", after := #[{ on := 4, ground := Go.Ground.data }, { on := 6, ground := Go.Ground.data }, { on := 1, ground := Go.Ground.guard }], guard := some (1, true) }) (v := ?_) rfl (by kernel_rfl) (by kernel_rfl) (by kernel_rfl) (fun _ _ _ h => h) (Or.inl ⟨by rfl, ?_⟩) hS2 ?_; rotate_left; (· (intro wq hSw; obtain ⟨a0, a1, a2, hq⟩ := labsAt_head hSw; obtain ⟨b0, b1, b2, hq2⟩ := labsAt_head hq; obtain ⟨c0, c1, c2, _⟩ := labsAt_head hq2; go_simp; try with_reducible rfl))
  try simp only [Act.put, List.setIfInBounds_toArray, List.set_cons_zero, List.set_cons_succ]
  refine wpAnyH_take (i := 8) (oi := { dst := some 21, op := Go.Op.pick (Go.Operand.tmp 14) (Go.Operand.tmp 20) (Go.Operand.const (Go.Value.bool false)), type := 4, pos := "law.go:48", after := #[{ on := 1, ground := Go.Ground.data }, { on := 7, ground := Go.Ground.data }], guard := none }) (v := ?_) rfl (by kernel_rfl) (by kernel_rfl) (by kernel_rfl) (fun _ _ _ h => h) (Or.inl ⟨by rfl, ?_⟩) hS2 ?_; rotate_left; (· (intro wq hSw; obtain ⟨a0, a1, a2, hq⟩ := labsAt_head hSw; obtain ⟨b0, b1, b2, hq2⟩ := labsAt_head hq; obtain ⟨c0, c1, c2, _⟩ := labsAt_head hq2; go_simp; try with_reducible rfl))
  try simp only [Act.put, List.setIfInBounds_toArray, List.set_cons_zero, List.set_cons_succ]
  refine wpAnyH_take (i := 9) (oi := { dst := some 22, op := Go.Op.move (Go.Operand.tmp 21), type := 4, pos := "law.go:48", after := #[{ on := 8, ground := Go.Ground.data }, { on := 6, ground := Go.Ground.chain }], guard := none }) (v := ?_) rfl (by kernel_rfl) (by kernel_rfl) (by kernel_rfl) (fun _ _ _ h => h) (Or.inl ⟨by rfl, ?_⟩) hS2 ?_; rotate_left; (· (intro wq hSw; obtain ⟨a0, a1, a2, hq⟩ := labsAt_head hSw; obtain ⟨b0, b1, b2, hq2⟩ := labsAt_head hq; obtain ⟨c0, c1, c2, _⟩ := labsAt_head hq2; go_simp; try with_reducible rfl))
  try simp only [Act.put, List.setIfInBounds_toArray, List.set_cons_zero, List.set_cons_succ]
  refine wpAnyH_take (i := 10) (oi := { dst := some 23, op := Go.Op.move (Go.Operand.tmp 8), type := 4, pos := "law.go:48", after := #[{ on := 9, ground := Go.Ground.guard }], guard := some (9, true) }) (v := ?_) rfl (by kernel_rfl) (by kernel_rfl) (by kernel_rfl) (fun _ _ _ h => h) (Or.inl ⟨by rfl, ?_⟩) hS2 ?_; rotate_left; (· (intro wq hSw; obtain ⟨a0, a1, a2, hq⟩ := labsAt_head hSw; obtain ⟨b0, b1, b2, hq2⟩ := labsAt_head hq; obtain ⟨c0, c1, c2, _⟩ := labsAt_head hq2; go_simp; try with_reducible rfl))
  try simp only [Act.put, List.setIfInBounds_toArray, List.set_cons_zero, List.set_cons_succ]
  refine wpAnyH_take (i := 11) (oi := { dst := some 24, op := Go.Op.unOp Go.UnOp.not 4 (Go.Operand.tmp 23), type := 4, pos := "law.go:48", after := #[{ on := 10, ground := Go.Ground.data }, { on := 9, ground := Go.Ground.guard }], guard := some (9, true) }) (v := ?_) rfl (by kernel_rfl) (by kernel_rfl) (by kernel_rfl) (fun _ _ _ h => h) (Or.inl ⟨by rfl, ?_⟩) hS2 ?_; rotate_left; (· (intro wq hSw; obtain ⟨a0, a1, a2, hq⟩ := labsAt_head hSw; obtain ⟨b0, b1, b2, hq2⟩ := labsAt_head hq; obtain ⟨c0, c1, c2, _⟩ := labsAt_head hq2; go_simp; try with_reducible rfl))
  try simp only [Act.put, List.setIfInBounds_toArray, List.set_cons_zero, List.set_cons_succ]
  refine wpAnyH_take (i := 12) (oi := { dst := some 25, op := Go.Op.move (Go.Operand.tmp 24), type := 4, pos := "law.go:48", after := #[{ on := 11, ground := Go.Ground.data }, { on := 9, ground := Go.Ground.chain }, { on := 9, ground := Go.Ground.guard }], guard := some (9, true) }) (v := ?_) rfl (by kernel_rfl) (by kernel_rfl) (by kernel_rfl) (fun _ _ _ h => h) (Or.inl ⟨by rfl, ?_⟩) hS2 ?_; rotate_left; (· (intro wq hSw; obtain ⟨a0, a1, a2, hq⟩ := labsAt_head hSw; obtain ⟨b0, b1, b2, hq2⟩ := labsAt_head hq; obtain ⟨c0, c1, c2, _⟩ := labsAt_head hq2; go_simp; try with_reducible rfl))
  try simp only [Act.put, List.setIfInBounds_toArray, List.set_cons_zero, List.set_cons_succ]
  refine wpAnyH_take (i := 13) (oi := { dst := some 26, op := Go.Op.load 24 (Go.Operand.tmp 4), type := 24, pos := "law.go:48", after := #[{ on := 12, ground := Go.Ground.guard }], guard := some (12, false) }) (v := ?_) rfl (by kernel_rfl) (by kernel_rfl) (by kernel_rfl) (fun _ _ _ h => h) (Or.inl ⟨by rfl, ?_⟩) hS2 ?_; rotate_left; (· (intro wq hSw; obtain ⟨a0, a1, a2, hq⟩ := labsAt_head hSw; obtain ⟨b0, b1, b2, hq2⟩ := labsAt_head hq; obtain ⟨c0, c1, c2, _⟩ := labsAt_head hq2; go_simp; try with_reducible rfl))
  try simp only [Act.put, List.setIfInBounds_toArray, List.set_cons_zero, List.set_cons_succ]
  refine wpAnyH_take (i := 14) (oi := { dst := some 27, op := Go.Op.load 24 (Go.Operand.tmp 3), type := 24, pos := "law.go:48", after := #[{ on := 12, ground := Go.Ground.guard }], guard := some (12, false) }) (v := ?_) rfl (by kernel_rfl) (by kernel_rfl) (by kernel_rfl) (fun _ _ _ h => h) (Or.inl ⟨by rfl, ?_⟩) hS2 ?_; rotate_left; (· (intro wq hSw; obtain ⟨a0, a1, a2, hq⟩ := labsAt_head hSw; obtain ⟨b0, b1, b2, hq2⟩ := labsAt_head hq; obtain ⟨c0, c1, c2, _⟩ := labsAt_head hq2; go_simp; try with_reducible rfl))
  try simp only [Act.put, List.setIfInBounds_toArray, List.set_cons_zero, List.set_cons_succ]
  refine wpAnyH_ready (rs := [15]) (by kernel_rfl) (by simp) ?_
  refine AllReadyH.cons (o := { dst := some 28, op := Go.Op.call { callee := Go.Callee.value (Go.Operand.func 18), args := #[Go.Operand.tmp 26, Go.Operand.tmp 27], argTypes := #[24, 24] }, type := 4, pos := "law.go:48", after := #[{ on := 13, ground := Go.Ground.data }, { on := 14, ground := Go.Ground.data }, { on := 12, ground := Go.Ground.chain }, { on := 12, ground := Go.Ground.guard }], guard := some (12, false) }) rfl (fun K hK => ?_) AllReadyH.nil
  go_simp
  refine (Under_any b a hfb hfa _).mono ?_
  rintro e w5 ⟨he, hb⟩
  rw [BA.out] at he
  subst he
  refine hK.out _ _ (LabsAt.later hS2 hb) (fun hS3 => ?_)
  clear hK K hS2 hb
  try simp only [Act.put, List.setIfInBounds_toArray, List.set_cons_zero, List.set_cons_succ]
  refine wpAnyH_take (i := 16) (oi := { dst := some 29, op := Go.Op.unOp Go.UnOp.not 4 (Go.Operand.tmp 28), type := 4, pos := "law.go:48", after := #[{ on := 15, ground := Go.Ground.data }, { on := 12, ground := Go.Ground.guard }], guard := some (12, false) }) (v := ?_) rfl (by kernel_rfl) (by kernel_rfl) (by kernel_rfl) (fun _ _ _ h => h) (Or.inl ⟨by rfl, ?_⟩) hS3 ?_; rotate_left; (· (intro wq hSw; obtain ⟨a0, a1, a2, hq⟩ := labsAt_head hSw; obtain ⟨b0, b1, b2, hq2⟩ := labsAt_head hq; obtain ⟨c0, c1, c2, _⟩ := labsAt_head hq2; go_simp; try with_reducible rfl))
  try simp only [Act.put, List.setIfInBounds_toArray, List.set_cons_zero, List.set_cons_succ]
  refine wpAnyH_take (i := 17) (oi := { dst := some 30, op := Go.Op.pick (Go.Operand.tmp 25) (Go.Operand.const (Go.Value.bool true)) (Go.Operand.tmp 29), type := 4, pos := "law.go:48", after := #[{ on := 12, ground := Go.Ground.data }, { on := 16, ground := Go.Ground.data }, { on := 9, ground := Go.Ground.guard }], guard := some (9, true) }) (v := ?_) rfl (by kernel_rfl) (by kernel_rfl) (by kernel_rfl) (fun _ _ _ h => h) (Or.inl ⟨by rfl, ?_⟩) hS3 ?_; rotate_left; (· (intro wq hSw; obtain ⟨a0, a1, a2, hq⟩ := labsAt_head hSw; obtain ⟨b0, b1, b2, hq2⟩ := labsAt_head hq; obtain ⟨c0, c1, c2, _⟩ := labsAt_head hq2; go_simp; try with_reducible rfl))
  try simp only [Act.put, List.setIfInBounds_toArray, List.set_cons_zero, List.set_cons_succ]
  refine wpAnyH_take (i := 18) (oi := { dst := some 31, op := Go.Op.move (Go.Operand.tmp 30), type := 4, pos := "law.go:48", after := #[{ on := 17, ground := Go.Ground.data }, { on := 15, ground := Go.Ground.chain }, { on := 9, ground := Go.Ground.guard }], guard := some (9, true) }) (v := ?_) rfl (by kernel_rfl) (by kernel_rfl) (by kernel_rfl) (fun _ _ _ h => h) (Or.inl ⟨by rfl, ?_⟩) hS3 ?_; rotate_left; (· (intro wq hSw; obtain ⟨a0, a1, a2, hq⟩ := labsAt_head hSw; obtain ⟨b0, b1, b2, hq2⟩ := labsAt_head hq; obtain ⟨c0, c1, c2, _⟩ := labsAt_head hq2; go_simp; try with_reducible rfl))
  try simp only [Act.put, List.setIfInBounds_toArray, List.set_cons_zero, List.set_cons_succ]
  refine wpAnyH_take (i := 19) (oi := { dst := some 32, op := Go.Op.load 24 (Go.Operand.tmp 3), type := 24, pos := "law.go:48", after := #[{ on := 18, ground := Go.Ground.guard }], guard := some (18, false) }) (v := undef) rfl (by kernel_rfl) (by kernel_rfl) (by kernel_rfl) (fun _ _ _ h => h) (Or.inr ⟨by rfl, rfl⟩) hS3 ?_
  try simp only [Act.put, List.setIfInBounds_toArray, List.set_cons_zero, List.set_cons_succ]
  refine wpAnyH_take (i := 20) (oi := { dst := some 33, op := Go.Op.load 24 (Go.Operand.tmp 4), type := 24, pos := "law.go:48", after := #[{ on := 18, ground := Go.Ground.guard }], guard := some (18, false) }) (v := undef) rfl (by kernel_rfl) (by kernel_rfl) (by kernel_rfl) (fun _ _ _ h => h) (Or.inr ⟨by rfl, rfl⟩) hS3 ?_
  try simp only [Act.put, List.setIfInBounds_toArray, List.set_cons_zero, List.set_cons_succ]
  refine wpAnyH_take (i := 21) (oi := { dst := some 34, op := Go.Op.binOp Go.BinOp.eql 24 (Go.Operand.tmp 32) (Go.Operand.tmp 33) 24, type := 4, pos := "law.go:48", after := #[{ on := 19, ground := Go.Ground.data }, { on := 20, ground := Go.Ground.data }, { on := 18, ground := Go.Ground.guard }], guard := some (18, false) }) (v := undef) rfl (by kernel_rfl) (by kernel_rfl) (by kernel_rfl) (fun _ _ _ h => h) (Or.inr ⟨by rfl, rfl⟩) hS3 ?_
  try simp only [Act.put, List.setIfInBounds_toArray, List.set_cons_zero, List.set_cons_succ]
  refine wpAnyH_take (i := 22) (oi := { dst := some 35, op := Go.Op.pick (Go.Operand.tmp 31) (Go.Operand.const (Go.Value.bool true)) (Go.Operand.tmp 34), type := 4, pos := "law.go:48", after := #[{ on := 18, ground := Go.Ground.data }, { on := 21, ground := Go.Ground.data }, { on := 9, ground := Go.Ground.guard }], guard := some (9, true) }) (v := ?_) rfl (by kernel_rfl) (by kernel_rfl) (by kernel_rfl) (fun _ _ _ h => h) (Or.inl ⟨by rfl, ?_⟩) hS3 ?_; rotate_left; (· (intro wq hSw; obtain ⟨a0, a1, a2, hq⟩ := labsAt_head hSw; obtain ⟨b0, b1, b2, hq2⟩ := labsAt_head hq; obtain ⟨c0, c1, c2, _⟩ := labsAt_head hq2; go_simp; try with_reducible rfl))
  try simp only [Act.put, List.setIfInBounds_toArray, List.set_cons_zero, List.set_cons_succ]
  refine wpAnyH_take (i := 23) (oi := { dst := some 36, op := Go.Op.pick (Go.Operand.tmp 22) (Go.Operand.tmp 35) (Go.Operand.const (Go.Value.bool false)), type := 4, pos := "law.go:48", after := #[{ on := 9, ground := Go.Ground.data }, { on := 22, ground := Go.Ground.data }], guard := none }) (v := ?_) rfl (by kernel_rfl) (by kernel_rfl) (by kernel_rfl) (fun _ _ _ h => h) (Or.inl ⟨by rfl, ?_⟩) hS3 ?_; rotate_left; (· (intro wq hSw; obtain ⟨a0, a1, a2, hq⟩ := labsAt_head hSw; obtain ⟨b0, b1, b2, hq2⟩ := labsAt_head hq; obtain ⟨c0, c1, c2, _⟩ := labsAt_head hq2; go_simp; try with_reducible rfl))
  try simp only [Act.put, List.setIfInBounds_toArray, List.set_cons_zero, List.set_cons_succ]
  refine wpAnyH_take (i := 24) (oi := { dst := some 37, op := Go.Op.move (Go.Operand.tmp 36), type := 4, pos := "law.go:48", after := #[{ on := 23, ground := Go.Ground.data }, { on := 18, ground := Go.Ground.chain }], guard := none }) (v := ?_) rfl (by kernel_rfl) (by kernel_rfl) (by kernel_rfl) (fun _ _ _ h => h) (Or.inl ⟨by rfl, ?_⟩) hS3 ?_; rotate_left; (· (intro wq hSw; obtain ⟨a0, a1, a2, hq⟩ := labsAt_head hSw; obtain ⟨b0, b1, b2, hq2⟩ := labsAt_head hq; obtain ⟨c0, c1, c2, _⟩ := labsAt_head hq2; go_simp; try with_reducible rfl))
  try simp only [Act.put, List.setIfInBounds_toArray, List.set_cons_zero, List.set_cons_succ]
  refine wpAnyH_take (i := 25) (oi := { dst := some 38, op := Go.Op.move (Go.Operand.tmp 8), type := 4, pos := "law.go:48", after := #[{ on := 24, ground := Go.Ground.guard }], guard := some (24, true) }) (v := ?_) rfl (by kernel_rfl) (by kernel_rfl) (by kernel_rfl) (fun _ _ _ h => h) (Or.inl ⟨by rfl, ?_⟩) hS3 ?_; rotate_left; (· (intro wq hSw; obtain ⟨a0, a1, a2, hq⟩ := labsAt_head hSw; obtain ⟨b0, b1, b2, hq2⟩ := labsAt_head hq; obtain ⟨c0, c1, c2, _⟩ := labsAt_head hq2; go_simp; try with_reducible rfl))
  try simp only [Act.put, List.setIfInBounds_toArray, List.set_cons_zero, List.set_cons_succ]
  refine wpAnyH_take (i := 26) (oi := { dst := some 39, op := Go.Op.unOp Go.UnOp.not 4 (Go.Operand.tmp 38), type := 4, pos := "law.go:48", after := #[{ on := 25, ground := Go.Ground.data }, { on := 24, ground := Go.Ground.guard }], guard := some (24, true) }) (v := ?_) rfl (by kernel_rfl) (by kernel_rfl) (by kernel_rfl) (fun _ _ _ h => h) (Or.inl ⟨by rfl, ?_⟩) hS3 ?_; rotate_left; (· (intro wq hSw; obtain ⟨a0, a1, a2, hq⟩ := labsAt_head hSw; obtain ⟨b0, b1, b2, hq2⟩ := labsAt_head hq; obtain ⟨c0, c1, c2, _⟩ := labsAt_head hq2; go_simp; try with_reducible rfl))
  try simp only [Act.put, List.setIfInBounds_toArray, List.set_cons_zero, List.set_cons_succ]
  refine wpAnyH_take (i := 27) (oi := { dst := some 40, op := Go.Op.move (Go.Operand.tmp 39), type := 4, pos := "law.go:48", after := #[{ on := 26, ground := Go.Ground.data }, { on := 24, ground := Go.Ground.chain }, { on := 24, ground := Go.Ground.guard }], guard := some (24, true) }) (v := ?_) rfl (by kernel_rfl) (by kernel_rfl) (by kernel_rfl) (fun _ _ _ h => h) (Or.inl ⟨by rfl, ?_⟩) hS3 ?_; rotate_left; (· (intro wq hSw; obtain ⟨a0, a1, a2, hq⟩ := labsAt_head hSw; obtain ⟨b0, b1, b2, hq2⟩ := labsAt_head hq; obtain ⟨c0, c1, c2, _⟩ := labsAt_head hq2; go_simp; try with_reducible rfl))
  try simp only [Act.put, List.setIfInBounds_toArray, List.set_cons_zero, List.set_cons_succ]
  refine wpAnyH_take (i := 28) (oi := { dst := some 41, op := Go.Op.load 24 (Go.Operand.tmp 4), type := 24, pos := "law.go:48", after := #[{ on := 27, ground := Go.Ground.guard }], guard := some (27, false) }) (v := ?_) rfl (by kernel_rfl) (by kernel_rfl) (by kernel_rfl) (fun _ _ _ h => h) (Or.inl ⟨by rfl, ?_⟩) hS3 ?_; rotate_left; (· (intro wq hSw; obtain ⟨a0, a1, a2, hq⟩ := labsAt_head hSw; obtain ⟨b0, b1, b2, hq2⟩ := labsAt_head hq; obtain ⟨c0, c1, c2, _⟩ := labsAt_head hq2; go_simp; try with_reducible rfl))
  try simp only [Act.put, List.setIfInBounds_toArray, List.set_cons_zero, List.set_cons_succ]
  refine wpAnyH_take (i := 29) (oi := { dst := some 42, op := Go.Op.load 24 (Go.Operand.tmp 5), type := 24, pos := "law.go:48", after := #[{ on := 27, ground := Go.Ground.guard }], guard := some (27, false) }) (v := ?_) rfl (by kernel_rfl) (by kernel_rfl) (by kernel_rfl) (fun _ _ _ h => h) (Or.inl ⟨by rfl, ?_⟩) hS3 ?_; rotate_left; (· (intro wq hSw; obtain ⟨a0, a1, a2, hq⟩ := labsAt_head hSw; obtain ⟨b0, b1, b2, hq2⟩ := labsAt_head hq; obtain ⟨c0, c1, c2, _⟩ := labsAt_head hq2; go_simp; try with_reducible rfl))
  try simp only [Act.put, List.setIfInBounds_toArray, List.set_cons_zero, List.set_cons_succ]
  refine wpAnyH_ready (rs := [30]) (by kernel_rfl) (by simp) ?_
  refine AllReadyH.cons (o := { dst := some 43, op := Go.Op.call { callee := Go.Callee.value (Go.Operand.func 18), args := #[Go.Operand.tmp 41, Go.Operand.tmp 42], argTypes := #[24, 24] }, type := 4, pos := "law.go:48", after := #[{ on := 28, ground := Go.Ground.data }, { on := 29, ground := Go.Ground.data }, { on := 27, ground := Go.Ground.chain }, { on := 27, ground := Go.Ground.guard }], guard := some (27, false) }) rfl (fun K hK => ?_) AllReadyH.nil
  go_simp
  refine (Under_any b c hfb hfc _).mono ?_
  rintro e w6 ⟨he, hb⟩
  rw [BC.out] at he
  subst he
  refine hK.out _ _ (LabsAt.later hS3 hb) (fun hS4 => ?_)
  clear hK K hS3 hb
  try simp only [Act.put, List.setIfInBounds_toArray, List.set_cons_zero, List.set_cons_succ]
  refine wpAnyH_take (i := 31) (oi := { dst := some 44, op := Go.Op.unOp Go.UnOp.not 4 (Go.Operand.tmp 43), type := 4, pos := "law.go:48", after := #[{ on := 30, ground := Go.Ground.data }, { on := 27, ground := Go.Ground.guard }], guard := some (27, false) }) (v := ?_) rfl (by kernel_rfl) (by kernel_rfl) (by kernel_rfl) (fun _ _ _ h => h) (Or.inl ⟨by rfl, ?_⟩) hS4 ?_; rotate_left; (· (intro wq hSw; obtain ⟨a0, a1, a2, hq⟩ := labsAt_head hSw; obtain ⟨b0, b1, b2, hq2⟩ := labsAt_head hq; obtain ⟨c0, c1, c2, _⟩ := labsAt_head hq2; go_simp; try with_reducible rfl))
  try simp only [Act.put, List.setIfInBounds_toArray, List.set_cons_zero, List.set_cons_succ]
  refine wpAnyH_take (i := 32) (oi := { dst := some 45, op := Go.Op.pick (Go.Operand.tmp 40) (Go.Operand.const (Go.Value.bool true)) (Go.Operand.tmp 44), type := 4, pos := "law.go:48", after := #[{ on := 27, ground := Go.Ground.data }, { on := 31, ground := Go.Ground.data }, { on := 24, ground := Go.Ground.guard }], guard := some (24, true) }) (v := ?_) rfl (by kernel_rfl) (by kernel_rfl) (by kernel_rfl) (fun _ _ _ h => h) (Or.inl ⟨by rfl, ?_⟩) hS4 ?_; rotate_left; (· (intro wq hSw; obtain ⟨a0, a1, a2, hq⟩ := labsAt_head hSw; obtain ⟨b0, b1, b2, hq2⟩ := labsAt_head hq; obtain ⟨c0, c1, c2, _⟩ := labsAt_head hq2; go_simp; try with_reducible rfl))
  try simp only [Act.put, List.setIfInBounds_toArray, List.set_cons_zero, List.set_cons_succ]
  refine wpAnyH_take (i := 33) (oi := { dst := some 46, op := Go.Op.move (Go.Operand.tmp 45), type := 4, pos := "law.go:48", after := #[{ on := 32, ground := Go.Ground.data }, { on := 30, ground := Go.Ground.chain }, { on := 24, ground := Go.Ground.guard }], guard := some (24, true) }) (v := ?_) rfl (by kernel_rfl) (by kernel_rfl) (by kernel_rfl) (fun _ _ _ h => h) (Or.inl ⟨by rfl, ?_⟩) hS4 ?_; rotate_left; (· (intro wq hSw; obtain ⟨a0, a1, a2, hq⟩ := labsAt_head hSw; obtain ⟨b0, b1, b2, hq2⟩ := labsAt_head hq; obtain ⟨c0, c1, c2, _⟩ := labsAt_head hq2; go_simp; try with_reducible rfl))
  try simp only [Act.put, List.setIfInBounds_toArray, List.set_cons_zero, List.set_cons_succ]
  refine wpAnyH_take (i := 34) (oi := { dst := some 47, op := Go.Op.load 24 (Go.Operand.tmp 3), type := 24, pos := "law.go:48", after := #[{ on := 33, ground := Go.Ground.guard }], guard := some (33, false) }) (v := ?_) rfl (by kernel_rfl) (by kernel_rfl) (by kernel_rfl) (fun _ _ _ h => h) (Or.inl ⟨by rfl, ?_⟩) hS4 ?_; rotate_left; (· (intro wq hSw; obtain ⟨a0, a1, a2, hq⟩ := labsAt_head hSw; obtain ⟨b0, b1, b2, hq2⟩ := labsAt_head hq; obtain ⟨c0, c1, c2, _⟩ := labsAt_head hq2; go_simp; try with_reducible rfl))
  try simp only [Act.put, List.setIfInBounds_toArray, List.set_cons_zero, List.set_cons_succ]
  refine wpAnyH_take (i := 35) (oi := { dst := some 48, op := Go.Op.load 24 (Go.Operand.tmp 5), type := 24, pos := "law.go:48", after := #[{ on := 33, ground := Go.Ground.guard }], guard := some (33, false) }) (v := ?_) rfl (by kernel_rfl) (by kernel_rfl) (by kernel_rfl) (fun _ _ _ h => h) (Or.inl ⟨by rfl, ?_⟩) hS4 ?_; rotate_left; (· (intro wq hSw; obtain ⟨a0, a1, a2, hq⟩ := labsAt_head hSw; obtain ⟨b0, b1, b2, hq2⟩ := labsAt_head hq; obtain ⟨c0, c1, c2, _⟩ := labsAt_head hq2; go_simp; try with_reducible rfl))
  try simp only [Act.put, List.setIfInBounds_toArray, List.set_cons_zero, List.set_cons_succ]
  refine wpAnyH_ready (rs := [36]) (by kernel_rfl) (by simp) ?_
  refine AllReadyH.cons (o := { dst := some 49, op := Go.Op.call { callee := Go.Callee.value (Go.Operand.func 18), args := #[Go.Operand.tmp 47, Go.Operand.tmp 48], argTypes := #[24, 24] }, type := 4, pos := "law.go:48", after := #[{ on := 34, ground := Go.Ground.data }, { on := 35, ground := Go.Ground.data }, { on := 33, ground := Go.Ground.chain }, { on := 33, ground := Go.Ground.guard }], guard := some (33, false) }) rfl (fun K hK => ?_) AllReadyH.nil
  go_simp
  refine (Under_any a c hfa hfc _).mono ?_
  rintro e w7 ⟨he, hb⟩
  rw [AC.out] at he
  subst he
  refine hK.out _ _ (LabsAt.later hS4 hb) (fun hS5 => ?_)
  clear hK K hS4 hb
  try simp only [Act.put, List.setIfInBounds_toArray, List.set_cons_zero, List.set_cons_succ]
  refine wpAnyH_take (i := 37) (oi := { dst := some 50, op := Go.Op.pick (Go.Operand.tmp 46) (Go.Operand.const (Go.Value.bool true)) (Go.Operand.tmp 49), type := 4, pos := "law.go:48", after := #[{ on := 33, ground := Go.Ground.data }, { on := 36, ground := Go.Ground.data }, { on := 24, ground := Go.Ground.guard }], guard := some (24, true) }) (v := ?_) rfl (by kernel_rfl) (by kernel_rfl) (by kernel_rfl) (fun _ _ _ h => h) (Or.inl ⟨by rfl, ?_⟩) hS5 ?_; rotate_left; (· (intro wq hSw; obtain ⟨a0, a1, a2, hq⟩ := labsAt_head hSw; obtain ⟨b0, b1, b2, hq2⟩ := labsAt_head hq; obtain ⟨c0, c1, c2, _⟩ := labsAt_head hq2; go_simp; try with_reducible rfl))
  try simp only [Act.put, List.setIfInBounds_toArray, List.set_cons_zero, List.set_cons_succ]
  refine wpAnyH_take (i := 38) (oi := { dst := some 51, op := Go.Op.pick (Go.Operand.tmp 37) (Go.Operand.tmp 50) (Go.Operand.const (Go.Value.bool false)), type := 4, pos := "law.go:48", after := #[{ on := 24, ground := Go.Ground.data }, { on := 37, ground := Go.Ground.data }], guard := none }) (v := ?_) rfl (by kernel_rfl) (by kernel_rfl) (by kernel_rfl) (fun _ _ _ h => h) (Or.inl ⟨by rfl, ?_⟩) hS5 ?_; rotate_left; (· (intro wq hSw; obtain ⟨a0, a1, a2, hq⟩ := labsAt_head hSw; obtain ⟨b0, b1, b2, hq2⟩ := labsAt_head hq; obtain ⟨c0, c1, c2, _⟩ := labsAt_head hq2; go_simp; try with_reducible rfl))
  try simp only [Act.put, List.setIfInBounds_toArray, List.set_cons_zero, List.set_cons_succ]
  refine wpAnyH_take (i := 39) (oi := { dst := some 52, op := Go.Op.move (Go.Operand.tmp 51), type := 4, pos := "law.go:48", after := #[{ on := 38, ground := Go.Ground.data }, { on := 36, ground := Go.Ground.chain }], guard := none }) (v := ?_) rfl (by kernel_rfl) (by kernel_rfl) (by kernel_rfl) (fun _ _ _ h => h) (Or.inl ⟨by rfl, ?_⟩) hS5 ?_; rotate_left; (· (intro wq hSw; obtain ⟨a0, a1, a2, hq⟩ := labsAt_head hSw; obtain ⟨b0, b1, b2, hq2⟩ := labsAt_head hq; obtain ⟨c0, c1, c2, _⟩ := labsAt_head hq2; go_simp; try with_reducible rfl))
  try simp only [Act.put, List.setIfInBounds_toArray, List.set_cons_zero, List.set_cons_succ]
  refine wpAnyH_take (i := 40) (oi := { dst := some 53, op := Go.Op.load 24 (Go.Operand.tmp 3), type := 24, pos := "law.go:48", after := #[{ on := 39, ground := Go.Ground.guard }], guard := some (39, true) }) (v := ?_) rfl (by kernel_rfl) (by kernel_rfl) (by kernel_rfl) (fun _ _ _ h => h) (Or.inl ⟨by rfl, ?_⟩) hS5 ?_; rotate_left; (· (intro wq hSw; obtain ⟨a0, a1, a2, hq⟩ := labsAt_head hSw; obtain ⟨b0, b1, b2, hq2⟩ := labsAt_head hq; obtain ⟨c0, c1, c2, _⟩ := labsAt_head hq2; go_simp; try with_reducible rfl))
  try simp only [Act.put, List.setIfInBounds_toArray, List.set_cons_zero, List.set_cons_succ]
  refine wpAnyH_ready (rs := [41]) (by kernel_rfl) (by simp) ?_
  refine AllReadyH.cons (o := { dst := some 54, op := Go.Op.call { callee := Go.Callee.value (Go.Operand.func 16), args := #[Go.Operand.tmp 53], argTypes := #[24] }, type := 4, pos := "law.go:48", after := #[{ on := 40, ground := Go.Ground.data }, { on := 39, ground := Go.Ground.chain }, { on := 39, ground := Go.Ground.guard }], guard := some (39, true) }) rfl (fun K hK => ?_) AllReadyH.nil
  go_simp
  refine (right_any a hfa _).mono ?_
  rintro e w8 ⟨he, hb⟩
  rw [RA.out] at he
  subst he
  refine hK.out _ _ (LabsAt.later hS5 hb) (fun hS6 => ?_)
  clear hK K hS5 hb
  try simp only [Act.put, List.setIfInBounds_toArray, List.set_cons_zero, List.set_cons_succ]
  refine wpAnyH_take (i := 42) (oi := { dst := some 55, op := Go.Op.unOp Go.UnOp.not 4 (Go.Operand.tmp 54), type := 4, pos := "law.go:48", after := #[{ on := 41, ground := Go.Ground.data }, { on := 39, ground := Go.Ground.guard }], guard := some (39, true) }) (v := ?_) rfl (by kernel_rfl) (by kernel_rfl) (by kernel_rfl) (fun _ _ _ h => h) (Or.inl ⟨by rfl, ?_⟩) hS6 ?_; rotate_left; (· (intro wq hSw; obtain ⟨a0, a1, a2, hq⟩ := labsAt_head hSw; obtain ⟨b0, b1, b2, hq2⟩ := labsAt_head hq; obtain ⟨c0, c1, c2, _⟩ := labsAt_head hq2; go_simp; try with_reducible rfl))
  try simp only [Act.put, List.setIfInBounds_toArray, List.set_cons_zero, List.set_cons_succ]
  refine wpAnyH_take (i := 43) (oi := { dst := some 56, op := Go.Op.move (Go.Operand.tmp 55), type := 4, pos := "law.go:48", after := #[{ on := 42, ground := Go.Ground.data }, { on := 41, ground := Go.Ground.chain }, { on := 39, ground := Go.Ground.guard }], guard := some (39, true) }) (v := ?_) rfl (by kernel_rfl) (by kernel_rfl) (by kernel_rfl) (fun _ _ _ h => h) (Or.inl ⟨by rfl, ?_⟩) hS6 ?_; rotate_left; (· (intro wq hSw; obtain ⟨a0, a1, a2, hq⟩ := labsAt_head hSw; obtain ⟨b0, b1, b2, hq2⟩ := labsAt_head hq; obtain ⟨c0, c1, c2, _⟩ := labsAt_head hq2; go_simp; try with_reducible rfl))
  try simp only [Act.put, List.setIfInBounds_toArray, List.set_cons_zero, List.set_cons_succ]
  refine wpAnyH_take (i := 45) (oi := { dst := some 58, op := Go.Op.load 24 (Go.Operand.tmp 3), type := 24, pos := "law.go:48", after := #[{ on := 43, ground := Go.Ground.guard }], guard := some (43, false) }) (v := ?_) rfl (by kernel_rfl) (by kernel_rfl) (by kernel_rfl) (fun _ _ _ h => h) (Or.inl ⟨by rfl, ?_⟩) hS6 ?_; rotate_left; (· (intro wq hSw; obtain ⟨a0, a1, a2, hq⟩ := labsAt_head hSw; obtain ⟨b0, b1, b2, hq2⟩ := labsAt_head hq; obtain ⟨c0, c1, c2, _⟩ := labsAt_head hq2; go_simp; try with_reducible rfl))
  try simp only [Act.put, List.setIfInBounds_toArray, List.set_cons_zero, List.set_cons_succ]
  refine wpAnyH_ready (rs := [44]) (by kernel_rfl) (by simp) ?_
  refine AllReadyH.cons (o := { dst := some 57, op := Go.Op.call { callee := Go.Callee.value (Go.Operand.func 22), args := #[], argTypes := #[] }, type := 24, pos := "law.go:48", after := #[{ on := 43, ground := Go.Ground.chain }, { on := 43, ground := Go.Ground.guard }], guard := some (43, false) }) rfl (fun K hK => ?_) AllReadyH.nil
  go_simp
  refine (bottom_any _).mono ?_
  rintro e w9 ⟨he, hb⟩
  subst he
  refine hK.out _ _ (LabsAt.later hS6 hb) (fun hS7 => ?_)
  clear hK K hS6 hb
  try simp only [Act.put, List.setIfInBounds_toArray, List.set_cons_zero, List.set_cons_succ]
  refine wpAnyH_ready (rs := [46]) (by kernel_rfl) (by simp) ?_
  refine AllReadyH.cons (o := { dst := some 59, op := Go.Op.call { callee := Go.Callee.value (Go.Operand.func 18), args := #[Go.Operand.tmp 57, Go.Operand.tmp 58], argTypes := #[24, 24] }, type := 4, pos := "law.go:48", after := #[{ on := 44, ground := Go.Ground.data }, { on := 45, ground := Go.Ground.data }, { on := 44, ground := Go.Ground.chain }, { on := 43, ground := Go.Ground.guard }], guard := some (43, false) }) rfl (fun K hK => ?_) AllReadyH.nil
  go_simp
  refine (UnderBot a hfa RA.out _).mono ?_
  rintro e w10 ⟨he, hb⟩
  subst he
  refine hK.out _ _ (LabsAt.later hS7 hb) (fun hS8 => ?_)
  clear hK K hS7 hb
  try simp only [Act.put, List.setIfInBounds_toArray, List.set_cons_zero, List.set_cons_succ]
  refine wpAnyH_take (i := 47) (oi := { dst := some 60, op := Go.Op.move (Go.Operand.tmp 59), type := 4, pos := "law.go:48", after := #[{ on := 46, ground := Go.Ground.data }, { on := 46, ground := Go.Ground.chain }, { on := 43, ground := Go.Ground.guard }], guard := some (43, false) }) (v := ?_) rfl (by kernel_rfl) (by kernel_rfl) (by kernel_rfl) (fun _ _ _ h => h) (Or.inl ⟨by rfl, ?_⟩) hS8 ?_; rotate_left; (· (intro wq hSw; obtain ⟨a0, a1, a2, hq⟩ := labsAt_head hSw; obtain ⟨b0, b1, b2, hq2⟩ := labsAt_head hq; obtain ⟨c0, c1, c2, _⟩ := labsAt_head hq2; go_simp; try with_reducible rfl))
  try simp only [Act.put, List.setIfInBounds_toArray, List.set_cons_zero, List.set_cons_succ]
  refine wpAnyH_take (i := 48) (oi := { dst := some 61, op := Go.Op.load 24 (Go.Operand.tmp 3), type := 24, pos := "law.go:48", after := #[{ on := 47, ground := Go.Ground.guard }], guard := some (47, true) }) (v := ?_) rfl (by kernel_rfl) (by kernel_rfl) (by kernel_rfl) (fun _ _ _ h => h) (Or.inl ⟨by rfl, ?_⟩) hS8 ?_; rotate_left; (· (intro wq hSw; obtain ⟨a0, a1, a2, hq⟩ := labsAt_head hSw; obtain ⟨b0, b1, b2, hq2⟩ := labsAt_head hq; obtain ⟨c0, c1, c2, _⟩ := labsAt_head hq2; go_simp; try with_reducible rfl))
  try simp only [Act.put, List.setIfInBounds_toArray, List.set_cons_zero, List.set_cons_succ]
  refine wpAnyH_ready (rs := [49]) (by kernel_rfl) (by simp) ?_
  refine AllReadyH.cons (o := { dst := some 62, op := Go.Op.call { callee := Go.Callee.value (Go.Operand.func 24), args := #[], argTypes := #[] }, type := 24, pos := "law.go:48", after := #[{ on := 47, ground := Go.Ground.chain }, { on := 47, ground := Go.Ground.guard }], guard := some (47, true) }) rfl (fun K hK => ?_) AllReadyH.nil
  go_simp
  refine (top_any _).mono ?_
  rintro e w11 ⟨he, hb⟩
  subst he
  refine hK.out _ _ (LabsAt.later hS8 hb) (fun hS9 => ?_)
  clear hK K hS8 hb
  try simp only [Act.put, List.setIfInBounds_toArray, List.set_cons_zero, List.set_cons_succ]
  refine wpAnyH_ready (rs := [50]) (by kernel_rfl) (by simp) ?_
  refine AllReadyH.cons (o := { dst := some 63, op := Go.Op.call { callee := Go.Callee.value (Go.Operand.func 18), args := #[Go.Operand.tmp 61, Go.Operand.tmp 62], argTypes := #[24, 24] }, type := 4, pos := "law.go:48", after := #[{ on := 48, ground := Go.Ground.data }, { on := 49, ground := Go.Ground.data }, { on := 49, ground := Go.Ground.chain }, { on := 47, ground := Go.Ground.guard }], guard := some (47, true) }) rfl (fun K hK => ?_) AllReadyH.nil
  go_simp
  refine (UnderTop a hfa RA.out _).mono ?_
  rintro e w12 ⟨he, hb⟩
  subst he
  refine hK.out _ _ (LabsAt.later hS9 hb) (fun hS10 => ?_)
  clear hK K hS9 hb
  try simp only [Act.put, List.setIfInBounds_toArray, List.set_cons_zero, List.set_cons_succ]
  refine wpAnyH_take (i := 51) (oi := { dst := some 64, op := Go.Op.pick (Go.Operand.tmp 60) (Go.Operand.tmp 63) (Go.Operand.const (Go.Value.bool false)), type := 4, pos := "law.go:48", after := #[{ on := 47, ground := Go.Ground.data }, { on := 50, ground := Go.Ground.data }, { on := 43, ground := Go.Ground.guard }], guard := some (43, false) }) (v := ?_) rfl (by kernel_rfl) (by kernel_rfl) (by kernel_rfl) (fun _ _ _ h => h) (Or.inl ⟨by rfl, ?_⟩) hS10 ?_; rotate_left; (· (intro wq hSw; obtain ⟨a0, a1, a2, hq⟩ := labsAt_head hSw; obtain ⟨b0, b1, b2, hq2⟩ := labsAt_head hq; obtain ⟨c0, c1, c2, _⟩ := labsAt_head hq2; go_simp; try with_reducible rfl))
  try simp only [Act.put, List.setIfInBounds_toArray, List.set_cons_zero, List.set_cons_succ]
  refine wpAnyH_take (i := 52) (oi := { dst := some 65, op := Go.Op.pick (Go.Operand.tmp 56) (Go.Operand.const (Go.Value.bool true)) (Go.Operand.tmp 64), type := 4, pos := "law.go:48", after := #[{ on := 43, ground := Go.Ground.data }, { on := 51, ground := Go.Ground.data }, { on := 39, ground := Go.Ground.guard }], guard := some (39, true) }) (v := ?_) rfl (by kernel_rfl) (by kernel_rfl) (by kernel_rfl) (fun _ _ _ h => h) (Or.inl ⟨by rfl, ?_⟩) hS10 ?_; rotate_left; (· (intro wq hSw; obtain ⟨a0, a1, a2, hq⟩ := labsAt_head hSw; obtain ⟨b0, b1, b2, hq2⟩ := labsAt_head hq; obtain ⟨c0, c1, c2, _⟩ := labsAt_head hq2; go_simp; try with_reducible rfl))
  try simp only [Act.put, List.setIfInBounds_toArray, List.set_cons_zero, List.set_cons_succ]
  refine wpAnyH_take (i := 53) (oi := { dst := some 66, op := Go.Op.pick (Go.Operand.tmp 52) (Go.Operand.tmp 65) (Go.Operand.const (Go.Value.bool false)), type := 4, pos := "law.go:48", after := #[{ on := 39, ground := Go.Ground.data }, { on := 52, ground := Go.Ground.data }], guard := none }) (v := ?_) rfl (by kernel_rfl) (by kernel_rfl) (by kernel_rfl) (fun _ _ _ h => h) (Or.inl ⟨by rfl, ?_⟩) hS10 ?_; rotate_left; (· (intro wq hSw; obtain ⟨a0, a1, a2, hq⟩ := labsAt_head hSw; obtain ⟨b0, b1, b2, hq2⟩ := labsAt_head hq; obtain ⟨c0, c1, c2, _⟩ := labsAt_head hq2; go_simp; try with_reducible rfl))
  try simp only [Act.put, List.setIfInBounds_toArray, List.set_cons_zero, List.set_cons_succ]
  refine wpAnyH_take (i := 54) (oi := { dst := some 6, op := Go.Op.assign (Go.Operand.tmp 66), type := 4, pos := "law.go:48", after := #[{ on := 53, ground := Go.Ground.data }, { on := 50, ground := Go.Ground.chain }, { on := 0, ground := Go.Ground.phase }, { on := 1, ground := Go.Ground.phase }, { on := 2, ground := Go.Ground.phase }, { on := 3, ground := Go.Ground.phase }, { on := 4, ground := Go.Ground.phase }, { on := 5, ground := Go.Ground.phase }, { on := 6, ground := Go.Ground.phase }, { on := 7, ground := Go.Ground.phase }, { on := 8, ground := Go.Ground.phase }, { on := 9, ground := Go.Ground.phase }, { on := 10, ground := Go.Ground.phase }, { on := 11, ground := Go.Ground.phase }, { on := 12, ground := Go.Ground.phase }, { on := 13, ground := Go.Ground.phase }, { on := 14, ground := Go.Ground.phase }, { on := 15, ground := Go.Ground.phase }, { on := 16, ground := Go.Ground.phase }, { on := 17, ground := Go.Ground.phase }, { on := 18, ground := Go.Ground.phase }, { on := 19, ground := Go.Ground.phase }, { on := 20, ground := Go.Ground.phase }, { on := 21, ground := Go.Ground.phase }, { on := 22, ground := Go.Ground.phase }, { on := 23, ground := Go.Ground.phase }, { on := 24, ground := Go.Ground.phase }, { on := 25, ground := Go.Ground.phase }, { on := 26, ground := Go.Ground.phase }, { on := 27, ground := Go.Ground.phase }, { on := 28, ground := Go.Ground.phase }, { on := 29, ground := Go.Ground.phase }, { on := 30, ground := Go.Ground.phase }, { on := 31, ground := Go.Ground.phase }, { on := 32, ground := Go.Ground.phase }, { on := 33, ground := Go.Ground.phase }, { on := 34, ground := Go.Ground.phase }, { on := 35, ground := Go.Ground.phase }, { on := 36, ground := Go.Ground.phase }, { on := 37, ground := Go.Ground.phase }, { on := 38, ground := Go.Ground.phase }, { on := 39, ground := Go.Ground.phase }, { on := 40, ground := Go.Ground.phase }, { on := 41, ground := Go.Ground.phase }, { on := 42, ground := Go.Ground.phase }, { on := 43, ground := Go.Ground.phase }, { on := 44, ground := Go.Ground.phase }, { on := 45, ground := Go.Ground.phase }, { on := 46, ground := Go.Ground.phase }, { on := 47, ground := Go.Ground.phase }, { on := 48, ground := Go.Ground.phase }, { on := 49, ground := Go.Ground.phase }, { on := 50, ground := Go.Ground.phase }, { on := 51, ground := Go.Ground.phase }, { on := 52, ground := Go.Ground.phase }, { on := 53, ground := Go.Ground.phase }], guard := none }) (v := ?_) rfl (by kernel_rfl) (by kernel_rfl) (by kernel_rfl) (fun _ _ _ h => h) (Or.inl ⟨by rfl, ?_⟩) hS10 ?_; rotate_left; (· (intro wq hSw; obtain ⟨a0, a1, a2, hq⟩ := labsAt_head hSw; obtain ⟨b0, b1, b2, hq2⟩ := labsAt_head hq; obtain ⟨c0, c1, c2, _⟩ := labsAt_head hq2; go_simp; try with_reducible rfl))
  try simp only [Act.put, List.setIfInBounds_toArray, List.set_cons_zero, List.set_cons_succ]
  refine wpAnyH_done (by kernel_rfl) ?_ _
  have hB := hS10.below
  clear hS10
  go_wp2
  go_ret
  exact ⟨rfl, hB⟩

set_option maxRecDepth 100000 in
set_option maxHeartbeats 4000000 in
theorem labelOrders_E (a b c : Lab) (hfa : a.fits) (hfb : b.fits) (hfc : c.fits) (hab : a.under b = true) (hba : b.under a = true) (hbc : b.under c = false) (w : World) (hg : ErrT w) :
    Calls Tryd.prog 5 #[.agg #[.int .i64 a.l, .int .u64 a.c, .int .i64 a.i], .agg #[.int .i64 b.l, .int .u64 b.c, .int .i64 b.i], .agg #[.int .i64 c.l, .int .u64 c.c, .int .i64 c.i]] w fun e w' => e = .returned (.bool true) ∧ Below w.heap.size w w' := by
  have _hu := And.intro hfa (And.intro hfb (hfc))
  clear _hu
  have hra : a.right = true := ((under_iff' hfa hfb).1 hab).1
  have AA := Lib.hid (under_refl a hfa)
  have AB := Lib.hid hab
  have RA := Lib.hid hra
  have BA := Lib.hid hba
  have BC := Lib.hid hbc
  have hs : a.same b = true := (Lab.same_iff a b).2 (under_antisymm hfa hfb hab hba)
  have qa := eqL a b
  have qb := eqInL a b
  rw [hs] at qa qb
  clear hs
  clear hab hra hba hbc
  obtain ⟨hB, hg1, a0, a1, a2, b0, b1, b2, c0, c1, c2⟩ := three_at w a b c hg
  have hM := labsAt_cons a0 a1 a2 (labsAt_cons b0 b1 b2 (labsAt_cons c0 c1 c2 (labsAt_nil hB hg1)))
  clear hg
  go_enter Tryd.func5, Tryd.ntmps5
  go_wp2_with fail
  refine (shown_any _ hg1).mono ?_
  rintro e w1 ⟨he, hb⟩
  subst he
  replace a0 := cell_later hb a0
  replace a1 := cell_later hb a1
  replace a2 := cell_later hb a2
  replace b0 := cell_later hb b0
  replace b1 := cell_later hb b1
  replace b2 := cell_later hb b2
  replace c0 := cell_later hb c0
  replace c1 := cell_later hb c1
  replace c2 := cell_later hb c2
  replace hM := hM.later hb
  clear hb hB hg1
  go_wp2_with fail
  refine (Under_any a b hfa hfb _).mono ?_
  rintro e w2 ⟨he, hb⟩
  rw [AB.out] at he
  subst he
  replace hM := hM.later hb
  clear hb a0 a1 a2 b0 b1 b2 c0 c1 c2
  go_wp2_with fail
  refine wp_region_held_drew (S := LabsAt w [(w.heap.size, a), (w.heap.size + 1, b), (w.heap.size + 1 + 1, c)]) (by kernel_rfl) (hM.drew) (fun hS0 => ?_)
  clear hM
  refine wpAnyH_take (i := 0) (oi := { dst := some 13, op := Go.Op.move (Go.Operand.tmp 7), type := 4, pos := "law.go:48", after := #[], guard := none }) (v := ?_) rfl (by kernel_rfl) (by kernel_rfl) (by kernel_rfl) (fun _ _ _ h => h) (Or.inl ⟨by rfl, ?_⟩) hS0 ?_; rotate_left; (· (intro wq hSw; obtain ⟨a0, a1, a2, hq⟩ := labsAt_head hSw; obtain ⟨b0, b1, b2, hq2⟩ := labsAt_head hq; obtain ⟨c0, c1, c2, _⟩ := labsAt_head hq2; go_simp; try with_reducible rfl))
  try simp only [Act.put, List.setIfInBounds_toArray, List.set_cons_zero, List.set_cons_succ]
  refine wpAnyH_take (i := 1) (oi := { dst := some 14, op := Go.Op.move (Go.Operand.tmp 13), type := 4, pos := "law.go:48", after := #[{ on := 0, ground := Go.Ground.data }], guard := none }) (v := ?_) rfl (by kernel_rfl) (by kernel_rfl) (by kernel_rfl) (fun _ _ _ h => h) (Or.inl ⟨by rfl, ?_⟩) hS0 ?_; rotate_left; (· (intro wq hSw; obtain ⟨a0, a1, a2, hq⟩ := labsAt_head hSw; obtain ⟨b0, b1, b2, hq2⟩ := labsAt_head hq; obtain ⟨c0, c1, c2, _⟩ := labsAt_head hq2; go_simp; try with_reducible rfl))
  try simp only [Act.put, List.setIfInBounds_toArray, List.set_cons_zero, List.set_cons_succ]
  refine wpAnyH_take (i := 2) (oi := { dst := some 15, op := Go.Op.load 24 (Go.Operand.tmp 3), type := 24, pos := "law.go:48", after := #[{ on := 1, ground := Go.Ground.guard }], guard := some (1, true) }) (v := ?_) rfl (by kernel_rfl) (by kernel_rfl) (by kernel_rfl) (fun _ _ _ h => h) (Or.inl ⟨by rfl, ?_⟩) hS0 ?_; rotate_left; (· (intro wq hSw; obtain ⟨a0, a1, a2, hq⟩ := labsAt_head hSw; obtain ⟨b0, b1, b2, hq2⟩ := labsAt_head hq; obtain ⟨c0, c1, c2, _⟩ := labsAt_head hq2; go_simp; try with_reducible rfl))
  try simp only [Act.put, List.setIfInBounds_toArray, List.set_cons_zero, List.set_cons_succ]
  refine wpAnyH_take (i := 3) (oi := { dst := some 16, op := Go.Op.load 24 (Go.Operand.tmp 3), type := 24, pos := "law.go:48", after := #[{ on := 1, ground := Go.Ground.guard }], guard := some (1, true) }) (v := ?_) rfl (by kernel_rfl) (by kernel_rfl) (by kernel_rfl) (fun _ _ _ h => h) (Or.inl ⟨by rfl, ?_⟩) hS0 ?_; rotate_left; (· (intro wq hSw; obtain ⟨a0, a1, a2, hq⟩ := labsAt_head hSw; obtain ⟨b0, b1, b2, hq2⟩ := labsAt_head hq; obtain ⟨c0, c1, c2, _⟩ := labsAt_head hq2; go_simp; try with_reducible rfl))
  try simp only [Act.put, List.setIfInBounds_toArray, List.set_cons_zero, List.set_cons_succ]
  refine wpAnyH_take (i := 5) (oi := { dst := some 18, op := Go.Op.load 24 (Go.Operand.tmp 3), type := 24, pos := "law.go:48", after := #[{ on := 1, ground := Go.Ground.guard }], guard := some (1, true) }) (v := ?_) rfl (by kernel_rfl) (by kernel_rfl) (by kernel_rfl) (fun _ _ _ h => h) (Or.inl ⟨by rfl, ?_⟩) hS0 ?_; rotate_left; (· (intro wq hSw; obtain ⟨a0, a1, a2, hq⟩ := labsAt_head hSw; obtain ⟨b0, b1, b2, hq2⟩ := labsAt_head hq; obtain ⟨c0, c1, c2, _⟩ := labsAt_head hq2; go_simp; try with_reducible rfl))
  try simp only [Act.put, List.setIfInBounds_toArray, List.set_cons_zero, List.set_cons_succ]
  refine wpAnyH_ready (rs := [4]) (by kernel_rfl) (by simp) ?_
  refine AllReadyH.cons (o := { dst := some 17, op := Go.Op.call { callee := Go.Callee.value (Go.Operand.func 18), args := #[Go.Operand.tmp 15, Go.Operand.tmp 16], argTypes := #[24, 24] }, type := 4, pos := "law.go:48", after := #[{ on := 2, ground := Go.Ground.data }, { on := 3, ground := Go.Ground.data }, { on := 1, ground := Go.Ground.chain }, { on := 1, ground := Go.Ground.guard }], guard := some (1, true) }) rfl (fun K hK => ?_) AllReadyH.nil
  go_simp
  refine (Under_any a a hfa hfa _).mono ?_
  rintro e w3 ⟨he, hb⟩
  rw [AA.out, RA.out] at he
  subst he
  refine hK.out _ _ (LabsAt.later hS0 hb) (fun hS1 => ?_)
  clear hK K hS0 hb
  try simp only [Act.put, List.setIfInBounds_toArray, List.set_cons_zero, List.set_cons_succ]
  refine wpAnyH_ready (rs := [6]) (by kernel_rfl) (by simp) ?_
  refine AllReadyH.cons (o := { dst := some 19, op := Go.Op.call { callee := Go.Callee.value (Go.Operand.func 16), args := #[Go.Operand.tmp 18], argTypes := #[24] }, type := 4, pos := "law.go:48", after := #[{ on := 5, ground := Go.Ground.data }, { on := 4, ground := Go.Ground.chain }, { on := 1, ground := Go.Ground.guard }], guard := some (1, true) }) rfl (fun K hK => ?_) AllReadyH.nil
  go_simp
  refine (right_any a hfa _).mono ?_
  rintro e w4 ⟨he, hb⟩
  rw [RA.out] at he
  subst he
  refine hK.out _ _ (LabsAt.later hS1 hb) (fun hS2 => ?_)
  clear hK K hS1 hb
  try simp only [Act.put, List.setIfInBounds_toArray, List.set_cons_zero, List.set_cons_succ]
  refine wpAnyH_take (i := 7) (oi := { dst := some 20, op := Go.Op.binOp Go.BinOp.eql 4 (Go.Operand.tmp 17) (Go.Operand.tmp 19) 4, type := 4, pos := "law.go:48", after := #[{ on := 4, ground := Go.Ground.data }, { on := 6, ground := Go.Ground.data }, { on := 1, ground := Go.Ground.guard }], guard := some (1, true) }) (v := ?_) rfl (by kernel_rfl) (by kernel_rfl) (by kernel_rfl) (fun _ _ _ h => h) (Or.inl ⟨by rfl, ?_⟩) hS2 ?_; rotate_left; (· (intro wq hSw; obtain ⟨a0, a1, a2, hq⟩ := labsAt_head hSw; obtain ⟨b0, b1, b2, hq2⟩ := labsAt_head hq; obtain ⟨c0, c1, c2, _⟩ := labsAt_head hq2; go_simp; try with_reducible rfl))
  try simp only [Act.put, List.setIfInBounds_toArray, List.set_cons_zero, List.set_cons_succ]
  refine wpAnyH_take (i := 8) (oi := { dst := some 21, op := Go.Op.pick (Go.Operand.tmp 14) (Go.Operand.tmp 20) (Go.Operand.const (Go.Value.bool false)), type := 4, pos := "law.go:48", after := #[{ on := 1, ground := Go.Ground.data }, { on := 7, ground := Go.Ground.data }], guard := none }) (v := ?_) rfl (by kernel_rfl) (by kernel_rfl) (by kernel_rfl) (fun _ _ _ h => h) (Or.inl ⟨by rfl, ?_⟩) hS2 ?_; rotate_left; (· (intro wq hSw; obtain ⟨a0, a1, a2, hq⟩ := labsAt_head hSw; obtain ⟨b0, b1, b2, hq2⟩ := labsAt_head hq; obtain ⟨c0, c1, c2, _⟩ := labsAt_head hq2; go_simp; try with_reducible rfl))
  try simp only [Act.put, List.setIfInBounds_toArray, List.set_cons_zero, List.set_cons_succ]
  refine wpAnyH_take (i := 9) (oi := { dst := some 22, op := Go.Op.move (Go.Operand.tmp 21), type := 4, pos := "law.go:48", after := #[{ on := 8, ground := Go.Ground.data }, { on := 6, ground := Go.Ground.chain }], guard := none }) (v := ?_) rfl (by kernel_rfl) (by kernel_rfl) (by kernel_rfl) (fun _ _ _ h => h) (Or.inl ⟨by rfl, ?_⟩) hS2 ?_; rotate_left; (· (intro wq hSw; obtain ⟨a0, a1, a2, hq⟩ := labsAt_head hSw; obtain ⟨b0, b1, b2, hq2⟩ := labsAt_head hq; obtain ⟨c0, c1, c2, _⟩ := labsAt_head hq2; go_simp; try with_reducible rfl))
  try simp only [Act.put, List.setIfInBounds_toArray, List.set_cons_zero, List.set_cons_succ]
  refine wpAnyH_take (i := 10) (oi := { dst := some 23, op := Go.Op.move (Go.Operand.tmp 8), type := 4, pos := "law.go:48", after := #[{ on := 9, ground := Go.Ground.guard }], guard := some (9, true) }) (v := ?_) rfl (by kernel_rfl) (by kernel_rfl) (by kernel_rfl) (fun _ _ _ h => h) (Or.inl ⟨by rfl, ?_⟩) hS2 ?_; rotate_left; (· (intro wq hSw; obtain ⟨a0, a1, a2, hq⟩ := labsAt_head hSw; obtain ⟨b0, b1, b2, hq2⟩ := labsAt_head hq; obtain ⟨c0, c1, c2, _⟩ := labsAt_head hq2; go_simp; try with_reducible rfl))
  try simp only [Act.put, List.setIfInBounds_toArray, List.set_cons_zero, List.set_cons_succ]
  refine wpAnyH_take (i := 11) (oi := { dst := some 24, op := Go.Op.unOp Go.UnOp.not 4 (Go.Operand.tmp 23), type := 4, pos := "law.go:48", after := #[{ on := 10, ground := Go.Ground.data }, { on := 9, ground := Go.Ground.guard }], guard := some (9, true) }) (v := ?_) rfl (by kernel_rfl) (by kernel_rfl) (by kernel_rfl) (fun _ _ _ h => h) (Or.inl ⟨by rfl, ?_⟩) hS2 ?_; rotate_left; (· (intro wq hSw; obtain ⟨a0, a1, a2, hq⟩ := labsAt_head hSw; obtain ⟨b0, b1, b2, hq2⟩ := labsAt_head hq; obtain ⟨c0, c1, c2, _⟩ := labsAt_head hq2; go_simp; try with_reducible rfl))
  try simp only [Act.put, List.setIfInBounds_toArray, List.set_cons_zero, List.set_cons_succ]
  refine wpAnyH_take (i := 12) (oi := { dst := some 25, op := Go.Op.move (Go.Operand.tmp 24), type := 4, pos := "law.go:48", after := #[{ on := 11, ground := Go.Ground.data }, { on := 9, ground := Go.Ground.chain }, { on := 9, ground := Go.Ground.guard }], guard := some (9, true) }) (v := ?_) rfl (by kernel_rfl) (by kernel_rfl) (by kernel_rfl) (fun _ _ _ h => h) (Or.inl ⟨by rfl, ?_⟩) hS2 ?_; rotate_left; (· (intro wq hSw; obtain ⟨a0, a1, a2, hq⟩ := labsAt_head hSw; obtain ⟨b0, b1, b2, hq2⟩ := labsAt_head hq; obtain ⟨c0, c1, c2, _⟩ := labsAt_head hq2; go_simp; try with_reducible rfl))
  try simp only [Act.put, List.setIfInBounds_toArray, List.set_cons_zero, List.set_cons_succ]
  refine wpAnyH_take (i := 13) (oi := { dst := some 26, op := Go.Op.load 24 (Go.Operand.tmp 4), type := 24, pos := "law.go:48", after := #[{ on := 12, ground := Go.Ground.guard }], guard := some (12, false) }) (v := ?_) rfl (by kernel_rfl) (by kernel_rfl) (by kernel_rfl) (fun _ _ _ h => h) (Or.inl ⟨by rfl, ?_⟩) hS2 ?_; rotate_left; (· (intro wq hSw; obtain ⟨a0, a1, a2, hq⟩ := labsAt_head hSw; obtain ⟨b0, b1, b2, hq2⟩ := labsAt_head hq; obtain ⟨c0, c1, c2, _⟩ := labsAt_head hq2; go_simp; try with_reducible rfl))
  try simp only [Act.put, List.setIfInBounds_toArray, List.set_cons_zero, List.set_cons_succ]
  refine wpAnyH_take (i := 14) (oi := { dst := some 27, op := Go.Op.load 24 (Go.Operand.tmp 3), type := 24, pos := "law.go:48", after := #[{ on := 12, ground := Go.Ground.guard }], guard := some (12, false) }) (v := ?_) rfl (by kernel_rfl) (by kernel_rfl) (by kernel_rfl) (fun _ _ _ h => h) (Or.inl ⟨by rfl, ?_⟩) hS2 ?_; rotate_left; (· (intro wq hSw; obtain ⟨a0, a1, a2, hq⟩ := labsAt_head hSw; obtain ⟨b0, b1, b2, hq2⟩ := labsAt_head hq; obtain ⟨c0, c1, c2, _⟩ := labsAt_head hq2; go_simp; try with_reducible rfl))
  try simp only [Act.put, List.setIfInBounds_toArray, List.set_cons_zero, List.set_cons_succ]
  refine wpAnyH_ready (rs := [15]) (by kernel_rfl) (by simp) ?_
  refine AllReadyH.cons (o := { dst := some 28, op := Go.Op.call { callee := Go.Callee.value (Go.Operand.func 18), args := #[Go.Operand.tmp 26, Go.Operand.tmp 27], argTypes := #[24, 24] }, type := 4, pos := "law.go:48", after := #[{ on := 13, ground := Go.Ground.data }, { on := 14, ground := Go.Ground.data }, { on := 12, ground := Go.Ground.chain }, { on := 12, ground := Go.Ground.guard }], guard := some (12, false) }) rfl (fun K hK => ?_) AllReadyH.nil
  go_simp
  refine (Under_any b a hfb hfa _).mono ?_
  rintro e w5 ⟨he, hb⟩
  rw [BA.out] at he
  subst he
  refine hK.out _ _ (LabsAt.later hS2 hb) (fun hS3 => ?_)
  clear hK K hS2 hb
  try simp only [Act.put, List.setIfInBounds_toArray, List.set_cons_zero, List.set_cons_succ]
  refine wpAnyH_take (i := 16) (oi := { dst := some 29, op := Go.Op.unOp Go.UnOp.not 4 (Go.Operand.tmp 28), type := 4, pos := "law.go:48", after := #[{ on := 15, ground := Go.Ground.data }, { on := 12, ground := Go.Ground.guard }], guard := some (12, false) }) (v := ?_) rfl (by kernel_rfl) (by kernel_rfl) (by kernel_rfl) (fun _ _ _ h => h) (Or.inl ⟨by rfl, ?_⟩) hS3 ?_; rotate_left; (· (intro wq hSw; obtain ⟨a0, a1, a2, hq⟩ := labsAt_head hSw; obtain ⟨b0, b1, b2, hq2⟩ := labsAt_head hq; obtain ⟨c0, c1, c2, _⟩ := labsAt_head hq2; go_simp; try with_reducible rfl))
  try simp only [Act.put, List.setIfInBounds_toArray, List.set_cons_zero, List.set_cons_succ]
  refine wpAnyH_take (i := 17) (oi := { dst := some 30, op := Go.Op.pick (Go.Operand.tmp 25) (Go.Operand.const (Go.Value.bool true)) (Go.Operand.tmp 29), type := 4, pos := "law.go:48", after := #[{ on := 12, ground := Go.Ground.data }, { on := 16, ground := Go.Ground.data }, { on := 9, ground := Go.Ground.guard }], guard := some (9, true) }) (v := ?_) rfl (by kernel_rfl) (by kernel_rfl) (by kernel_rfl) (fun _ _ _ h => h) (Or.inl ⟨by rfl, ?_⟩) hS3 ?_; rotate_left; (· (intro wq hSw; obtain ⟨a0, a1, a2, hq⟩ := labsAt_head hSw; obtain ⟨b0, b1, b2, hq2⟩ := labsAt_head hq; obtain ⟨c0, c1, c2, _⟩ := labsAt_head hq2; go_simp; try with_reducible rfl))
  try simp only [Act.put, List.setIfInBounds_toArray, List.set_cons_zero, List.set_cons_succ]
  refine wpAnyH_take (i := 18) (oi := { dst := some 31, op := Go.Op.move (Go.Operand.tmp 30), type := 4, pos := "law.go:48", after := #[{ on := 17, ground := Go.Ground.data }, { on := 15, ground := Go.Ground.chain }, { on := 9, ground := Go.Ground.guard }], guard := some (9, true) }) (v := ?_) rfl (by kernel_rfl) (by kernel_rfl) (by kernel_rfl) (fun _ _ _ h => h) (Or.inl ⟨by rfl, ?_⟩) hS3 ?_; rotate_left; (· (intro wq hSw; obtain ⟨a0, a1, a2, hq⟩ := labsAt_head hSw; obtain ⟨b0, b1, b2, hq2⟩ := labsAt_head hq; obtain ⟨c0, c1, c2, _⟩ := labsAt_head hq2; go_simp; try with_reducible rfl))
  try simp only [Act.put, List.setIfInBounds_toArray, List.set_cons_zero, List.set_cons_succ]
  refine wpAnyH_take (i := 19) (oi := { dst := some 32, op := Go.Op.load 24 (Go.Operand.tmp 3), type := 24, pos := "law.go:48", after := #[{ on := 18, ground := Go.Ground.guard }], guard := some (18, false) }) (v := ?_) rfl (by kernel_rfl) (by kernel_rfl) (by kernel_rfl) (fun _ _ _ h => h) (Or.inl ⟨by rfl, ?_⟩) hS3 ?_; rotate_left; (· (intro wq hSw; obtain ⟨a0, a1, a2, hq⟩ := labsAt_head hSw; obtain ⟨b0, b1, b2, hq2⟩ := labsAt_head hq; obtain ⟨c0, c1, c2, _⟩ := labsAt_head hq2; go_simp; try with_reducible rfl))
  try simp only [Act.put, List.setIfInBounds_toArray, List.set_cons_zero, List.set_cons_succ]
  refine wpAnyH_take (i := 20) (oi := { dst := some 33, op := Go.Op.load 24 (Go.Operand.tmp 4), type := 24, pos := "law.go:48", after := #[{ on := 18, ground := Go.Ground.guard }], guard := some (18, false) }) (v := ?_) rfl (by kernel_rfl) (by kernel_rfl) (by kernel_rfl) (fun _ _ _ h => h) (Or.inl ⟨by rfl, ?_⟩) hS3 ?_; rotate_left; (· (intro wq hSw; obtain ⟨a0, a1, a2, hq⟩ := labsAt_head hSw; obtain ⟨b0, b1, b2, hq2⟩ := labsAt_head hq; obtain ⟨c0, c1, c2, _⟩ := labsAt_head hq2; go_simp; try with_reducible rfl))
  try simp only [Act.put, List.setIfInBounds_toArray, List.set_cons_zero, List.set_cons_succ]
  refine wpAnyH_take (i := 21) (oi := { dst := some 34, op := Go.Op.binOp Go.BinOp.eql 24 (Go.Operand.tmp 32) (Go.Operand.tmp 33) 24, type := 4, pos := "law.go:48", after := #[{ on := 19, ground := Go.Ground.data }, { on := 20, ground := Go.Ground.data }, { on := 18, ground := Go.Ground.guard }], guard := some (18, false) }) (v := ?_) rfl (by kernel_rfl) (by kernel_rfl) (by kernel_rfl) (fun _ _ _ h => h) (Or.inl ⟨by rfl, ?_⟩) hS3 ?_; rotate_left; (· (intro wq hSw; obtain ⟨a0, a1, a2, hq⟩ := labsAt_head hSw; obtain ⟨b0, b1, b2, hq2⟩ := labsAt_head hq; obtain ⟨c0, c1, c2, _⟩ := labsAt_head hq2; go_simp; try with_reducible rfl))
  try simp only [Act.put, List.setIfInBounds_toArray, List.set_cons_zero, List.set_cons_succ]
  refine wpAnyH_take (i := 22) (oi := { dst := some 35, op := Go.Op.pick (Go.Operand.tmp 31) (Go.Operand.const (Go.Value.bool true)) (Go.Operand.tmp 34), type := 4, pos := "law.go:48", after := #[{ on := 18, ground := Go.Ground.data }, { on := 21, ground := Go.Ground.data }, { on := 9, ground := Go.Ground.guard }], guard := some (9, true) }) (v := ?_) rfl (by kernel_rfl) (by kernel_rfl) (by kernel_rfl) (fun _ _ _ h => h) (Or.inl ⟨by rfl, ?_⟩) hS3 ?_; rotate_left; (· (intro wq hSw; obtain ⟨a0, a1, a2, hq⟩ := labsAt_head hSw; obtain ⟨b0, b1, b2, hq2⟩ := labsAt_head hq; obtain ⟨c0, c1, c2, _⟩ := labsAt_head hq2; go_simp; try with_reducible rfl))
  try simp only [Act.put, List.setIfInBounds_toArray, List.set_cons_zero, List.set_cons_succ]
  refine wpAnyH_take (i := 23) (oi := { dst := some 36, op := Go.Op.pick (Go.Operand.tmp 22) (Go.Operand.tmp 35) (Go.Operand.const (Go.Value.bool false)), type := 4, pos := "law.go:48", after := #[{ on := 9, ground := Go.Ground.data }, { on := 22, ground := Go.Ground.data }], guard := none }) (v := ?_) rfl (by kernel_rfl) (by kernel_rfl) (by kernel_rfl) (fun _ _ _ h => h) (Or.inl ⟨by rfl, ?_⟩) hS3 ?_; rotate_left; (· (intro wq hSw; obtain ⟨a0, a1, a2, hq⟩ := labsAt_head hSw; obtain ⟨b0, b1, b2, hq2⟩ := labsAt_head hq; obtain ⟨c0, c1, c2, _⟩ := labsAt_head hq2; go_simp; try with_reducible rfl))
  try simp only [Act.put, List.setIfInBounds_toArray, List.set_cons_zero, List.set_cons_succ]
  refine wpAnyH_take (i := 24) (oi := { dst := some 37, op := Go.Op.move (Go.Operand.tmp 36), type := 4, pos := "law.go:48", after := #[{ on := 23, ground := Go.Ground.data }, { on := 18, ground := Go.Ground.chain }], guard := none }) (v := ?_) rfl (by kernel_rfl) (by kernel_rfl) (by kernel_rfl) (fun _ _ _ h => h) (Or.inl ⟨by rfl, ?_⟩) hS3 ?_; rotate_left; (· (intro wq hSw; obtain ⟨a0, a1, a2, hq⟩ := labsAt_head hSw; obtain ⟨b0, b1, b2, hq2⟩ := labsAt_head hq; obtain ⟨c0, c1, c2, _⟩ := labsAt_head hq2; go_simp; try with_reducible rfl))
  try simp only [Act.put, List.setIfInBounds_toArray, List.set_cons_zero, List.set_cons_succ]
  refine wpAnyH_take (i := 25) (oi := { dst := some 38, op := Go.Op.move (Go.Operand.tmp 8), type := 4, pos := "law.go:48", after := #[{ on := 24, ground := Go.Ground.guard }], guard := some (24, true) }) (v := ?_) rfl (by kernel_rfl) (by kernel_rfl) (by kernel_rfl) (fun _ _ _ h => h) (Or.inl ⟨by rfl, ?_⟩) hS3 ?_; rotate_left; (· (intro wq hSw; obtain ⟨a0, a1, a2, hq⟩ := labsAt_head hSw; obtain ⟨b0, b1, b2, hq2⟩ := labsAt_head hq; obtain ⟨c0, c1, c2, _⟩ := labsAt_head hq2; go_simp; try with_reducible rfl))
  try simp only [Act.put, List.setIfInBounds_toArray, List.set_cons_zero, List.set_cons_succ]
  refine wpAnyH_take (i := 26) (oi := { dst := some 39, op := Go.Op.unOp Go.UnOp.not 4 (Go.Operand.tmp 38), type := 4, pos := "law.go:48", after := #[{ on := 25, ground := Go.Ground.data }, { on := 24, ground := Go.Ground.guard }], guard := some (24, true) }) (v := ?_) rfl (by kernel_rfl) (by kernel_rfl) (by kernel_rfl) (fun _ _ _ h => h) (Or.inl ⟨by rfl, ?_⟩) hS3 ?_; rotate_left; (· (intro wq hSw; obtain ⟨a0, a1, a2, hq⟩ := labsAt_head hSw; obtain ⟨b0, b1, b2, hq2⟩ := labsAt_head hq; obtain ⟨c0, c1, c2, _⟩ := labsAt_head hq2; go_simp; try with_reducible rfl))
  try simp only [Act.put, List.setIfInBounds_toArray, List.set_cons_zero, List.set_cons_succ]
  refine wpAnyH_take (i := 27) (oi := { dst := some 40, op := Go.Op.move (Go.Operand.tmp 39), type := 4, pos := "law.go:48", after := #[{ on := 26, ground := Go.Ground.data }, { on := 24, ground := Go.Ground.chain }, { on := 24, ground := Go.Ground.guard }], guard := some (24, true) }) (v := ?_) rfl (by kernel_rfl) (by kernel_rfl) (by kernel_rfl) (fun _ _ _ h => h) (Or.inl ⟨by rfl, ?_⟩) hS3 ?_; rotate_left; (· (intro wq hSw; obtain ⟨a0, a1, a2, hq⟩ := labsAt_head hSw; obtain ⟨b0, b1, b2, hq2⟩ := labsAt_head hq; obtain ⟨c0, c1, c2, _⟩ := labsAt_head hq2; go_simp; try with_reducible rfl))
  try simp only [Act.put, List.setIfInBounds_toArray, List.set_cons_zero, List.set_cons_succ]
  refine wpAnyH_take (i := 28) (oi := { dst := some 41, op := Go.Op.load 24 (Go.Operand.tmp 4), type := 24, pos := "law.go:48", after := #[{ on := 27, ground := Go.Ground.guard }], guard := some (27, false) }) (v := ?_) rfl (by kernel_rfl) (by kernel_rfl) (by kernel_rfl) (fun _ _ _ h => h) (Or.inl ⟨by rfl, ?_⟩) hS3 ?_; rotate_left; (· (intro wq hSw; obtain ⟨a0, a1, a2, hq⟩ := labsAt_head hSw; obtain ⟨b0, b1, b2, hq2⟩ := labsAt_head hq; obtain ⟨c0, c1, c2, _⟩ := labsAt_head hq2; go_simp; try with_reducible rfl))
  try simp only [Act.put, List.setIfInBounds_toArray, List.set_cons_zero, List.set_cons_succ]
  refine wpAnyH_take (i := 29) (oi := { dst := some 42, op := Go.Op.load 24 (Go.Operand.tmp 5), type := 24, pos := "law.go:48", after := #[{ on := 27, ground := Go.Ground.guard }], guard := some (27, false) }) (v := ?_) rfl (by kernel_rfl) (by kernel_rfl) (by kernel_rfl) (fun _ _ _ h => h) (Or.inl ⟨by rfl, ?_⟩) hS3 ?_; rotate_left; (· (intro wq hSw; obtain ⟨a0, a1, a2, hq⟩ := labsAt_head hSw; obtain ⟨b0, b1, b2, hq2⟩ := labsAt_head hq; obtain ⟨c0, c1, c2, _⟩ := labsAt_head hq2; go_simp; try with_reducible rfl))
  try simp only [Act.put, List.setIfInBounds_toArray, List.set_cons_zero, List.set_cons_succ]
  refine wpAnyH_ready (rs := [30]) (by kernel_rfl) (by simp) ?_
  refine AllReadyH.cons (o := { dst := some 43, op := Go.Op.call { callee := Go.Callee.value (Go.Operand.func 18), args := #[Go.Operand.tmp 41, Go.Operand.tmp 42], argTypes := #[24, 24] }, type := 4, pos := "law.go:48", after := #[{ on := 28, ground := Go.Ground.data }, { on := 29, ground := Go.Ground.data }, { on := 27, ground := Go.Ground.chain }, { on := 27, ground := Go.Ground.guard }], guard := some (27, false) }) rfl (fun K hK => ?_) AllReadyH.nil
  go_simp
  refine (Under_any b c hfb hfc _).mono ?_
  rintro e w6 ⟨he, hb⟩
  rw [BC.out] at he
  subst he
  refine hK.out _ _ (LabsAt.later hS3 hb) (fun hS4 => ?_)
  clear hK K hS3 hb
  try simp only [Act.put, List.setIfInBounds_toArray, List.set_cons_zero, List.set_cons_succ]
  refine wpAnyH_take (i := 31) (oi := { dst := some 44, op := Go.Op.unOp Go.UnOp.not 4 (Go.Operand.tmp 43), type := 4, pos := "law.go:48", after := #[{ on := 30, ground := Go.Ground.data }, { on := 27, ground := Go.Ground.guard }], guard := some (27, false) }) (v := ?_) rfl (by kernel_rfl) (by kernel_rfl) (by kernel_rfl) (fun _ _ _ h => h) (Or.inl ⟨by rfl, ?_⟩) hS4 ?_; rotate_left; (· (intro wq hSw; obtain ⟨a0, a1, a2, hq⟩ := labsAt_head hSw; obtain ⟨b0, b1, b2, hq2⟩ := labsAt_head hq; obtain ⟨c0, c1, c2, _⟩ := labsAt_head hq2; go_simp; try with_reducible rfl))
  try simp only [Act.put, List.setIfInBounds_toArray, List.set_cons_zero, List.set_cons_succ]
  refine wpAnyH_take (i := 32) (oi := { dst := some 45, op := Go.Op.pick (Go.Operand.tmp 40) (Go.Operand.const (Go.Value.bool true)) (Go.Operand.tmp 44), type := 4, pos := "law.go:48", after := #[{ on := 27, ground := Go.Ground.data }, { on := 31, ground := Go.Ground.data }, { on := 24, ground := Go.Ground.guard }], guard := some (24, true) }) (v := ?_) rfl (by kernel_rfl) (by kernel_rfl) (by kernel_rfl) (fun _ _ _ h => h) (Or.inl ⟨by rfl, ?_⟩) hS4 ?_; rotate_left; (· (intro wq hSw; obtain ⟨a0, a1, a2, hq⟩ := labsAt_head hSw; obtain ⟨b0, b1, b2, hq2⟩ := labsAt_head hq; obtain ⟨c0, c1, c2, _⟩ := labsAt_head hq2; go_simp; try with_reducible rfl))
  try simp only [Act.put, List.setIfInBounds_toArray, List.set_cons_zero, List.set_cons_succ]
  refine wpAnyH_take (i := 33) (oi := { dst := some 46, op := Go.Op.move (Go.Operand.tmp 45), type := 4, pos := "law.go:48", after := #[{ on := 32, ground := Go.Ground.data }, { on := 30, ground := Go.Ground.chain }, { on := 24, ground := Go.Ground.guard }], guard := some (24, true) }) (v := ?_) rfl (by kernel_rfl) (by kernel_rfl) (by kernel_rfl) (fun _ _ _ h => h) (Or.inl ⟨by rfl, ?_⟩) hS4 ?_; rotate_left; (· (intro wq hSw; obtain ⟨a0, a1, a2, hq⟩ := labsAt_head hSw; obtain ⟨b0, b1, b2, hq2⟩ := labsAt_head hq; obtain ⟨c0, c1, c2, _⟩ := labsAt_head hq2; go_simp; try with_reducible rfl))
  try simp only [Act.put, List.setIfInBounds_toArray, List.set_cons_zero, List.set_cons_succ]
  refine wpAnyH_take (i := 34) (oi := { dst := some 47, op := Go.Op.load 24 (Go.Operand.tmp 3), type := 24, pos := "law.go:48", after := #[{ on := 33, ground := Go.Ground.guard }], guard := some (33, false) }) (v := undef) rfl (by kernel_rfl) (by kernel_rfl) (by kernel_rfl) (fun _ _ _ h => h) (Or.inr ⟨by rfl, rfl⟩) hS4 ?_
  try simp only [Act.put, List.setIfInBounds_toArray, List.set_cons_zero, List.set_cons_succ]
  refine wpAnyH_take (i := 35) (oi := { dst := some 48, op := Go.Op.load 24 (Go.Operand.tmp 5), type := 24, pos := "law.go:48", after := #[{ on := 33, ground := Go.Ground.guard }], guard := some (33, false) }) (v := undef) rfl (by kernel_rfl) (by kernel_rfl) (by kernel_rfl) (fun _ _ _ h => h) (Or.inr ⟨by rfl, rfl⟩) hS4 ?_
  try simp only [Act.put, List.setIfInBounds_toArray, List.set_cons_zero, List.set_cons_succ]
  refine wpAnyH_ready (rs := [36]) (by kernel_rfl) (by simp) ?_
  refine AllReadyH.cons (o := { dst := some 49, op := Go.Op.call { callee := Go.Callee.value (Go.Operand.func 18), args := #[Go.Operand.tmp 47, Go.Operand.tmp 48], argTypes := #[24, 24] }, type := 4, pos := "law.go:48", after := #[{ on := 34, ground := Go.Ground.data }, { on := 35, ground := Go.Ground.data }, { on := 33, ground := Go.Ground.chain }, { on := 33, ground := Go.Ground.guard }], guard := some (33, false) }) rfl (fun K hK => ?_) AllReadyH.nil
  rw [if_neg (by intro h; cases h)]
  refine hK.out _ _ hS4 (fun hS5 => ?_)
  clear hK K hS4
  try simp only [Act.put, List.setIfInBounds_toArray, List.set_cons_zero, List.set_cons_succ]
  refine wpAnyH_take (i := 37) (oi := { dst := some 50, op := Go.Op.pick (Go.Operand.tmp 46) (Go.Operand.const (Go.Value.bool true)) (Go.Operand.tmp 49), type := 4, pos := "law.go:48", after := #[{ on := 33, ground := Go.Ground.data }, { on := 36, ground := Go.Ground.data }, { on := 24, ground := Go.Ground.guard }], guard := some (24, true) }) (v := ?_) rfl (by kernel_rfl) (by kernel_rfl) (by kernel_rfl) (fun _ _ _ h => h) (Or.inl ⟨by rfl, ?_⟩) hS5 ?_; rotate_left; (· (intro wq hSw; obtain ⟨a0, a1, a2, hq⟩ := labsAt_head hSw; obtain ⟨b0, b1, b2, hq2⟩ := labsAt_head hq; obtain ⟨c0, c1, c2, _⟩ := labsAt_head hq2; go_simp; try with_reducible rfl))
  try simp only [Act.put, List.setIfInBounds_toArray, List.set_cons_zero, List.set_cons_succ]
  refine wpAnyH_take (i := 38) (oi := { dst := some 51, op := Go.Op.pick (Go.Operand.tmp 37) (Go.Operand.tmp 50) (Go.Operand.const (Go.Value.bool false)), type := 4, pos := "law.go:48", after := #[{ on := 24, ground := Go.Ground.data }, { on := 37, ground := Go.Ground.data }], guard := none }) (v := ?_) rfl (by kernel_rfl) (by kernel_rfl) (by kernel_rfl) (fun _ _ _ h => h) (Or.inl ⟨by rfl, ?_⟩) hS5 ?_; rotate_left; (· (intro wq hSw; obtain ⟨a0, a1, a2, hq⟩ := labsAt_head hSw; obtain ⟨b0, b1, b2, hq2⟩ := labsAt_head hq; obtain ⟨c0, c1, c2, _⟩ := labsAt_head hq2; go_simp; try with_reducible rfl))
  try simp only [Act.put, List.setIfInBounds_toArray, List.set_cons_zero, List.set_cons_succ]
  refine wpAnyH_take (i := 39) (oi := { dst := some 52, op := Go.Op.move (Go.Operand.tmp 51), type := 4, pos := "law.go:48", after := #[{ on := 38, ground := Go.Ground.data }, { on := 36, ground := Go.Ground.chain }], guard := none }) (v := ?_) rfl (by kernel_rfl) (by kernel_rfl) (by kernel_rfl) (fun _ _ _ h => h) (Or.inl ⟨by rfl, ?_⟩) hS5 ?_; rotate_left; (· (intro wq hSw; obtain ⟨a0, a1, a2, hq⟩ := labsAt_head hSw; obtain ⟨b0, b1, b2, hq2⟩ := labsAt_head hq; obtain ⟨c0, c1, c2, _⟩ := labsAt_head hq2; go_simp; try with_reducible rfl))
  try simp only [Act.put, List.setIfInBounds_toArray, List.set_cons_zero, List.set_cons_succ]
  refine wpAnyH_take (i := 40) (oi := { dst := some 53, op := Go.Op.load 24 (Go.Operand.tmp 3), type := 24, pos := "law.go:48", after := #[{ on := 39, ground := Go.Ground.guard }], guard := some (39, true) }) (v := ?_) rfl (by kernel_rfl) (by kernel_rfl) (by kernel_rfl) (fun _ _ _ h => h) (Or.inl ⟨by rfl, ?_⟩) hS5 ?_; rotate_left; (· (intro wq hSw; obtain ⟨a0, a1, a2, hq⟩ := labsAt_head hSw; obtain ⟨b0, b1, b2, hq2⟩ := labsAt_head hq; obtain ⟨c0, c1, c2, _⟩ := labsAt_head hq2; go_simp; try with_reducible rfl))
  try simp only [Act.put, List.setIfInBounds_toArray, List.set_cons_zero, List.set_cons_succ]
  refine wpAnyH_ready (rs := [41]) (by kernel_rfl) (by simp) ?_
  refine AllReadyH.cons (o := { dst := some 54, op := Go.Op.call { callee := Go.Callee.value (Go.Operand.func 16), args := #[Go.Operand.tmp 53], argTypes := #[24] }, type := 4, pos := "law.go:48", after := #[{ on := 40, ground := Go.Ground.data }, { on := 39, ground := Go.Ground.chain }, { on := 39, ground := Go.Ground.guard }], guard := some (39, true) }) rfl (fun K hK => ?_) AllReadyH.nil
  go_simp
  refine (right_any a hfa _).mono ?_
  rintro e w7 ⟨he, hb⟩
  rw [RA.out] at he
  subst he
  refine hK.out _ _ (LabsAt.later hS5 hb) (fun hS6 => ?_)
  clear hK K hS5 hb
  try simp only [Act.put, List.setIfInBounds_toArray, List.set_cons_zero, List.set_cons_succ]
  refine wpAnyH_take (i := 42) (oi := { dst := some 55, op := Go.Op.unOp Go.UnOp.not 4 (Go.Operand.tmp 54), type := 4, pos := "law.go:48", after := #[{ on := 41, ground := Go.Ground.data }, { on := 39, ground := Go.Ground.guard }], guard := some (39, true) }) (v := ?_) rfl (by kernel_rfl) (by kernel_rfl) (by kernel_rfl) (fun _ _ _ h => h) (Or.inl ⟨by rfl, ?_⟩) hS6 ?_; rotate_left; (· (intro wq hSw; obtain ⟨a0, a1, a2, hq⟩ := labsAt_head hSw; obtain ⟨b0, b1, b2, hq2⟩ := labsAt_head hq; obtain ⟨c0, c1, c2, _⟩ := labsAt_head hq2; go_simp; try with_reducible rfl))
  try simp only [Act.put, List.setIfInBounds_toArray, List.set_cons_zero, List.set_cons_succ]
  refine wpAnyH_take (i := 43) (oi := { dst := some 56, op := Go.Op.move (Go.Operand.tmp 55), type := 4, pos := "law.go:48", after := #[{ on := 42, ground := Go.Ground.data }, { on := 41, ground := Go.Ground.chain }, { on := 39, ground := Go.Ground.guard }], guard := some (39, true) }) (v := ?_) rfl (by kernel_rfl) (by kernel_rfl) (by kernel_rfl) (fun _ _ _ h => h) (Or.inl ⟨by rfl, ?_⟩) hS6 ?_; rotate_left; (· (intro wq hSw; obtain ⟨a0, a1, a2, hq⟩ := labsAt_head hSw; obtain ⟨b0, b1, b2, hq2⟩ := labsAt_head hq; obtain ⟨c0, c1, c2, _⟩ := labsAt_head hq2; go_simp; try with_reducible rfl))
  try simp only [Act.put, List.setIfInBounds_toArray, List.set_cons_zero, List.set_cons_succ]
  refine wpAnyH_take (i := 45) (oi := { dst := some 58, op := Go.Op.load 24 (Go.Operand.tmp 3), type := 24, pos := "law.go:48", after := #[{ on := 43, ground := Go.Ground.guard }], guard := some (43, false) }) (v := ?_) rfl (by kernel_rfl) (by kernel_rfl) (by kernel_rfl) (fun _ _ _ h => h) (Or.inl ⟨by rfl, ?_⟩) hS6 ?_; rotate_left; (· (intro wq hSw; obtain ⟨a0, a1, a2, hq⟩ := labsAt_head hSw; obtain ⟨b0, b1, b2, hq2⟩ := labsAt_head hq; obtain ⟨c0, c1, c2, _⟩ := labsAt_head hq2; go_simp; try with_reducible rfl))
  try simp only [Act.put, List.setIfInBounds_toArray, List.set_cons_zero, List.set_cons_succ]
  refine wpAnyH_ready (rs := [44]) (by kernel_rfl) (by simp) ?_
  refine AllReadyH.cons (o := { dst := some 57, op := Go.Op.call { callee := Go.Callee.value (Go.Operand.func 22), args := #[], argTypes := #[] }, type := 24, pos := "law.go:48", after := #[{ on := 43, ground := Go.Ground.chain }, { on := 43, ground := Go.Ground.guard }], guard := some (43, false) }) rfl (fun K hK => ?_) AllReadyH.nil
  go_simp
  refine (bottom_any _).mono ?_
  rintro e w8 ⟨he, hb⟩
  subst he
  refine hK.out _ _ (LabsAt.later hS6 hb) (fun hS7 => ?_)
  clear hK K hS6 hb
  try simp only [Act.put, List.setIfInBounds_toArray, List.set_cons_zero, List.set_cons_succ]
  refine wpAnyH_ready (rs := [46]) (by kernel_rfl) (by simp) ?_
  refine AllReadyH.cons (o := { dst := some 59, op := Go.Op.call { callee := Go.Callee.value (Go.Operand.func 18), args := #[Go.Operand.tmp 57, Go.Operand.tmp 58], argTypes := #[24, 24] }, type := 4, pos := "law.go:48", after := #[{ on := 44, ground := Go.Ground.data }, { on := 45, ground := Go.Ground.data }, { on := 44, ground := Go.Ground.chain }, { on := 43, ground := Go.Ground.guard }], guard := some (43, false) }) rfl (fun K hK => ?_) AllReadyH.nil
  go_simp
  refine (UnderBot a hfa RA.out _).mono ?_
  rintro e w9 ⟨he, hb⟩
  subst he
  refine hK.out _ _ (LabsAt.later hS7 hb) (fun hS8 => ?_)
  clear hK K hS7 hb
  try simp only [Act.put, List.setIfInBounds_toArray, List.set_cons_zero, List.set_cons_succ]
  refine wpAnyH_take (i := 47) (oi := { dst := some 60, op := Go.Op.move (Go.Operand.tmp 59), type := 4, pos := "law.go:48", after := #[{ on := 46, ground := Go.Ground.data }, { on := 46, ground := Go.Ground.chain }, { on := 43, ground := Go.Ground.guard }], guard := some (43, false) }) (v := ?_) rfl (by kernel_rfl) (by kernel_rfl) (by kernel_rfl) (fun _ _ _ h => h) (Or.inl ⟨by rfl, ?_⟩) hS8 ?_; rotate_left; (· (intro wq hSw; obtain ⟨a0, a1, a2, hq⟩ := labsAt_head hSw; obtain ⟨b0, b1, b2, hq2⟩ := labsAt_head hq; obtain ⟨c0, c1, c2, _⟩ := labsAt_head hq2; go_simp; try with_reducible rfl))
  try simp only [Act.put, List.setIfInBounds_toArray, List.set_cons_zero, List.set_cons_succ]
  refine wpAnyH_take (i := 48) (oi := { dst := some 61, op := Go.Op.load 24 (Go.Operand.tmp 3), type := 24, pos := "law.go:48", after := #[{ on := 47, ground := Go.Ground.guard }], guard := some (47, true) }) (v := ?_) rfl (by kernel_rfl) (by kernel_rfl) (by kernel_rfl) (fun _ _ _ h => h) (Or.inl ⟨by rfl, ?_⟩) hS8 ?_; rotate_left; (· (intro wq hSw; obtain ⟨a0, a1, a2, hq⟩ := labsAt_head hSw; obtain ⟨b0, b1, b2, hq2⟩ := labsAt_head hq; obtain ⟨c0, c1, c2, _⟩ := labsAt_head hq2; go_simp; try with_reducible rfl))
  try simp only [Act.put, List.setIfInBounds_toArray, List.set_cons_zero, List.set_cons_succ]
  refine wpAnyH_ready (rs := [49]) (by kernel_rfl) (by simp) ?_
  refine AllReadyH.cons (o := { dst := some 62, op := Go.Op.call { callee := Go.Callee.value (Go.Operand.func 24), args := #[], argTypes := #[] }, type := 24, pos := "law.go:48", after := #[{ on := 47, ground := Go.Ground.chain }, { on := 47, ground := Go.Ground.guard }], guard := some (47, true) }) rfl (fun K hK => ?_) AllReadyH.nil
  go_simp
  refine (top_any _).mono ?_
  rintro e w10 ⟨he, hb⟩
  subst he
  refine hK.out _ _ (LabsAt.later hS8 hb) (fun hS9 => ?_)
  clear hK K hS8 hb
  try simp only [Act.put, List.setIfInBounds_toArray, List.set_cons_zero, List.set_cons_succ]
  refine wpAnyH_ready (rs := [50]) (by kernel_rfl) (by simp) ?_
  refine AllReadyH.cons (o := { dst := some 63, op := Go.Op.call { callee := Go.Callee.value (Go.Operand.func 18), args := #[Go.Operand.tmp 61, Go.Operand.tmp 62], argTypes := #[24, 24] }, type := 4, pos := "law.go:48", after := #[{ on := 48, ground := Go.Ground.data }, { on := 49, ground := Go.Ground.data }, { on := 49, ground := Go.Ground.chain }, { on := 47, ground := Go.Ground.guard }], guard := some (47, true) }) rfl (fun K hK => ?_) AllReadyH.nil
  go_simp
  refine (UnderTop a hfa RA.out _).mono ?_
  rintro e w11 ⟨he, hb⟩
  subst he
  refine hK.out _ _ (LabsAt.later hS9 hb) (fun hS10 => ?_)
  clear hK K hS9 hb
  try simp only [Act.put, List.setIfInBounds_toArray, List.set_cons_zero, List.set_cons_succ]
  refine wpAnyH_take (i := 51) (oi := { dst := some 64, op := Go.Op.pick (Go.Operand.tmp 60) (Go.Operand.tmp 63) (Go.Operand.const (Go.Value.bool false)), type := 4, pos := "law.go:48", after := #[{ on := 47, ground := Go.Ground.data }, { on := 50, ground := Go.Ground.data }, { on := 43, ground := Go.Ground.guard }], guard := some (43, false) }) (v := ?_) rfl (by kernel_rfl) (by kernel_rfl) (by kernel_rfl) (fun _ _ _ h => h) (Or.inl ⟨by rfl, ?_⟩) hS10 ?_; rotate_left; (· (intro wq hSw; obtain ⟨a0, a1, a2, hq⟩ := labsAt_head hSw; obtain ⟨b0, b1, b2, hq2⟩ := labsAt_head hq; obtain ⟨c0, c1, c2, _⟩ := labsAt_head hq2; go_simp; try with_reducible rfl))
  try simp only [Act.put, List.setIfInBounds_toArray, List.set_cons_zero, List.set_cons_succ]
  refine wpAnyH_take (i := 52) (oi := { dst := some 65, op := Go.Op.pick (Go.Operand.tmp 56) (Go.Operand.const (Go.Value.bool true)) (Go.Operand.tmp 64), type := 4, pos := "law.go:48", after := #[{ on := 43, ground := Go.Ground.data }, { on := 51, ground := Go.Ground.data }, { on := 39, ground := Go.Ground.guard }], guard := some (39, true) }) (v := ?_) rfl (by kernel_rfl) (by kernel_rfl) (by kernel_rfl) (fun _ _ _ h => h) (Or.inl ⟨by rfl, ?_⟩) hS10 ?_; rotate_left; (· (intro wq hSw; obtain ⟨a0, a1, a2, hq⟩ := labsAt_head hSw; obtain ⟨b0, b1, b2, hq2⟩ := labsAt_head hq; obtain ⟨c0, c1, c2, _⟩ := labsAt_head hq2; go_simp; try with_reducible rfl))
  try simp only [Act.put, List.setIfInBounds_toArray, List.set_cons_zero, List.set_cons_succ]
  refine wpAnyH_take (i := 53) (oi := { dst := some 66, op := Go.Op.pick (Go.Operand.tmp 52) (Go.Operand.tmp 65) (Go.Operand.const (Go.Value.bool false)), type := 4, pos := "law.go:48", after := #[{ on := 39, ground := Go.Ground.data }, { on := 52, ground := Go.Ground.data }], guard := none }) (v := ?_) rfl (by kernel_rfl) (by kernel_rfl) (by kernel_rfl) (fun _ _ _ h => h) (Or.inl ⟨by rfl, ?_⟩) hS10 ?_; rotate_left; (· (intro wq hSw; obtain ⟨a0, a1, a2, hq⟩ := labsAt_head hSw; obtain ⟨b0, b1, b2, hq2⟩ := labsAt_head hq; obtain ⟨c0, c1, c2, _⟩ := labsAt_head hq2; go_simp; try with_reducible rfl))
  try simp only [Act.put, List.setIfInBounds_toArray, List.set_cons_zero, List.set_cons_succ]
  refine wpAnyH_take (i := 54) (oi := { dst := some 6, op := Go.Op.assign (Go.Operand.tmp 66), type := 4, pos := "law.go:48", after := #[{ on := 53, ground := Go.Ground.data }, { on := 50, ground := Go.Ground.chain }, { on := 0, ground := Go.Ground.phase }, { on := 1, ground := Go.Ground.phase }, { on := 2, ground := Go.Ground.phase }, { on := 3, ground := Go.Ground.phase }, { on := 4, ground := Go.Ground.phase }, { on := 5, ground := Go.Ground.phase }, { on := 6, ground := Go.Ground.phase }, { on := 7, ground := Go.Ground.phase }, { on := 8, ground := Go.Ground.phase }, { on := 9, ground := Go.Ground.phase }, { on := 10, ground := Go.Ground.phase }, { on := 11, ground := Go.Ground.phase }, { on := 12, ground := Go.Ground.phase }, { on := 13, ground := Go.Ground.phase }, { on := 14, ground := Go.Ground.phase }, { on := 15, ground := Go.Ground.phase }, { on := 16, ground := Go.Ground.phase }, { on := 17, ground := Go.Ground.phase }, { on := 18, ground := Go.Ground.phase }, { on := 19, ground := Go.Ground.phase }, { on := 20, ground := Go.Ground.phase }, { on := 21, ground := Go.Ground.phase }, { on := 22, ground := Go.Ground.phase }, { on := 23, ground := Go.Ground.phase }, { on := 24, ground := Go.Ground.phase }, { on := 25, ground := Go.Ground.phase }, { on := 26, ground := Go.Ground.phase }, { on := 27, ground := Go.Ground.phase }, { on := 28, ground := Go.Ground.phase }, { on := 29, ground := Go.Ground.phase }, { on := 30, ground := Go.Ground.phase }, { on := 31, ground := Go.Ground.phase }, { on := 32, ground := Go.Ground.phase }, { on := 33, ground := Go.Ground.phase }, { on := 34, ground := Go.Ground.phase }, { on := 35, ground := Go.Ground.phase }, { on := 36, ground := Go.Ground.phase }, { on := 37, ground := Go.Ground.phase }, { on := 38, ground := Go.Ground.phase }, { on := 39, ground := Go.Ground.phase }, { on := 40, ground := Go.Ground.phase }, { on := 41, ground := Go.Ground.phase }, { on := 42, ground := Go.Ground.phase }, { on := 43, ground := Go.Ground.phase }, { on := 44, ground := Go.Ground.phase }, { on := 45, ground := Go.Ground.phase }, { on := 46, ground := Go.Ground.phase }, { on := 47, ground := Go.Ground.phase }, { on := 48, ground := Go.Ground.phase }, { on := 49, ground := Go.Ground.phase }, { on := 50, ground := Go.Ground.phase }, { on := 51, ground := Go.Ground.phase }, { on := 52, ground := Go.Ground.phase }, { on := 53, ground := Go.Ground.phase }], guard := none }) (v := ?_) rfl (by kernel_rfl) (by kernel_rfl) (by kernel_rfl) (fun _ _ _ h => h) (Or.inl ⟨by rfl, ?_⟩) hS10 ?_; rotate_left; (· (intro wq hSw; obtain ⟨a0, a1, a2, hq⟩ := labsAt_head hSw; obtain ⟨b0, b1, b2, hq2⟩ := labsAt_head hq; obtain ⟨c0, c1, c2, _⟩ := labsAt_head hq2; go_simp; try with_reducible rfl))
  try simp only [Act.put, List.setIfInBounds_toArray, List.set_cons_zero, List.set_cons_succ]
  refine wpAnyH_done (by kernel_rfl) ?_ _
  have hB := hS10.below
  clear hS10
  go_wp2
  go_ret
  exact ⟨rfl, hB⟩

set_option maxRecDepth 100000 in
set_option maxHeartbeats 4000000 in
theorem labelOrders_F (a b c : Lab) (hfa : a.fits) (hfb : b.fits) (hfc : c.fits) (hab : a.under b = true) (hba : b.under a = true) (hbc : b.under c = true) (w : World) (hg : ErrT w) :
    Calls Tryd.prog 5 #[.agg #[.int .i64 a.l, .int .u64 a.c, .int .i64 a.i], .agg #[.int .i64 b.l, .int .u64 b.c, .int .i64 b.i], .agg #[.int .i64 c.l, .int .u64 c.c, .int .i64 c.i]] w fun e w' => e = .returned (.bool true) ∧ Below w.heap.size w w' := by
  have _hu := And.intro hfa (And.intro hfb (hfc))
  clear _hu
  have hra : a.right = true := ((under_iff' hfa hfb).1 hab).1
  have AA := Lib.hid (under_refl a hfa)
  have AB := Lib.hid hab
  have RA := Lib.hid hra
  have BA := Lib.hid hba
  have BC := Lib.hid hbc
  have AC := Lib.hid (under_trans hfa hfb hfc hab hbc)
  have hs : a.same b = true := (Lab.same_iff a b).2 (under_antisymm hfa hfb hab hba)
  have qa := eqL a b
  have qb := eqInL a b
  rw [hs] at qa qb
  clear hs
  clear hab hra hba hbc
  obtain ⟨hB, hg1, a0, a1, a2, b0, b1, b2, c0, c1, c2⟩ := three_at w a b c hg
  have hM := labsAt_cons a0 a1 a2 (labsAt_cons b0 b1 b2 (labsAt_cons c0 c1 c2 (labsAt_nil hB hg1)))
  clear hg
  go_enter Tryd.func5, Tryd.ntmps5
  go_wp2_with fail
  refine (shown_any _ hg1).mono ?_
  rintro e w1 ⟨he, hb⟩
  subst he
  replace a0 := cell_later hb a0
  replace a1 := cell_later hb a1
  replace a2 := cell_later hb a2
  replace b0 := cell_later hb b0
  replace b1 := cell_later hb b1
  replace b2 := cell_later hb b2
  replace c0 := cell_later hb c0
  replace c1 := cell_later hb c1
  replace c2 := cell_later hb c2
  replace hM := hM.later hb
  clear hb hB hg1
  go_wp2_with fail
  refine (Under_any a b hfa hfb _).mono ?_
  rintro e w2 ⟨he, hb⟩
  rw [AB.out] at he
  subst he
  replace hM := hM.later hb
  clear hb a0 a1 a2 b0 b1 b2 c0 c1 c2
  go_wp2_with fail
  refine wp_region_held_drew (S := LabsAt w [(w.heap.size, a), (w.heap.size + 1, b), (w.heap.size + 1 + 1, c)]) (by kernel_rfl) (hM.drew) (fun hS0 => ?_)
  clear hM
  refine wpAnyH_take (i := 0) (oi := { dst := some 13, op := Go.Op.move (Go.Operand.tmp 7), type := 4, pos := "law.go:48", after := #[], guard := none }) (v := ?_) rfl (by kernel_rfl) (by kernel_rfl) (by kernel_rfl) (fun _ _ _ h => h) (Or.inl ⟨by rfl, ?_⟩) hS0 ?_; rotate_left; (· (intro wq hSw; obtain ⟨a0, a1, a2, hq⟩ := labsAt_head hSw; obtain ⟨b0, b1, b2, hq2⟩ := labsAt_head hq; obtain ⟨c0, c1, c2, _⟩ := labsAt_head hq2; go_simp; try with_reducible rfl))
  try simp only [Act.put, List.setIfInBounds_toArray, List.set_cons_zero, List.set_cons_succ]
  refine wpAnyH_take (i := 1) (oi := { dst := some 14, op := Go.Op.move (Go.Operand.tmp 13), type := 4, pos := "law.go:48", after := #[{ on := 0, ground := Go.Ground.data }], guard := none }) (v := ?_) rfl (by kernel_rfl) (by kernel_rfl) (by kernel_rfl) (fun _ _ _ h => h) (Or.inl ⟨by rfl, ?_⟩) hS0 ?_; rotate_left; (· (intro wq hSw; obtain ⟨a0, a1, a2, hq⟩ := labsAt_head hSw; obtain ⟨b0, b1, b2, hq2⟩ := labsAt_head hq; obtain ⟨c0, c1, c2, _⟩ := labsAt_head hq2; go_simp; try with_reducible rfl))
  try simp only [Act.put, List.setIfInBounds_toArray, List.set_cons_zero, List.set_cons_succ]
  refine wpAnyH_take (i := 2) (oi := { dst := some 15, op := Go.Op.load 24 (Go.Operand.tmp 3), type := 24, pos := "law.go:48", after := #[{ on := 1, ground := Go.Ground.guard }], guard := some (1, true) }) (v := ?_) rfl (by kernel_rfl) (by kernel_rfl) (by kernel_rfl) (fun _ _ _ h => h) (Or.inl ⟨by rfl, ?_⟩) hS0 ?_; rotate_left; (· (intro wq hSw; obtain ⟨a0, a1, a2, hq⟩ := labsAt_head hSw; obtain ⟨b0, b1, b2, hq2⟩ := labsAt_head hq; obtain ⟨c0, c1, c2, _⟩ := labsAt_head hq2; go_simp; try with_reducible rfl))
  try simp only [Act.put, List.setIfInBounds_toArray, List.set_cons_zero, List.set_cons_succ]
  refine wpAnyH_take (i := 3) (oi := { dst := some 16, op := Go.Op.load 24 (Go.Operand.tmp 3), type := 24, pos := "law.go:48", after := #[{ on := 1, ground := Go.Ground.guard }], guard := some (1, true) }) (v := ?_) rfl (by kernel_rfl) (by kernel_rfl) (by kernel_rfl) (fun _ _ _ h => h) (Or.inl ⟨by rfl, ?_⟩) hS0 ?_; rotate_left; (· (intro wq hSw; obtain ⟨a0, a1, a2, hq⟩ := labsAt_head hSw; obtain ⟨b0, b1, b2, hq2⟩ := labsAt_head hq; obtain ⟨c0, c1, c2, _⟩ := labsAt_head hq2; go_simp; try with_reducible rfl))
  try simp only [Act.put, List.setIfInBounds_toArray, List.set_cons_zero, List.set_cons_succ]
  refine wpAnyH_take (i := 5) (oi := { dst := some 18, op := Go.Op.load 24 (Go.Operand.tmp 3), type := 24, pos := "law.go:48", after := #[{ on := 1, ground := Go.Ground.guard }], guard := some (1, true) }) (v := ?_) rfl (by kernel_rfl) (by kernel_rfl) (by kernel_rfl) (fun _ _ _ h => h) (Or.inl ⟨by rfl, ?_⟩) hS0 ?_; rotate_left; (· (intro wq hSw; obtain ⟨a0, a1, a2, hq⟩ := labsAt_head hSw; obtain ⟨b0, b1, b2, hq2⟩ := labsAt_head hq; obtain ⟨c0, c1, c2, _⟩ := labsAt_head hq2; go_simp; try with_reducible rfl))
  try simp only [Act.put, List.setIfInBounds_toArray, List.set_cons_zero, List.set_cons_succ]
  refine wpAnyH_ready (rs := [4]) (by kernel_rfl) (by simp) ?_
  refine AllReadyH.cons (o := { dst := some 17, op := Go.Op.call { callee := Go.Callee.value (Go.Operand.func 18), args := #[Go.Operand.tmp 15, Go.Operand.tmp 16], argTypes := #[24, 24] }, type := 4, pos := "law.go:48", after := #[{ on := 2, ground := Go.Ground.data }, { on := 3, ground := Go.Ground.data }, { on := 1, ground := Go.Ground.chain }, { on := 1, ground := Go.Ground.guard }], guard := some (1, true) }) rfl (fun K hK => ?_) AllReadyH.nil
  go_simp
  refine (Under_any a a hfa hfa _).mono ?_
  rintro e w3 ⟨he, hb⟩
  rw [AA.out, RA.out] at he
  subst he
  refine hK.out _ _ (LabsAt.later hS0 hb) (fun hS1 => ?_)
  clear hK K hS0 hb
  try simp only [Act.put, List.setIfInBounds_toArray, List.set_cons_zero, List.set_cons_succ]
  refine wpAnyH_ready (rs := [6]) (by kernel_rfl) (by simp) ?_
  refine AllReadyH.cons (o := { dst := some 19, op := Go.Op.call { callee := Go.Callee.value (Go.Operand.func 16), args := #[Go.Operand.tmp 18], argTypes := #[24] }, type := 4, pos := "law.go:48", after := #[{ on := 5, ground := Go.Ground.data }, { on := 4, ground := Go.Ground.chain }, { on := 1, ground := Go.Ground.guard }], guard := some (1, true) }) rfl (fun K hK => ?_) AllReadyH.nil
  go_simp
  refine (right_any a hfa _).mono ?_
  rintro e w4 ⟨he, hb⟩
  rw [RA.out] at he
  subst he
  refine hK.out _ _ (LabsAt.later hS1 hb) (fun hS2 => ?_)
  clear hK K hS1 hb
  try simp only [Act.put, List.setIfInBounds_toArray, List.set_cons_zero, List.set_cons_succ]
  refine wpAnyH_take (i := 7) (oi := { dst := some 20, op := Go.Op.binOp Go.BinOp.eql 4 (Go.Operand.tmp 17) (Go.Operand.tmp 19) 4, type := 4, pos := "law.go:48", after := #[{ on := 4, ground := Go.Ground.data }, { on := 6, ground := Go.Ground.data }, { on := 1, ground := Go.Ground.guard }], guard := some (1, true) }) (v := ?_) rfl (by kernel_rfl) (by kernel_rfl) (by kernel_rfl) (fun _ _ _ h => h) (Or.inl ⟨by rfl, ?_⟩) hS2 ?_; rotate_left; (· (intro wq hSw; obtain ⟨a0, a1, a2, hq⟩ := labsAt_head hSw; obtain ⟨b0, b1, b2, hq2⟩ := labsAt_head hq; obtain ⟨c0, c1, c2, _⟩ := labsAt_head hq2; go_simp; try with_reducible rfl))
  try simp only [Act.put, List.setIfInBounds_toArray, List.set_cons_zero, List.set_cons_succ]
  refine wpAnyH_take (i := 8) (oi := { dst := some 21, op := Go.Op.pick (Go.Operand.tmp 14) (Go.Operand.tmp 20) (Go.Operand.const (Go.Value.bool false)), type := 4, pos := "law.go:48", after := #[{ on := 1, ground := Go.Ground.data }, { on := 7, ground := Go.Ground.data }], guard := none }) (v := ?_) rfl (by kernel_rfl) (by kernel_rfl) (by kernel_rfl) (fun _ _ _ h => h) (Or.inl ⟨by rfl, ?_⟩) hS2 ?_; rotate_left; (· (intro wq hSw; obtain ⟨a0, a1, a2, hq⟩ := labsAt_head hSw; obtain ⟨b0, b1, b2, hq2⟩ := labsAt_head hq; obtain ⟨c0, c1, c2, _⟩ := labsAt_head hq2; go_simp; try with_reducible rfl))
  try simp only [Act.put, List.setIfInBounds_toArray, List.set_cons_zero, List.set_cons_succ]
  refine wpAnyH_take (i := 9) (oi := { dst := some 22, op := Go.Op.move (Go.Operand.tmp 21), type := 4, pos := "law.go:48", after := #[{ on := 8, ground := Go.Ground.data }, { on := 6, ground := Go.Ground.chain }], guard := none }) (v := ?_) rfl (by kernel_rfl) (by kernel_rfl) (by kernel_rfl) (fun _ _ _ h => h) (Or.inl ⟨by rfl, ?_⟩) hS2 ?_; rotate_left; (· (intro wq hSw; obtain ⟨a0, a1, a2, hq⟩ := labsAt_head hSw; obtain ⟨b0, b1, b2, hq2⟩ := labsAt_head hq; obtain ⟨c0, c1, c2, _⟩ := labsAt_head hq2; go_simp; try with_reducible rfl))
  try simp only [Act.put, List.setIfInBounds_toArray, List.set_cons_zero, List.set_cons_succ]
  refine wpAnyH_take (i := 10) (oi := { dst := some 23, op := Go.Op.move (Go.Operand.tmp 8), type := 4, pos := "law.go:48", after := #[{ on := 9, ground := Go.Ground.guard }], guard := some (9, true) }) (v := ?_) rfl (by kernel_rfl) (by kernel_rfl) (by kernel_rfl) (fun _ _ _ h => h) (Or.inl ⟨by rfl, ?_⟩) hS2 ?_; rotate_left; (· (intro wq hSw; obtain ⟨a0, a1, a2, hq⟩ := labsAt_head hSw; obtain ⟨b0, b1, b2, hq2⟩ := labsAt_head hq; obtain ⟨c0, c1, c2, _⟩ := labsAt_head hq2; go_simp; try with_reducible rfl))
  try simp only [Act.put, List.setIfInBounds_toArray, List.set_cons_zero, List.set_cons_succ]
  refine wpAnyH_take (i := 11) (oi := { dst := some 24, op := Go.Op.unOp Go.UnOp.not 4 (Go.Operand.tmp 23), type := 4, pos := "law.go:48", after := #[{ on := 10, ground := Go.Ground.data }, { on := 9, ground := Go.Ground.guard }], guard := some (9, true) }) (v := ?_) rfl (by kernel_rfl) (by kernel_rfl) (by kernel_rfl) (fun _ _ _ h => h) (Or.inl ⟨by rfl, ?_⟩) hS2 ?_; rotate_left; (· (intro wq hSw; obtain ⟨a0, a1, a2, hq⟩ := labsAt_head hSw; obtain ⟨b0, b1, b2, hq2⟩ := labsAt_head hq; obtain ⟨c0, c1, c2, _⟩ := labsAt_head hq2; go_simp; try with_reducible rfl))
  try simp only [Act.put, List.setIfInBounds_toArray, List.set_cons_zero, List.set_cons_succ]
  refine wpAnyH_take (i := 12) (oi := { dst := some 25, op := Go.Op.move (Go.Operand.tmp 24), type := 4, pos := "law.go:48", after := #[{ on := 11, ground := Go.Ground.data }, { on := 9, ground := Go.Ground.chain }, { on := 9, ground := Go.Ground.guard }], guard := some (9, true) }) (v := ?_) rfl (by kernel_rfl) (by kernel_rfl) (by kernel_rfl) (fun _ _ _ h => h) (Or.inl ⟨by rfl, ?_⟩) hS2 ?_; rotate_left; (· (intro wq hSw; obtain ⟨a0, a1, a2, hq⟩ := labsAt_head hSw; obtain ⟨b0, b1, b2, hq2⟩ := labsAt_head hq; obtain ⟨c0, c1, c2, _⟩ := labsAt_head hq2; go_simp; try with_reducible rfl))
  try simp only [Act.put, List.setIfInBounds_toArray, List.set_cons_zero, List.set_cons_succ]
  refine wpAnyH_take (i := 13) (oi := { dst := some 26, op := Go.Op.load 24 (Go.Operand.tmp 4), type := 24, pos := "law.go:48", after := #[{ on := 12, ground := Go.Ground.guard }], guard := some (12, false) }) (v := ?_) rfl (by kernel_rfl) (by kernel_rfl) (by kernel_rfl) (fun _ _ _ h => h) (Or.inl ⟨by rfl, ?_⟩) hS2 ?_; rotate_left; (· (intro wq hSw; obtain ⟨a0, a1, a2, hq⟩ := labsAt_head hSw; obtain ⟨b0, b1, b2, hq2⟩ := labsAt_head hq; obtain ⟨c0, c1, c2, _⟩ := labsAt_head hq2; go_simp; try with_reducible rfl))
  try simp only [Act.put, List.setIfInBounds_toArray, List.set_cons_zero, List.set_cons_succ]
  refine wpAnyH_take (i := 14) (oi := { dst := some 27, op := Go.Op.load 24 (Go.Operand.tmp 3), type := 24, pos := "law.go:48", after := #[{ on := 12, ground := Go.Ground.guard }], guard := some (12, false) }) (v := ?_) rfl (by kernel_rfl) (by kernel_rfl) (by kernel_rfl) (fun _ _ _ h => h) (Or.inl ⟨by rfl, ?_⟩) hS2 ?_; rotate_left; (· (intro wq hSw; obtain ⟨a0, a1, a2, hq⟩ := labsAt_head hSw; obtain ⟨b0, b1, b2, hq2⟩ := labsAt_head hq; obtain ⟨c0, c1, c2, _⟩ := labsAt_head hq2; go_simp; try with_reducible rfl))
  try simp only [Act.put, List.setIfInBounds_toArray, List.set_cons_zero, List.set_cons_succ]
  refine wpAnyH_ready (rs := [15]) (by kernel_rfl) (by simp) ?_
  refine AllReadyH.cons (o := { dst := some 28, op := Go.Op.call { callee := Go.Callee.value (Go.Operand.func 18), args := #[Go.Operand.tmp 26, Go.Operand.tmp 27], argTypes := #[24, 24] }, type := 4, pos := "law.go:48", after := #[{ on := 13, ground := Go.Ground.data }, { on := 14, ground := Go.Ground.data }, { on := 12, ground := Go.Ground.chain }, { on := 12, ground := Go.Ground.guard }], guard := some (12, false) }) rfl (fun K hK => ?_) AllReadyH.nil
  go_simp
  refine (Under_any b a hfb hfa _).mono ?_
  rintro e w5 ⟨he, hb⟩
  rw [BA.out] at he
  subst he
  refine hK.out _ _ (LabsAt.later hS2 hb) (fun hS3 => ?_)
  clear hK K hS2 hb
  try simp only [Act.put, List.setIfInBounds_toArray, List.set_cons_zero, List.set_cons_succ]
  refine wpAnyH_take (i := 16) (oi := { dst := some 29, op := Go.Op.unOp Go.UnOp.not 4 (Go.Operand.tmp 28), type := 4, pos := "law.go:48", after := #[{ on := 15, ground := Go.Ground.data }, { on := 12, ground := Go.Ground.guard }], guard := some (12, false) }) (v := ?_) rfl (by kernel_rfl) (by kernel_rfl) (by kernel_rfl) (fun _ _ _ h => h) (Or.inl ⟨by rfl, ?_⟩) hS3 ?_; rotate_left; (· (intro wq hSw; obtain ⟨a0, a1, a2, hq⟩ := labsAt_head hSw; obtain ⟨b0, b1, b2, hq2⟩ := labsAt_head hq; obtain ⟨c0, c1, c2, _⟩ := labsAt_head hq2; go_simp; try with_reducible rfl))
  try simp only [Act.put, List.setIfInBounds_toArray, List.set_cons_zero, List.set_cons_succ]
  refine wpAnyH_take (i := 17) (oi := { dst := some 30, op := Go.Op.pick (Go.Operand.tmp 25) (Go.Operand.const (Go.Value.bool true)) (Go.Operand.tmp 29), type := 4, pos := "law.go:48", after := #[{ on := 12, ground := Go.Ground.data }, { on := 16, ground := Go.Ground.data }, { on := 9, ground := Go.Ground.guard }], guard := some (9, true) }) (v := ?_) rfl (by kernel_rfl) (by kernel_rfl) (by kernel_rfl) (fun _ _ _ h => h) (Or.inl ⟨by rfl, ?_⟩) hS3 ?_; rotate_left; (· (intro wq hSw; obtain ⟨a0, a1, a2, hq⟩ := labsAt_head hSw; obtain ⟨b0, b1, b2, hq2⟩ := labsAt_head hq; obtain ⟨c0, c1, c2, _⟩ := labsAt_head hq2; go_simp; try with_reducible rfl))
  try simp only [Act.put, List.setIfInBounds_toArray, List.set_cons_zero, List.set_cons_succ]
  refine wpAnyH_take (i := 18) (oi := { dst := some 31, op := Go.Op.move (Go.Operand.tmp 30), type := 4, pos := "law.go:48", after := #[{ on := 17, ground := Go.Ground.data }, { on := 15, ground := Go.Ground.chain }, { on := 9, ground := Go.Ground.guard }], guard := some (9, true) }) (v := ?_) rfl (by kernel_rfl) (by kernel_rfl) (by kernel_rfl) (fun _ _ _ h => h) (Or.inl ⟨by rfl, ?_⟩) hS3 ?_; rotate_left; (· (intro wq hSw; obtain ⟨a0, a1, a2, hq⟩ := labsAt_head hSw; obtain ⟨b0, b1, b2, hq2⟩ := labsAt_head hq; obtain ⟨c0, c1, c2, _⟩ := labsAt_head hq2; go_simp; try with_reducible rfl))
  try simp only [Act.put, List.setIfInBounds_toArray, List.set_cons_zero, List.set_cons_succ]
  refine wpAnyH_take (i := 19) (oi := { dst := some 32, op := Go.Op.load 24 (Go.Operand.tmp 3), type := 24, pos := "law.go:48", after := #[{ on := 18, ground := Go.Ground.guard }], guard := some (18, false) }) (v := ?_) rfl (by kernel_rfl) (by kernel_rfl) (by kernel_rfl) (fun _ _ _ h => h) (Or.inl ⟨by rfl, ?_⟩) hS3 ?_; rotate_left; (· (intro wq hSw; obtain ⟨a0, a1, a2, hq⟩ := labsAt_head hSw; obtain ⟨b0, b1, b2, hq2⟩ := labsAt_head hq; obtain ⟨c0, c1, c2, _⟩ := labsAt_head hq2; go_simp; try with_reducible rfl))
  try simp only [Act.put, List.setIfInBounds_toArray, List.set_cons_zero, List.set_cons_succ]
  refine wpAnyH_take (i := 20) (oi := { dst := some 33, op := Go.Op.load 24 (Go.Operand.tmp 4), type := 24, pos := "law.go:48", after := #[{ on := 18, ground := Go.Ground.guard }], guard := some (18, false) }) (v := ?_) rfl (by kernel_rfl) (by kernel_rfl) (by kernel_rfl) (fun _ _ _ h => h) (Or.inl ⟨by rfl, ?_⟩) hS3 ?_; rotate_left; (· (intro wq hSw; obtain ⟨a0, a1, a2, hq⟩ := labsAt_head hSw; obtain ⟨b0, b1, b2, hq2⟩ := labsAt_head hq; obtain ⟨c0, c1, c2, _⟩ := labsAt_head hq2; go_simp; try with_reducible rfl))
  try simp only [Act.put, List.setIfInBounds_toArray, List.set_cons_zero, List.set_cons_succ]
  refine wpAnyH_take (i := 21) (oi := { dst := some 34, op := Go.Op.binOp Go.BinOp.eql 24 (Go.Operand.tmp 32) (Go.Operand.tmp 33) 24, type := 4, pos := "law.go:48", after := #[{ on := 19, ground := Go.Ground.data }, { on := 20, ground := Go.Ground.data }, { on := 18, ground := Go.Ground.guard }], guard := some (18, false) }) (v := ?_) rfl (by kernel_rfl) (by kernel_rfl) (by kernel_rfl) (fun _ _ _ h => h) (Or.inl ⟨by rfl, ?_⟩) hS3 ?_; rotate_left; (· (intro wq hSw; obtain ⟨a0, a1, a2, hq⟩ := labsAt_head hSw; obtain ⟨b0, b1, b2, hq2⟩ := labsAt_head hq; obtain ⟨c0, c1, c2, _⟩ := labsAt_head hq2; go_simp; try with_reducible rfl))
  try simp only [Act.put, List.setIfInBounds_toArray, List.set_cons_zero, List.set_cons_succ]
  refine wpAnyH_take (i := 22) (oi := { dst := some 35, op := Go.Op.pick (Go.Operand.tmp 31) (Go.Operand.const (Go.Value.bool true)) (Go.Operand.tmp 34), type := 4, pos := "law.go:48", after := #[{ on := 18, ground := Go.Ground.data }, { on := 21, ground := Go.Ground.data }, { on := 9, ground := Go.Ground.guard }], guard := some (9, true) }) (v := ?_) rfl (by kernel_rfl) (by kernel_rfl) (by kernel_rfl) (fun _ _ _ h => h) (Or.inl ⟨by rfl, ?_⟩) hS3 ?_; rotate_left; (· (intro wq hSw; obtain ⟨a0, a1, a2, hq⟩ := labsAt_head hSw; obtain ⟨b0, b1, b2, hq2⟩ := labsAt_head hq; obtain ⟨c0, c1, c2, _⟩ := labsAt_head hq2; go_simp; try with_reducible rfl))
  try simp only [Act.put, List.setIfInBounds_toArray, List.set_cons_zero, List.set_cons_succ]
  refine wpAnyH_take (i := 23) (oi := { dst := some 36, op := Go.Op.pick (Go.Operand.tmp 22) (Go.Operand.tmp 35) (Go.Operand.const (Go.Value.bool false)), type := 4, pos := "law.go:48", after := #[{ on := 9, ground := Go.Ground.data }, { on := 22, ground := Go.Ground.data }], guard := none }) (v := ?_) rfl (by kernel_rfl) (by kernel_rfl) (by kernel_rfl) (fun _ _ _ h => h) (Or.inl ⟨by rfl, ?_⟩) hS3 ?_; rotate_left; (· (intro wq hSw; obtain ⟨a0, a1, a2, hq⟩ := labsAt_head hSw; obtain ⟨b0, b1, b2, hq2⟩ := labsAt_head hq; obtain ⟨c0, c1, c2, _⟩ := labsAt_head hq2; go_simp; try with_reducible rfl))
  try simp only [Act.put, List.setIfInBounds_toArray, List.set_cons_zero, List.set_cons_succ]
  refine wpAnyH_take (i := 24) (oi := { dst := some 37, op := Go.Op.move (Go.Operand.tmp 36), type := 4, pos := "law.go:48", after := #[{ on := 23, ground := Go.Ground.data }, { on := 18, ground := Go.Ground.chain }], guard := none }) (v := ?_) rfl (by kernel_rfl) (by kernel_rfl) (by kernel_rfl) (fun _ _ _ h => h) (Or.inl ⟨by rfl, ?_⟩) hS3 ?_; rotate_left; (· (intro wq hSw; obtain ⟨a0, a1, a2, hq⟩ := labsAt_head hSw; obtain ⟨b0, b1, b2, hq2⟩ := labsAt_head hq; obtain ⟨c0, c1, c2, _⟩ := labsAt_head hq2; go_simp; try with_reducible rfl))
  try simp only [Act.put, List.setIfInBounds_toArray, List.set_cons_zero, List.set_cons_succ]
  refine wpAnyH_take (i := 25) (oi := { dst := some 38, op := Go.Op.move (Go.Operand.tmp 8), type := 4, pos := "law.go:48", after := #[{ on := 24, ground := Go.Ground.guard }], guard := some (24, true) }) (v := ?_) rfl (by kernel_rfl) (by kernel_rfl) (by kernel_rfl) (fun _ _ _ h => h) (Or.inl ⟨by rfl, ?_⟩) hS3 ?_; rotate_left; (· (intro wq hSw; obtain ⟨a0, a1, a2, hq⟩ := labsAt_head hSw; obtain ⟨b0, b1, b2, hq2⟩ := labsAt_head hq; obtain ⟨c0, c1, c2, _⟩ := labsAt_head hq2; go_simp; try with_reducible rfl))
  try simp only [Act.put, List.setIfInBounds_toArray, List.set_cons_zero, List.set_cons_succ]
  refine wpAnyH_take (i := 26) (oi := { dst := some 39, op := Go.Op.unOp Go.UnOp.not 4 (Go.Operand.tmp 38), type := 4, pos := "law.go:48", after := #[{ on := 25, ground := Go.Ground.data }, { on := 24, ground := Go.Ground.guard }], guard := some (24, true) }) (v := ?_) rfl (by kernel_rfl) (by kernel_rfl) (by kernel_rfl) (fun _ _ _ h => h) (Or.inl ⟨by rfl, ?_⟩) hS3 ?_; rotate_left; (· (intro wq hSw; obtain ⟨a0, a1, a2, hq⟩ := labsAt_head hSw; obtain ⟨b0, b1, b2, hq2⟩ := labsAt_head hq; obtain ⟨c0, c1, c2, _⟩ := labsAt_head hq2; go_simp; try with_reducible rfl))
  try simp only [Act.put, List.setIfInBounds_toArray, List.set_cons_zero, List.set_cons_succ]
  refine wpAnyH_take (i := 27) (oi := { dst := some 40, op := Go.Op.move (Go.Operand.tmp 39), type := 4, pos := "law.go:48", after := #[{ on := 26, ground := Go.Ground.data }, { on := 24, ground := Go.Ground.chain }, { on := 24, ground := Go.Ground.guard }], guard := some (24, true) }) (v := ?_) rfl (by kernel_rfl) (by kernel_rfl) (by kernel_rfl) (fun _ _ _ h => h) (Or.inl ⟨by rfl, ?_⟩) hS3 ?_; rotate_left; (· (intro wq hSw; obtain ⟨a0, a1, a2, hq⟩ := labsAt_head hSw; obtain ⟨b0, b1, b2, hq2⟩ := labsAt_head hq; obtain ⟨c0, c1, c2, _⟩ := labsAt_head hq2; go_simp; try with_reducible rfl))
  try simp only [Act.put, List.setIfInBounds_toArray, List.set_cons_zero, List.set_cons_succ]
  refine wpAnyH_take (i := 28) (oi := { dst := some 41, op := Go.Op.load 24 (Go.Operand.tmp 4), type := 24, pos := "law.go:48", after := #[{ on := 27, ground := Go.Ground.guard }], guard := some (27, false) }) (v := ?_) rfl (by kernel_rfl) (by kernel_rfl) (by kernel_rfl) (fun _ _ _ h => h) (Or.inl ⟨by rfl, ?_⟩) hS3 ?_; rotate_left; (· (intro wq hSw; obtain ⟨a0, a1, a2, hq⟩ := labsAt_head hSw; obtain ⟨b0, b1, b2, hq2⟩ := labsAt_head hq; obtain ⟨c0, c1, c2, _⟩ := labsAt_head hq2; go_simp; try with_reducible rfl))
  try simp only [Act.put, List.setIfInBounds_toArray, List.set_cons_zero, List.set_cons_succ]
  refine wpAnyH_take (i := 29) (oi := { dst := some 42, op := Go.Op.load 24 (Go.Operand.tmp 5), type := 24, pos := "law.go:48", after := #[{ on := 27, ground := Go.Ground.guard }], guard := some (27, false) }) (v := ?_) rfl (by kernel_rfl) (by kernel_rfl) (by kernel_rfl) (fun _ _ _ h => h) (Or.inl ⟨by rfl, ?_⟩) hS3 ?_; rotate_left; (· (intro wq hSw; obtain ⟨a0, a1, a2, hq⟩ := labsAt_head hSw; obtain ⟨b0, b1, b2, hq2⟩ := labsAt_head hq; obtain ⟨c0, c1, c2, _⟩ := labsAt_head hq2; go_simp; try with_reducible rfl))
  try simp only [Act.put, List.setIfInBounds_toArray, List.set_cons_zero, List.set_cons_succ]
  refine wpAnyH_ready (rs := [30]) (by kernel_rfl) (by simp) ?_
  refine AllReadyH.cons (o := { dst := some 43, op := Go.Op.call { callee := Go.Callee.value (Go.Operand.func 18), args := #[Go.Operand.tmp 41, Go.Operand.tmp 42], argTypes := #[24, 24] }, type := 4, pos := "law.go:48", after := #[{ on := 28, ground := Go.Ground.data }, { on := 29, ground := Go.Ground.data }, { on := 27, ground := Go.Ground.chain }, { on := 27, ground := Go.Ground.guard }], guard := some (27, false) }) rfl (fun K hK => ?_) AllReadyH.nil
  go_simp
  refine (Under_any b c hfb hfc _).mono ?_
  rintro e w6 ⟨he, hb⟩
  rw [BC.out] at he
  subst he
  refine hK.out _ _ (LabsAt.later hS3 hb) (fun hS4 => ?_)
  clear hK K hS3 hb
  try simp only [Act.put, List.setIfInBounds_toArray, List.set_cons_zero, List.set_cons_succ]
  refine wpAnyH_take (i := 31) (oi := { dst := some 44, op := Go.Op.unOp Go.UnOp.not 4 (Go.Operand.tmp 43), type := 4, pos := "law.go:48", after := #[{ on := 30, ground := Go.Ground.data }, { on := 27, ground := Go.Ground.guard }], guard := some (27, false) }) (v := ?_) rfl (by kernel_rfl) (by kernel_rfl) (by kernel_rfl) (fun _ _ _ h => h) (Or.inl ⟨by rfl, ?_⟩) hS4 ?_; rotate_left; (· (intro wq hSw; obtain ⟨a0, a1, a2, hq⟩ := labsAt_head hSw; obtain ⟨b0, b1, b2, hq2⟩ := labsAt_head hq; obtain ⟨c0, c1, c2, _⟩ := labsAt_head hq2; go_simp; try with_reducible rfl))
  try simp only [Act.put, List.setIfInBounds_toArray, List.set_cons_zero, List.set_cons_succ]
  refine wpAnyH_take (i := 32) (oi := { dst := some 45, op := Go.Op.pick (Go.Operand.tmp 40) (Go.Operand.const (Go.Value.bool true)) (Go.Operand.tmp 44), type := 4, pos := "law.go:48", after := #[{ on := 27, ground := Go.Ground.data }, { on := 31, ground := Go.Ground.data }, { on := 24, ground := Go.Ground.guard }], guard := some (24, true) }) (v := ?_) rfl (by kernel_rfl) (by kernel_rfl) (by kernel_rfl) (fun _ _ _ h => h) (Or.inl ⟨by rfl, ?_⟩) hS4 ?_; rotate_left; (· (intro wq hSw; obtain ⟨a0, a1, a2, hq⟩ := labsAt_head hSw; obtain ⟨b0, b1, b2, hq2⟩ := labsAt_head hq; obtain ⟨c0, c1, c2, _⟩ := labsAt_head hq2; go_simp; try with_reducible rfl))
  try simp only [Act.put, List.setIfInBounds_toArray, List.set_cons_zero, List.set_cons_succ]
  refine wpAnyH_take (i := 33) (oi := { dst := some 46, op := Go.Op.move (Go.Operand.tmp 45), type := 4, pos := "law.go:48", after := #[{ on := 32, ground := Go.Ground.data }, { on := 30, ground := Go.Ground.chain }, { on := 24, ground := Go.Ground.guard }], guard := some (24, true) }) (v := ?_) rfl (by kernel_rfl) (by kernel_rfl) (by kernel_rfl) (fun _ _ _ h => h) (Or.inl ⟨by rfl, ?_⟩) hS4 ?_; rotate_left; (· (intro wq hSw; obtain ⟨a0, a1, a2, hq⟩ := labsAt_head hSw; obtain ⟨b0, b1, b2, hq2⟩ := labsAt_head hq; obtain ⟨c0, c1, c2, _⟩ := labsAt_head hq2; go_simp; try with_reducible rfl))
  try simp only [Act.put, List.setIfInBounds_toArray, List.set_cons_zero, List.set_cons_succ]
  refine wpAnyH_take (i := 34) (oi := { dst := some 47, op := Go.Op.load 24 (Go.Operand.tmp 3), type := 24, pos := "law.go:48", after := #[{ on := 33, ground := Go.Ground.guard }], guard := some (33, false) }) (v := ?_) rfl (by kernel_rfl) (by kernel_rfl) (by kernel_rfl) (fun _ _ _ h => h) (Or.inl ⟨by rfl, ?_⟩) hS4 ?_; rotate_left; (· (intro wq hSw; obtain ⟨a0, a1, a2, hq⟩ := labsAt_head hSw; obtain ⟨b0, b1, b2, hq2⟩ := labsAt_head hq; obtain ⟨c0, c1, c2, _⟩ := labsAt_head hq2; go_simp; try with_reducible rfl))
  try simp only [Act.put, List.setIfInBounds_toArray, List.set_cons_zero, List.set_cons_succ]
  refine wpAnyH_take (i := 35) (oi := { dst := some 48, op := Go.Op.load 24 (Go.Operand.tmp 5), type := 24, pos := "law.go:48", after := #[{ on := 33, ground := Go.Ground.guard }], guard := some (33, false) }) (v := ?_) rfl (by kernel_rfl) (by kernel_rfl) (by kernel_rfl) (fun _ _ _ h => h) (Or.inl ⟨by rfl, ?_⟩) hS4 ?_; rotate_left; (· (intro wq hSw; obtain ⟨a0, a1, a2, hq⟩ := labsAt_head hSw; obtain ⟨b0, b1, b2, hq2⟩ := labsAt_head hq; obtain ⟨c0, c1, c2, _⟩ := labsAt_head hq2; go_simp; try with_reducible rfl))
  try simp only [Act.put, List.setIfInBounds_toArray, List.set_cons_zero, List.set_cons_succ]
  refine wpAnyH_ready (rs := [36]) (by kernel_rfl) (by simp) ?_
  refine AllReadyH.cons (o := { dst := some 49, op := Go.Op.call { callee := Go.Callee.value (Go.Operand.func 18), args := #[Go.Operand.tmp 47, Go.Operand.tmp 48], argTypes := #[24, 24] }, type := 4, pos := "law.go:48", after := #[{ on := 34, ground := Go.Ground.data }, { on := 35, ground := Go.Ground.data }, { on := 33, ground := Go.Ground.chain }, { on := 33, ground := Go.Ground.guard }], guard := some (33, false) }) rfl (fun K hK => ?_) AllReadyH.nil
  go_simp
  refine (Under_any a c hfa hfc _).mono ?_
  rintro e w7 ⟨he, hb⟩
  rw [AC.out] at he
  subst he
  refine hK.out _ _ (LabsAt.later hS4 hb) (fun hS5 => ?_)
  clear hK K hS4 hb
  try simp only [Act.put, List.setIfInBounds_toArray, List.set_cons_zero, List.set_cons_succ]
  refine wpAnyH_take (i := 37) (oi := { dst := some 50, op := Go.Op.pick (Go.Operand.tmp 46) (Go.Operand.const (Go.Value.bool true)) (Go.Operand.tmp 49), type := 4, pos := "law.go:48", after := #[{ on := 33, ground := Go.Ground.data }, { on := 36, ground := Go.Ground.data }, { on := 24, ground := Go.Ground.guard }], guard := some (24, true) }) (v := ?_) rfl (by kernel_rfl) (by kernel_rfl) (by kernel_rfl) (fun _ _ _ h => h) (Or.inl ⟨by rfl, ?_⟩) hS5 ?_; rotate_left; (· (intro wq hSw; obtain ⟨a0, a1, a2, hq⟩ := labsAt_head hSw; obtain ⟨b0, b1, b2, hq2⟩ := labsAt_head hq; obtain ⟨c0, c1, c2, _⟩ := labsAt_head hq2; go_simp; try with_reducible rfl))
  try simp only [Act.put, List.setIfInBounds_toArray, List.set_cons_zero, List.set_cons_succ]
  refine wpAnyH_take (i := 38) (oi := { dst := some 51, op := Go.Op.pick (Go.Operand.tmp 37) (Go.Operand.tmp 50) (Go.Operand.const (Go.Value.bool false)), type := 4, pos := "law.go:48", after := #[{ on := 24, ground := Go.Ground.data }, { on := 37, ground := Go.Ground.data }], guard := none }) (v := ?_) rfl (by kernel_rfl) (by kernel_rfl) (by kernel_rfl) (fun _ _ _ h => h) (Or.inl ⟨by rfl, ?_⟩) hS5 ?_; rotate_left; (· (intro wq hSw; obtain ⟨a0, a1, a2, hq⟩ := labsAt_head hSw; obtain ⟨b0, b1, b2, hq2⟩ := labsAt_head hq; obtain ⟨c0, c1, c2, _⟩ := labsAt_head hq2; go_simp; try with_reducible rfl))
  try simp only [Act.put, List.setIfInBounds_toArray, List.set_cons_zero, List.set_cons_succ]
  refine wpAnyH_take (i := 39) (oi := { dst := some 52, op := Go.Op.move (Go.Operand.tmp 51), type := 4, pos := "law.go:48", after := #[{ on := 38, ground := Go.Ground.data }, { on := 36, ground := Go.Ground.chain }], guard := none }) (v := ?_) rfl (by kernel_rfl) (by kernel_rfl) (by kernel_rfl) (fun _ _ _ h => h) (Or.inl ⟨by rfl, ?_⟩) hS5 ?_; rotate_left; (· (intro wq hSw; obtain ⟨a0, a1, a2, hq⟩ := labsAt_head hSw; obtain ⟨b0, b1, b2, hq2⟩ := labsAt_head hq; obtain ⟨c0, c1, c2, _⟩ := labsAt_head hq2; go_simp; try with_reducible rfl))
  try simp only [Act.put, List.setIfInBounds_toArray, List.set_cons_zero, List.set_cons_succ]
  refine wpAnyH_take (i := 40) (oi := { dst := some 53, op := Go.Op.load 24 (Go.Operand.tmp 3), type := 24, pos := "law.go:48", after := #[{ on := 39, ground := Go.Ground.guard }], guard := some (39, true) }) (v := ?_) rfl (by kernel_rfl) (by kernel_rfl) (by kernel_rfl) (fun _ _ _ h => h) (Or.inl ⟨by rfl, ?_⟩) hS5 ?_; rotate_left; (· (intro wq hSw; obtain ⟨a0, a1, a2, hq⟩ := labsAt_head hSw; obtain ⟨b0, b1, b2, hq2⟩ := labsAt_head hq; obtain ⟨c0, c1, c2, _⟩ := labsAt_head hq2; go_simp; try with_reducible rfl))
  try simp only [Act.put, List.setIfInBounds_toArray, List.set_cons_zero, List.set_cons_succ]
  refine wpAnyH_ready (rs := [41]) (by kernel_rfl) (by simp) ?_
  refine AllReadyH.cons (o := { dst := some 54, op := Go.Op.call { callee := Go.Callee.value (Go.Operand.func 16), args := #[Go.Operand.tmp 53], argTypes := #[24] }, type := 4, pos := "law.go:48", after := #[{ on := 40, ground := Go.Ground.data }, { on := 39, ground := Go.Ground.chain }, { on := 39, ground := Go.Ground.guard }], guard := some (39, true) }) rfl (fun K hK => ?_) AllReadyH.nil
  go_simp
  refine (right_any a hfa _).mono ?_
  rintro e w8 ⟨he, hb⟩
  rw [RA.out] at he
  subst he
  refine hK.out _ _ (LabsAt.later hS5 hb) (fun hS6 => ?_)
  clear hK K hS5 hb
  try simp only [Act.put, List.setIfInBounds_toArray, List.set_cons_zero, List.set_cons_succ]
  refine wpAnyH_take (i := 42) (oi := { dst := some 55, op := Go.Op.unOp Go.UnOp.not 4 (Go.Operand.tmp 54), type := 4, pos := "law.go:48", after := #[{ on := 41, ground := Go.Ground.data }, { on := 39, ground := Go.Ground.guard }], guard := some (39, true) }) (v := ?_) rfl (by kernel_rfl) (by kernel_rfl) (by kernel_rfl) (fun _ _ _ h => h) (Or.inl ⟨by rfl, ?_⟩) hS6 ?_; rotate_left; (· (intro wq hSw; obtain ⟨a0, a1, a2, hq⟩ := labsAt_head hSw; obtain ⟨b0, b1, b2, hq2⟩ := labsAt_head hq; obtain ⟨c0, c1, c2, _⟩ := labsAt_head hq2; go_simp; try with_reducible rfl))
  try simp only [Act.put, List.setIfInBounds_toArray, List.set_cons_zero, List.set_cons_succ]
  refine wpAnyH_take (i := 43) (oi := { dst := some 56, op := Go.Op.move (Go.Operand.tmp 55), type := 4, pos := "law.go:48", after := #[{ on := 42, ground := Go.Ground.data }, { on := 41, ground := Go.Ground.chain }, { on := 39, ground := Go.Ground.guard }], guard := some (39, true) }) (v := ?_) rfl (by kernel_rfl) (by kernel_rfl) (by kernel_rfl) (fun _ _ _ h => h) (Or.inl ⟨by rfl, ?_⟩) hS6 ?_; rotate_left; (· (intro wq hSw; obtain ⟨a0, a1, a2, hq⟩ := labsAt_head hSw; obtain ⟨b0, b1, b2, hq2⟩ := labsAt_head hq; obtain ⟨c0, c1, c2, _⟩ := labsAt_head hq2; go_simp; try with_reducible rfl))
  try simp only [Act.put, List.setIfInBounds_toArray, List.set_cons_zero, List.set_cons_succ]
  refine wpAnyH_take (i := 45) (oi := { dst := some 58, op := Go.Op.load 24 (Go.Operand.tmp 3), type := 24, pos := "law.go:48", after := #[{ on := 43, ground := Go.Ground.guard }], guard := some (43, false) }) (v := ?_) rfl (by kernel_rfl) (by kernel_rfl) (by kernel_rfl) (fun _ _ _ h => h) (Or.inl ⟨by rfl, ?_⟩) hS6 ?_; rotate_left; (· (intro wq hSw; obtain ⟨a0, a1, a2, hq⟩ := labsAt_head hSw; obtain ⟨b0, b1, b2, hq2⟩ := labsAt_head hq; obtain ⟨c0, c1, c2, _⟩ := labsAt_head hq2; go_simp; try with_reducible rfl))
  try simp only [Act.put, List.setIfInBounds_toArray, List.set_cons_zero, List.set_cons_succ]
  refine wpAnyH_ready (rs := [44]) (by kernel_rfl) (by simp) ?_
  refine AllReadyH.cons (o := { dst := some 57, op := Go.Op.call { callee := Go.Callee.value (Go.Operand.func 22), args := #[], argTypes := #[] }, type := 24, pos := "law.go:48", after := #[{ on := 43, ground := Go.Ground.chain }, { on := 43, ground := Go.Ground.guard }], guard := some (43, false) }) rfl (fun K hK => ?_) AllReadyH.nil
  go_simp
  refine (bottom_any _).mono ?_
  rintro e w9 ⟨he, hb⟩
  subst he
  refine hK.out _ _ (LabsAt.later hS6 hb) (fun hS7 => ?_)
  clear hK K hS6 hb
  try simp only [Act.put, List.setIfInBounds_toArray, List.set_cons_zero, List.set_cons_succ]
  refine wpAnyH_ready (rs := [46]) (by kernel_rfl) (by simp) ?_
  refine AllReadyH.cons (o := { dst := some 59, op := Go.Op.call { callee := Go.Callee.value (Go.Operand.func 18), args := #[Go.Operand.tmp 57, Go.Operand.tmp 58], argTypes := #[24, 24] }, type := 4, pos := "law.go:48", after := #[{ on := 44, ground := Go.Ground.data }, { on := 45, ground := Go.Ground.data }, { on := 44, ground := Go.Ground.chain }, { on := 43, ground := Go.Ground.guard }], guard := some (43, false) }) rfl (fun K hK => ?_) AllReadyH.nil
  go_simp
  refine (UnderBot a hfa RA.out _).mono ?_
  rintro e w10 ⟨he, hb⟩
  subst he
  refine hK.out _ _ (LabsAt.later hS7 hb) (fun hS8 => ?_)
  clear hK K hS7 hb
  try simp only [Act.put, List.setIfInBounds_toArray, List.set_cons_zero, List.set_cons_succ]
  refine wpAnyH_take (i := 47) (oi := { dst := some 60, op := Go.Op.move (Go.Operand.tmp 59), type := 4, pos := "law.go:48", after := #[{ on := 46, ground := Go.Ground.data }, { on := 46, ground := Go.Ground.chain }, { on := 43, ground := Go.Ground.guard }], guard := some (43, false) }) (v := ?_) rfl (by kernel_rfl) (by kernel_rfl) (by kernel_rfl) (fun _ _ _ h => h) (Or.inl ⟨by rfl, ?_⟩) hS8 ?_; rotate_left; (· (intro wq hSw; obtain ⟨a0, a1, a2, hq⟩ := labsAt_head hSw; obtain ⟨b0, b1, b2, hq2⟩ := labsAt_head hq; obtain ⟨c0, c1, c2, _⟩ := labsAt_head hq2; go_simp; try with_reducible rfl))
  try simp only [Act.put, List.setIfInBounds_toArray, List.set_cons_zero, List.set_cons_succ]
  refine wpAnyH_take (i := 48) (oi := { dst := some 61, op := Go.Op.load 24 (Go.Operand.tmp 3), type := 24, pos := "law.go:48", after := #[{ on := 47, ground := Go.Ground.guard }], guard := some (47, true) }) (v := ?_) rfl (by kernel_rfl) (by kernel_rfl) (by kernel_rfl) (fun _ _ _ h => h) (Or.inl ⟨by rfl, ?_⟩) hS8 ?_; rotate_left; (· (intro wq hSw; obtain ⟨a0, a1, a2, hq⟩ := labsAt_head hSw; obtain ⟨b0, b1, b2, hq2⟩ := labsAt_head hq; obtain ⟨c0, c1, c2, _⟩ := labsAt_head hq2; go_simp; try with_reducible rfl))
  try simp only [Act.put, List.setIfInBounds_toArray, List.set_cons_zero, List.set_cons_succ]
  refine wpAnyH_ready (rs := [49]) (by kernel_rfl) (by simp) ?_
  refine AllReadyH.cons (o := { dst := some 62, op := Go.Op.call { callee := Go.Callee.value (Go.Operand.func 24), args := #[], argTypes := #[] }, type := 24, pos := "law.go:48", after := #[{ on := 47, ground := Go.Ground.chain }, { on := 47, ground := Go.Ground.guard }], guard := some (47, true) }) rfl (fun K hK => ?_) AllReadyH.nil
  go_simp
  refine (top_any _).mono ?_
  rintro e w11 ⟨he, hb⟩
  subst he
  refine hK.out _ _ (LabsAt.later hS8 hb) (fun hS9 => ?_)
  clear hK K hS8 hb
  try simp only [Act.put, List.setIfInBounds_toArray, List.set_cons_zero, List.set_cons_succ]
  refine wpAnyH_ready (rs := [50]) (by kernel_rfl) (by simp) ?_
  refine AllReadyH.cons (o := { dst := some 63, op := Go.Op.call { callee := Go.Callee.value (Go.Operand.func 18), args := #[Go.Operand.tmp 61, Go.Operand.tmp 62], argTypes := #[24, 24] }, type := 4, pos := "law.go:48", after := #[{ on := 48, ground := Go.Ground.data }, { on := 49, ground := Go.Ground.data }, { on := 49, ground := Go.Ground.chain }, { on := 47, ground := Go.Ground.guard }], guard := some (47, true) }) rfl (fun K hK => ?_) AllReadyH.nil
  go_simp
  refine (UnderTop a hfa RA.out _).mono ?_
  rintro e w12 ⟨he, hb⟩
  subst he
  refine hK.out _ _ (LabsAt.later hS9 hb) (fun hS10 => ?_)
  clear hK K hS9 hb
  try simp only [Act.put, List.setIfInBounds_toArray, List.set_cons_zero, List.set_cons_succ]
  refine wpAnyH_take (i := 51) (oi := { dst := some 64, op := Go.Op.pick (Go.Operand.tmp 60) (Go.Operand.tmp 63) (Go.Operand.const (Go.Value.bool false)), type := 4, pos := "law.go:48", after := #[{ on := 47, ground := Go.Ground.data }, { on := 50, ground := Go.Ground.data }, { on := 43, ground := Go.Ground.guard }], guard := some (43, false) }) (v := ?_) rfl (by kernel_rfl) (by kernel_rfl) (by kernel_rfl) (fun _ _ _ h => h) (Or.inl ⟨by rfl, ?_⟩) hS10 ?_; rotate_left; (· (intro wq hSw; obtain ⟨a0, a1, a2, hq⟩ := labsAt_head hSw; obtain ⟨b0, b1, b2, hq2⟩ := labsAt_head hq; obtain ⟨c0, c1, c2, _⟩ := labsAt_head hq2; go_simp; try with_reducible rfl))
  try simp only [Act.put, List.setIfInBounds_toArray, List.set_cons_zero, List.set_cons_succ]
  refine wpAnyH_take (i := 52) (oi := { dst := some 65, op := Go.Op.pick (Go.Operand.tmp 56) (Go.Operand.const (Go.Value.bool true)) (Go.Operand.tmp 64), type := 4, pos := "law.go:48", after := #[{ on := 43, ground := Go.Ground.data }, { on := 51, ground := Go.Ground.data }, { on := 39, ground := Go.Ground.guard }], guard := some (39, true) }) (v := ?_) rfl (by kernel_rfl) (by kernel_rfl) (by kernel_rfl) (fun _ _ _ h => h) (Or.inl ⟨by rfl, ?_⟩) hS10 ?_; rotate_left; (· (intro wq hSw; obtain ⟨a0, a1, a2, hq⟩ := labsAt_head hSw; obtain ⟨b0, b1, b2, hq2⟩ := labsAt_head hq; obtain ⟨c0, c1, c2, _⟩ := labsAt_head hq2; go_simp; try with_reducible rfl))
  try simp only [Act.put, List.setIfInBounds_toArray, List.set_cons_zero, List.set_cons_succ]
  refine wpAnyH_take (i := 53) (oi := { dst := some 66, op := Go.Op.pick (Go.Operand.tmp 52) (Go.Operand.tmp 65) (Go.Operand.const (Go.Value.bool false)), type := 4, pos := "law.go:48", after := #[{ on := 39, ground := Go.Ground.data }, { on := 52, ground := Go.Ground.data }], guard := none }) (v := ?_) rfl (by kernel_rfl) (by kernel_rfl) (by kernel_rfl) (fun _ _ _ h => h) (Or.inl ⟨by rfl, ?_⟩) hS10 ?_; rotate_left; (· (intro wq hSw; obtain ⟨a0, a1, a2, hq⟩ := labsAt_head hSw; obtain ⟨b0, b1, b2, hq2⟩ := labsAt_head hq; obtain ⟨c0, c1, c2, _⟩ := labsAt_head hq2; go_simp; try with_reducible rfl))
  try simp only [Act.put, List.setIfInBounds_toArray, List.set_cons_zero, List.set_cons_succ]
  refine wpAnyH_take (i := 54) (oi := { dst := some 6, op := Go.Op.assign (Go.Operand.tmp 66), type := 4, pos := "law.go:48", after := #[{ on := 53, ground := Go.Ground.data }, { on := 50, ground := Go.Ground.chain }, { on := 0, ground := Go.Ground.phase }, { on := 1, ground := Go.Ground.phase }, { on := 2, ground := Go.Ground.phase }, { on := 3, ground := Go.Ground.phase }, { on := 4, ground := Go.Ground.phase }, { on := 5, ground := Go.Ground.phase }, { on := 6, ground := Go.Ground.phase }, { on := 7, ground := Go.Ground.phase }, { on := 8, ground := Go.Ground.phase }, { on := 9, ground := Go.Ground.phase }, { on := 10, ground := Go.Ground.phase }, { on := 11, ground := Go.Ground.phase }, { on := 12, ground := Go.Ground.phase }, { on := 13, ground := Go.Ground.phase }, { on := 14, ground := Go.Ground.phase }, { on := 15, ground := Go.Ground.phase }, { on := 16, ground := Go.Ground.phase }, { on := 17, ground := Go.Ground.phase }, { on := 18, ground := Go.Ground.phase }, { on := 19, ground := Go.Ground.phase }, { on := 20, ground := Go.Ground.phase }, { on := 21, ground := Go.Ground.phase }, { on := 22, ground := Go.Ground.phase }, { on := 23, ground := Go.Ground.phase }, { on := 24, ground := Go.Ground.phase }, { on := 25, ground := Go.Ground.phase }, { on := 26, ground := Go.Ground.phase }, { on := 27, ground := Go.Ground.phase }, { on := 28, ground := Go.Ground.phase }, { on := 29, ground := Go.Ground.phase }, { on := 30, ground := Go.Ground.phase }, { on := 31, ground := Go.Ground.phase }, { on := 32, ground := Go.Ground.phase }, { on := 33, ground := Go.Ground.phase }, { on := 34, ground := Go.Ground.phase }, { on := 35, ground := Go.Ground.phase }, { on := 36, ground := Go.Ground.phase }, { on := 37, ground := Go.Ground.phase }, { on := 38, ground := Go.Ground.phase }, { on := 39, ground := Go.Ground.phase }, { on := 40, ground := Go.Ground.phase }, { on := 41, ground := Go.Ground.phase }, { on := 42, ground := Go.Ground.phase }, { on := 43, ground := Go.Ground.phase }, { on := 44, ground := Go.Ground.phase }, { on := 45, ground := Go.Ground.phase }, { on := 46, ground := Go.Ground.phase }, { on := 47, ground := Go.Ground.phase }, { on := 48, ground := Go.Ground.phase }, { on := 49, ground := Go.Ground.phase }, { on := 50, ground := Go.Ground.phase }, { on := 51, ground := Go.Ground.phase }, { on := 52, ground := Go.Ground.phase }, { on := 53, ground := Go.Ground.phase }], guard := none }) (v := ?_) rfl (by kernel_rfl) (by kernel_rfl) (by kernel_rfl) (fun _ _ _ h => h) (Or.inl ⟨by rfl, ?_⟩) hS10 ?_; rotate_left; (· (intro wq hSw; obtain ⟨a0, a1, a2, hq⟩ := labsAt_head hSw; obtain ⟨b0, b1, b2, hq2⟩ := labsAt_head hq; obtain ⟨c0, c1, c2, _⟩ := labsAt_head hq2; go_simp; try with_reducible rfl))
  try simp only [Act.put, List.setIfInBounds_toArray, List.set_cons_zero, List.set_cons_succ]
  refine wpAnyH_done (by kernel_rfl) ?_ _
  have hB := hS10.below
  clear hS10
  go_wp2
  go_ret
  exact ⟨rfl, hB⟩

theorem labelOrders_any (a b c : Lab) (hfa : a.fits) (hfb : b.fits) (hfc : c.fits) (w : World) (hg : ErrT w) :
    Calls Tryd.prog 5 #[.agg #[.int .i64 a.l, .int .u64 a.c, .int .i64 a.i], .agg #[.int .i64 b.l, .int .u64 b.c, .int .i64 b.i], .agg #[.int .i64 c.l, .int .u64 c.c, .int .i64 c.i]] w fun e w' => e = .returned (.bool true) ∧ Below w.heap.size w w' := by
  cases hab : a.under b
  · cases hra : a.right
    · exact labelOrders_B a b c hfa hfb hfc hab hra w hg
    · exact labelOrders_A a b c hfa hfb hfc hab hra w hg
  · cases hba : b.under a
    · cases hbc : b.under c
      · exact labelOrders_C a b c hfa hfb hfc hab hba hbc w hg
      · exact labelOrders_D a b c hfa hfb hfc hab hba hbc w hg
    · cases hbc : b.under c
      · exact labelOrders_E a b c hfa hfb hfc hab hba hbc w hg
      · exact labelOrders_F a b c hfa hfb hfc hab hba hbc w hg

end Go.Proofs.YtafghaceahchhaaDoor
