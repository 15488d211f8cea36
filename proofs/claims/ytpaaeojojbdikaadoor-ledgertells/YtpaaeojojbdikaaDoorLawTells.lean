/- LedgerTells: the walk. -/
import Derived.Test.YtpaaeojojbdikaaDoorLgRef4
namespace Go.Proofs.YtpaaeojojbdikaaDoor
open Go.RowKit Go.Proofs.Cats Go.Proofs.Lgr Go.Shelf Go.Sort

set_option maxRecDepth 100000 in
set_option maxHeartbeats 4000000 in
theorem tells_walk (a : Lab) (ha : a.fits) (ao : Option Addr) (len cap : Nat) (zs : List Ln) (bo : Option Addr) (len2 cap2 : Nat) (xs : List Ln) (w : World) (hL : Lns w ao len cap zs) (hM : Lns w bo len2 cap2 xs) (hg : ErrT w) :
    Calls Tryd.prog 3 #[.slice ao len cap, .agg #[.int .i64 a.l, .int .u64 a.c, .int .i64 a.i], .slice bo len2 cap2] w (TruePost w) := by
  have hB := Below.new w (.cells #[.int .i64 a.l, .int .u64 a.c, .int .i64 a.i] 25)
  have D0 := Lib.hid (Wd.new hg (.cells #[.int .i64 a.l, .int .u64 a.c, .int .i64 a.i] 25))
  have L0 := Lib.hid (hL.more hB)
  have M0 := Lib.hid (hM.more hB)
  have A0 := Lib.hid (La3.new w a)
  have hle := hL.hle
  have hmx := hL.hmax
  have hle2 := hM.hle
  have hmx2 := hM.hmax
  clear hB hL hM hg
  go_enter Tryd.func3, Tryd.ntmps3
  go_wp2_with (go_at_call 11; refine (shown_any _ D0.out.err).mono ?_)
  rintro e w1 ⟨rfl, hb1⟩
  have D1 := Lib.hid (D0.out.more hb1)
  have L1 := Lib.hid (L0.out.more hb1)
  have M1 := Lib.hid (M0.out.more hb1)
  have A1 := Lib.hid (A0.out.more hb1)
  clear hb1
  go_wp2_with (go_at_call 12; refine (few_any ao len cap hle hmx _).mono ?_)
  rintro e w2 ⟨rfl, hb2⟩
  obtain ⟨k, hk⟩ : ∃ k, min len 42 = k := ⟨_, rfl⟩
  obtain ⟨ys, hys⟩ : ∃ ys, zs.take 42 = ys := ⟨_, rfl⟩
  have L2 := (L1.out.more hb2).few 42
  rw [hk, hys] at L2
  rw [hk]
  have hk42 : k ≤ 42 := by omega
  have hyl := L2.hlen
  have D2 := Lib.hid (D1.out.more hb2)
  have A2 := Lib.hid (A1.out.more hb2)
  have L2 := Lib.hid L2
  have M2 := Lib.hid (M1.out.more hb2)
  clear hb2 hys
  go_wp2_with (go_at_call 12; refine (few_any bo len2 cap2 hle2 hmx2 _).mono ?_)
  rintro e w3 ⟨rfl, hb3⟩
  obtain ⟨k2, hk2⟩ : ∃ k, min len2 42 = k := ⟨_, rfl⟩
  obtain ⟨us, hus⟩ : ∃ us, xs.take 42 = us := ⟨_, rfl⟩
  have M3 := (M2.out.more hb3).few 42
  rw [hk2, hus] at M3
  rw [hk2]
  have hk242 : k2 ≤ 42 := by omega
  have D3 := Lib.hid (D2.out.more hb3)
  have A3 := Lib.hid (A2.out.more hb3)
  have L3 := Lib.hid (L2.out.more hb3)
  have M3 := Lib.hid M3
  clear hb3 hus
  obtain ⟨rb, hrb⟩ : ∃ rb, rightL ys = rb := ⟨_, rfl⟩
  obtain ⟨u, hu⟩ : ∃ u, usedL ys a = u := ⟨_, rfl⟩
  obtain ⟨ss, hss⟩ : ∃ ss, seenL ys a = ss := ⟨_, rfl⟩
  obtain ⟨ks, hks⟩ : ∃ ks, ss.length = ks := ⟨_, rfl⟩
  obtain ⟨t, ht⟩ : ∃ t, totalL ys = t := ⟨_, rfl⟩
  obtain ⟨sm, hsm⟩ : ∃ sm, sameL ys us = sm := ⟨_, rfl⟩
  have hks2 : ks ≤ 42 := by
    have h1 : (seenL ys a).length ≤ ys.length := List.length_filter_le _ _
    rw [hss, hks] at h1
    omega
  have HF := Lib.hid (And.intro hrb (And.intro hu (And.intro hss (And.intro hks (And.intro ht hsm)))))
  clear hrb hu hss hks ht hsm
  go_wp2_with fail
  refine wp_region_held_drew (S := (fun w' => La3 w' w.heap.size a ∧ Below w3.heap.size w3 w')) (by kernel_rfl) (⟨A3.out, (Below.refl _ w3).drew⟩) (fun hS0 => ?_)
  refine wpAnyH_take (i := 0) (oi := { dst := some 13, op := Go.Op.move (Go.Operand.tmp 7), type := 4, pos := "law.go:28", after := #[], guard := none }) (v := ?_) rfl (by kernel_rfl) (by kernel_rfl) (by kernel_rfl) (fun _ _ _ h => h) (Or.inl ⟨by rfl, ?_⟩) hS0 ?_; rotate_left; (· (intro wq hSw; obtain ⟨y00, y01, y02⟩ := hSw.1; go_simp; try with_reducible rfl))
  try simp only [Act.put, List.setIfInBounds_toArray, List.set_cons_zero, List.set_cons_succ]
  refine wpAnyH_take (i := 1) (oi := { dst := some 14, op := Go.Op.move (Go.Operand.tmp 13), type := 4, pos := "law.go:28", after := #[{ on := 0, ground := Go.Ground.data }], guard := none }) (v := ?_) rfl (by kernel_rfl) (by kernel_rfl) (by kernel_rfl) (fun _ _ _ h => h) (Or.inl ⟨by rfl, ?_⟩) hS0 ?_; rotate_left; (· (intro wq hSw; obtain ⟨y00, y01, y02⟩ := hSw.1; go_simp; try with_reducible rfl))
  try simp only [Act.put, List.setIfInBounds_toArray, List.set_cons_zero, List.set_cons_succ]
  refine wpAnyH_take (i := 2) (oi := { dst := some 15, op := Go.Op.move (Go.Operand.tmp 0), type := 22, pos := "law.go:28", after := #[{ on := 1, ground := Go.Ground.guard }], guard := some (1, true) }) (v := ?_) rfl (by kernel_rfl) (by kernel_rfl) (by kernel_rfl) (fun _ _ _ h => h) (Or.inl ⟨by rfl, ?_⟩) hS0 ?_; rotate_left; (· (intro wq hSw; obtain ⟨y00, y01, y02⟩ := hSw.1; go_simp; try with_reducible rfl))
  try simp only [Act.put, List.setIfInBounds_toArray, List.set_cons_zero, List.set_cons_succ]
  refine wpAnyH_take (i := 4) (oi := { dst := some 17, op := Go.Op.move (Go.Operand.tmp 0), type := 22, pos := "law.go:28", after := #[{ on := 1, ground := Go.Ground.guard }], guard := some (1, true) }) (v := ?_) rfl (by kernel_rfl) (by kernel_rfl) (by kernel_rfl) (fun _ _ _ h => h) (Or.inl ⟨by rfl, ?_⟩) hS0 ?_; rotate_left; (· (intro wq hSw; obtain ⟨y00, y01, y02⟩ := hSw.1; go_simp; try with_reducible rfl))
  try simp only [Act.put, List.setIfInBounds_toArray, List.set_cons_zero, List.set_cons_succ]
  refine wpAnyH_ready (rs := [3]) (by kernel_rfl) (by simp) ?_
  refine AllReadyH.cons (o := { dst := some 16, op := Go.Op.call { callee := Go.Callee.value (Go.Operand.func 13), args := #[Go.Operand.tmp 15], argTypes := #[22] }, type := 4, pos := "law.go:28", after := #[{ on := 2, ground := Go.Ground.data }, { on := 1, ground := Go.Ground.chain }, { on := 1, ground := Go.Ground.guard }], guard := some (1, true) }) rfl (fun K hK => ?_) AllReadyH.nil
  go_simp
  refine (Right_p HF.out.1 (L3.out.more hS0.2)).mono ?_
  rintro e wr1 ⟨he, hb⟩
  subst he
  have S1 := (And.intro (hS0.1.more hb) (below_more hS0.2 hb))
  refine hK.out _ _ S1 (fun hS1 => ?_)
  clear hK K hS0 hb S1
  try simp only [Act.put, List.setIfInBounds_toArray, List.set_cons_zero, List.set_cons_succ]
  refine wpAnyH_ready (rs := [5]) (by kernel_rfl) (by simp) ?_
  refine AllReadyH.cons (o := { dst := some 18, op := Go.Op.call { callee := Go.Callee.value (Go.Operand.func 14), args := #[Go.Operand.tmp 17], argTypes := #[22] }, type := 4, pos := "law.go:28", after := #[{ on := 4, ground := Go.Ground.data }, { on := 3, ground := Go.Ground.chain }, { on := 1, ground := Go.Ground.guard }], guard := some (1, true) }) rfl (fun K hK => ?_) AllReadyH.nil
  go_simp
  refine (refRightL_p (by omega) HF.out.1 (L3.out.more hS1.2)).mono ?_
  rintro e wr2 ⟨he, hb⟩
  subst he
  have S2 := (And.intro (hS1.1.more hb) (below_more hS1.2 hb))
  refine hK.out _ _ S2 (fun hS2 => ?_)
  clear hK K hS1 hb S2
  try simp only [Act.put, List.setIfInBounds_toArray, List.set_cons_zero, List.set_cons_succ]
  refine wpAnyH_take (i := 6) (oi := { dst := some 19, op := Go.Op.binOp Go.BinOp.eql 4 (Go.Operand.tmp 16) (Go.Operand.tmp 18) 4, type := 4, pos := "law.go:28", after := #[{ on := 3, ground := Go.Ground.data }, { on := 5, ground := Go.Ground.data }, { on := 1, ground := Go.Ground.guard }], guard := some (1, true) }) (v := ?_) rfl (by kernel_rfl) (by kernel_rfl) (by kernel_rfl) (fun _ _ _ h => h) (Or.inl ⟨by rfl, ?_⟩) hS2 ?_; rotate_left; (· (intro wq hSw; obtain ⟨y00, y01, y02⟩ := hSw.1; go_simp; try with_reducible rfl))
  try simp only [Act.put, List.setIfInBounds_toArray, List.set_cons_zero, List.set_cons_succ]
  refine wpAnyH_take (i := 7) (oi := { dst := some 20, op := Go.Op.pick (Go.Operand.tmp 14) (Go.Operand.tmp 19) (Go.Operand.const (Go.Value.bool false)), type := 4, pos := "law.go:28", after := #[{ on := 1, ground := Go.Ground.data }, { on := 6, ground := Go.Ground.data }], guard := none }) (v := ?_) rfl (by kernel_rfl) (by kernel_rfl) (by kernel_rfl) (fun _ _ _ h => h) (Or.inl ⟨by rfl, ?_⟩) hS2 ?_; rotate_left; (· (intro wq hSw; obtain ⟨y00, y01, y02⟩ := hSw.1; go_simp; try with_reducible rfl))
  try simp only [Act.put, List.setIfInBounds_toArray, List.set_cons_zero, List.set_cons_succ]
  refine wpAnyH_take (i := 8) (oi := { dst := some 21, op := Go.Op.move (Go.Operand.tmp 20), type := 4, pos := "law.go:28", after := #[{ on := 7, ground := Go.Ground.data }, { on := 5, ground := Go.Ground.chain }], guard := none }) (v := ?_) rfl (by kernel_rfl) (by kernel_rfl) (by kernel_rfl) (fun _ _ _ h => h) (Or.inl ⟨by rfl, ?_⟩) hS2 ?_; rotate_left; (· (intro wq hSw; obtain ⟨y00, y01, y02⟩ := hSw.1; go_simp; try with_reducible rfl))
  try simp only [Act.put, List.setIfInBounds_toArray, List.set_cons_zero, List.set_cons_succ]
  refine wpAnyH_take (i := 9) (oi := { dst := some 22, op := Go.Op.move (Go.Operand.tmp 0), type := 22, pos := "law.go:28", after := #[{ on := 8, ground := Go.Ground.guard }], guard := some (8, true) }) (v := ?_) rfl (by kernel_rfl) (by kernel_rfl) (by kernel_rfl) (fun _ _ _ h => h) (Or.inl ⟨by rfl, ?_⟩) hS2 ?_; rotate_left; (· (intro wq hSw; obtain ⟨y00, y01, y02⟩ := hSw.1; go_simp; try with_reducible rfl))
  try simp only [Act.put, List.setIfInBounds_toArray, List.set_cons_zero, List.set_cons_succ]
  refine wpAnyH_take (i := 10) (oi := { dst := some 23, op := Go.Op.load 25 (Go.Operand.tmp 4), type := 25, pos := "law.go:28", after := #[{ on := 8, ground := Go.Ground.guard }], guard := some (8, true) }) (v := ?_) rfl (by kernel_rfl) (by kernel_rfl) (by kernel_rfl) (fun _ _ _ h => h) (Or.inl ⟨by rfl, ?_⟩) hS2 ?_; rotate_left; (· (intro wq hSw; obtain ⟨y00, y01, y02⟩ := hSw.1; go_simp; try with_reducible rfl))
  try simp only [Act.put, List.setIfInBounds_toArray, List.set_cons_zero, List.set_cons_succ]
  refine wpAnyH_take (i := 12) (oi := { dst := some 25, op := Go.Op.move (Go.Operand.tmp 0), type := 22, pos := "law.go:28", after := #[{ on := 8, ground := Go.Ground.guard }], guard := some (8, true) }) (v := ?_) rfl (by kernel_rfl) (by kernel_rfl) (by kernel_rfl) (fun _ _ _ h => h) (Or.inl ⟨by rfl, ?_⟩) hS2 ?_; rotate_left; (· (intro wq hSw; obtain ⟨y00, y01, y02⟩ := hSw.1; go_simp; try with_reducible rfl))
  try simp only [Act.put, List.setIfInBounds_toArray, List.set_cons_zero, List.set_cons_succ]
  refine wpAnyH_take (i := 13) (oi := { dst := some 26, op := Go.Op.load 25 (Go.Operand.tmp 4), type := 25, pos := "law.go:28", after := #[{ on := 8, ground := Go.Ground.guard }], guard := some (8, true) }) (v := ?_) rfl (by kernel_rfl) (by kernel_rfl) (by kernel_rfl) (fun _ _ _ h => h) (Or.inl ⟨by rfl, ?_⟩) hS2 ?_; rotate_left; (· (intro wq hSw; obtain ⟨y00, y01, y02⟩ := hSw.1; go_simp; try with_reducible rfl))
  try simp only [Act.put, List.setIfInBounds_toArray, List.set_cons_zero, List.set_cons_succ]
  refine wpAnyH_ready (rs := [11]) (by kernel_rfl) (by simp) ?_
  refine AllReadyH.cons (o := { dst := some 24, op := Go.Op.call { callee := Go.Callee.value (Go.Operand.func 15), args := #[Go.Operand.tmp 22, Go.Operand.tmp 23], argTypes := #[22, 25] }, type := 3, pos := "law.go:28", after := #[{ on := 9, ground := Go.Ground.data }, { on := 10, ground := Go.Ground.data }, { on := 8, ground := Go.Ground.chain }, { on := 8, ground := Go.Ground.guard }], guard := some (8, true) }) rfl (fun K hK => ?_) AllReadyH.nil
  go_simp
  refine (Used_p (by omega) HF.out.2.1 (L3.out.more hS2.2)).mono ?_
  rintro e wr3 ⟨he, hb⟩
  subst he
  have S3 := (And.intro (hS2.1.more hb) (below_more hS2.2 hb))
  refine hK.out _ _ S3 (fun hS3 => ?_)
  clear hK K hS2 hb S3
  try simp only [Act.put, List.setIfInBounds_toArray, List.set_cons_zero, List.set_cons_succ]
  refine wpAnyH_ready (rs := [14]) (by kernel_rfl) (by simp) ?_
  refine AllReadyH.cons (o := { dst := some 27, op := Go.Op.call { callee := Go.Callee.value (Go.Operand.func 16), args := #[Go.Operand.tmp 25, Go.Operand.tmp 26], argTypes := #[22, 25] }, type := 3, pos := "law.go:28", after := #[{ on := 12, ground := Go.Ground.data }, { on := 13, ground := Go.Ground.data }, { on := 11, ground := Go.Ground.chain }, { on := 8, ground := Go.Ground.guard }], guard := some (8, true) }) rfl (fun K hK => ?_) AllReadyH.nil
  go_simp
  refine (refUsed_p (by omega) HF.out.2.1 (L3.out.more hS3.2)).mono ?_
  rintro e wr4 ⟨he, hb⟩
  subst he
  have S4 := (And.intro (hS3.1.more hb) (below_more hS3.2 hb))
  refine hK.out _ _ S4 (fun hS4 => ?_)
  clear hK K hS3 hb S4
  try simp only [Act.put, List.setIfInBounds_toArray, List.set_cons_zero, List.set_cons_succ]
  refine wpAnyH_take (i := 15) (oi := { dst := some 28, op := Go.Op.binOp Go.BinOp.eql 3 (Go.Operand.tmp 24) (Go.Operand.tmp 27) 3, type := 4, pos := "law.go:28", after := #[{ on := 11, ground := Go.Ground.data }, { on := 14, ground := Go.Ground.data }, { on := 8, ground := Go.Ground.guard }], guard := some (8, true) }) (v := ?_) rfl (by kernel_rfl) (by kernel_rfl) (by kernel_rfl) (fun _ _ _ h => h) (Or.inl ⟨by rfl, ?_⟩) hS4 ?_; rotate_left; (· (intro wq hSw; obtain ⟨y00, y01, y02⟩ := hSw.1; go_simp; try with_reducible rfl))
  try simp only [Act.put, List.setIfInBounds_toArray, List.set_cons_zero, List.set_cons_succ]
  refine wpAnyH_take (i := 16) (oi := { dst := some 29, op := Go.Op.pick (Go.Operand.tmp 21) (Go.Operand.tmp 28) (Go.Operand.const (Go.Value.bool false)), type := 4, pos := "law.go:28", after := #[{ on := 8, ground := Go.Ground.data }, { on := 15, ground := Go.Ground.data }], guard := none }) (v := ?_) rfl (by kernel_rfl) (by kernel_rfl) (by kernel_rfl) (fun _ _ _ h => h) (Or.inl ⟨by rfl, ?_⟩) hS4 ?_; rotate_left; (· (intro wq hSw; obtain ⟨y00, y01, y02⟩ := hSw.1; go_simp; try with_reducible rfl))
  try simp only [Act.put, List.setIfInBounds_toArray, List.set_cons_zero, List.set_cons_succ]
  refine wpAnyH_take (i := 17) (oi := { dst := some 30, op := Go.Op.move (Go.Operand.tmp 29), type := 4, pos := "law.go:28", after := #[{ on := 16, ground := Go.Ground.data }, { on := 14, ground := Go.Ground.chain }], guard := none }) (v := ?_) rfl (by kernel_rfl) (by kernel_rfl) (by kernel_rfl) (fun _ _ _ h => h) (Or.inl ⟨by rfl, ?_⟩) hS4 ?_; rotate_left; (· (intro wq hSw; obtain ⟨y00, y01, y02⟩ := hSw.1; go_simp; try with_reducible rfl))
  try simp only [Act.put, List.setIfInBounds_toArray, List.set_cons_zero, List.set_cons_succ]
  refine wpAnyH_take (i := 18) (oi := { dst := some 31, op := Go.Op.move (Go.Operand.tmp 0), type := 22, pos := "law.go:28", after := #[{ on := 17, ground := Go.Ground.guard }], guard := some (17, true) }) (v := ?_) rfl (by kernel_rfl) (by kernel_rfl) (by kernel_rfl) (fun _ _ _ h => h) (Or.inl ⟨by rfl, ?_⟩) hS4 ?_; rotate_left; (· (intro wq hSw; obtain ⟨y00, y01, y02⟩ := hSw.1; go_simp; try with_reducible rfl))
  try simp only [Act.put, List.setIfInBounds_toArray, List.set_cons_zero, List.set_cons_succ]
  refine wpAnyH_take (i := 19) (oi := { dst := some 32, op := Go.Op.load 25 (Go.Operand.tmp 4), type := 25, pos := "law.go:28", after := #[{ on := 17, ground := Go.Ground.guard }], guard := some (17, true) }) (v := ?_) rfl (by kernel_rfl) (by kernel_rfl) (by kernel_rfl) (fun _ _ _ h => h) (Or.inl ⟨by rfl, ?_⟩) hS4 ?_; rotate_left; (· (intro wq hSw; obtain ⟨y00, y01, y02⟩ := hSw.1; go_simp; try with_reducible rfl))
  try simp only [Act.put, List.setIfInBounds_toArray, List.set_cons_zero, List.set_cons_succ]
  refine wpAnyH_take (i := 21) (oi := { dst := some 34, op := Go.Op.move (Go.Operand.tmp 0), type := 22, pos := "law.go:28", after := #[{ on := 17, ground := Go.Ground.guard }], guard := some (17, true) }) (v := ?_) rfl (by kernel_rfl) (by kernel_rfl) (by kernel_rfl) (fun _ _ _ h => h) (Or.inl ⟨by rfl, ?_⟩) hS4 ?_; rotate_left; (· (intro wq hSw; obtain ⟨y00, y01, y02⟩ := hSw.1; go_simp; try with_reducible rfl))
  try simp only [Act.put, List.setIfInBounds_toArray, List.set_cons_zero, List.set_cons_succ]
  refine wpAnyH_take (i := 22) (oi := { dst := some 35, op := Go.Op.load 25 (Go.Operand.tmp 4), type := 25, pos := "law.go:28", after := #[{ on := 17, ground := Go.Ground.guard }], guard := some (17, true) }) (v := ?_) rfl (by kernel_rfl) (by kernel_rfl) (by kernel_rfl) (fun _ _ _ h => h) (Or.inl ⟨by rfl, ?_⟩) hS4 ?_; rotate_left; (· (intro wq hSw; obtain ⟨y00, y01, y02⟩ := hSw.1; go_simp; try with_reducible rfl))
  try simp only [Act.put, List.setIfInBounds_toArray, List.set_cons_zero, List.set_cons_succ]
  refine wpAnyH_ready (rs := [20]) (by kernel_rfl) (by simp) ?_
  refine AllReadyH.cons (o := { dst := some 33, op := Go.Op.call { callee := Go.Callee.value (Go.Operand.func 18), args := #[Go.Operand.tmp 31, Go.Operand.tmp 32], argTypes := #[22, 25] }, type := 22, pos := "law.go:28", after := #[{ on := 18, ground := Go.Ground.data }, { on := 19, ground := Go.Ground.data }, { on := 17, ground := Go.Ground.chain }, { on := 17, ground := Go.Ground.guard }], guard := some (17, true) }) rfl (fun K hK => ?_) AllReadyH.nil
  go_simp
  refine (Seen_p ha (by omega) HF.out.2.2.1 HF.out.2.2.2.1 (L3.out.more hS4.2)).mono ?_
  rintro e wr5 ⟨va2, vc2, he, ⟨hl, _⟩, hb⟩
  subst he
  have N1 := Lib.hid hl
  have S5 := (And.intro (hS4.1.more hb) (below_more hS4.2 hb))
  refine hK.out _ _ S5 (fun hS5 => ?_)
  clear hK K hS4 hb S5
  try simp only [Act.put, List.setIfInBounds_toArray, List.set_cons_zero, List.set_cons_succ]
  refine wpAnyH_ready (rs := [23]) (by kernel_rfl) (by simp) ?_
  refine AllReadyH.cons (o := { dst := some 36, op := Go.Op.call { callee := Go.Callee.value (Go.Operand.func 19), args := #[Go.Operand.tmp 34, Go.Operand.tmp 35], argTypes := #[22, 25] }, type := 22, pos := "law.go:28", after := #[{ on := 21, ground := Go.Ground.data }, { on := 22, ground := Go.Ground.data }, { on := 20, ground := Go.Ground.chain }, { on := 17, ground := Go.Ground.guard }], guard := some (17, true) }) rfl (fun K hK => ?_) AllReadyH.nil
  go_simp
  refine (refSeen_p ha (by omega) HF.out.2.2.1 HF.out.2.2.2.1 (L3.out.more hS5.2) (D3.out.err.more hS5.2)).mono ?_
  rintro e wr6 ⟨va3, vc3, he, ⟨hl, _⟩, hb⟩
  subst he
  replace N1 := Lib.hid (N1.out.more hb)
  have N2 := Lib.hid hl
  have S6 := (And.intro (hS5.1.more hb) (below_more hS5.2 hb))
  refine hK.out _ _ S6 (fun hS6 => ?_)
  clear hK K hS5 hb S6
  try simp only [Act.put, List.setIfInBounds_toArray, List.set_cons_zero, List.set_cons_succ]
  refine wpAnyH_ready (rs := [24]) (by kernel_rfl) (by simp) ?_
  refine AllReadyH.cons (o := { dst := some 37, op := Go.Op.call { callee := Go.Callee.value (Go.Operand.func 17), args := #[Go.Operand.tmp 33, Go.Operand.tmp 36], argTypes := #[22, 22] }, type := 4, pos := "law.go:28", after := #[{ on := 20, ground := Go.Ground.data }, { on := 23, ground := Go.Ground.data }, { on := 23, ground := Go.Ground.chain }, { on := 17, ground := Go.Ground.guard }], guard := some (17, true) }) rfl (fun K hK => ?_) AllReadyH.nil
  go_simp
  refine (refSame_p (by omega) (by omega) (sameL_refl ss) N1.out N2.out).mono ?_
  rintro e wr7 ⟨he, hb⟩
  subst he
  replace N1 := Lib.hid (N1.out.more hb)
  replace N2 := Lib.hid (N2.out.more hb)
  have S7 := (And.intro (hS6.1.more hb) (below_more hS6.2 hb))
  refine hK.out _ _ S7 (fun hS7 => ?_)
  clear hK K hS6 hb S7
  try simp only [Act.put, List.setIfInBounds_toArray, List.set_cons_zero, List.set_cons_succ]
  refine wpAnyH_take (i := 25) (oi := { dst := some 38, op := Go.Op.pick (Go.Operand.tmp 30) (Go.Operand.tmp 37) (Go.Operand.const (Go.Value.bool false)), type := 4, pos := "law.go:28", after := #[{ on := 17, ground := Go.Ground.data }, { on := 24, ground := Go.Ground.data }], guard := none }) (v := ?_) rfl (by kernel_rfl) (by kernel_rfl) (by kernel_rfl) (fun _ _ _ h => h) (Or.inl ⟨by rfl, ?_⟩) hS7 ?_; rotate_left; (· (intro wq hSw; obtain ⟨y00, y01, y02⟩ := hSw.1; go_simp; try with_reducible rfl))
  try simp only [Act.put, List.setIfInBounds_toArray, List.set_cons_zero, List.set_cons_succ]
  refine wpAnyH_take (i := 26) (oi := { dst := some 39, op := Go.Op.move (Go.Operand.tmp 38), type := 4, pos := "law.go:28", after := #[{ on := 25, ground := Go.Ground.data }, { on := 24, ground := Go.Ground.chain }], guard := none }) (v := ?_) rfl (by kernel_rfl) (by kernel_rfl) (by kernel_rfl) (fun _ _ _ h => h) (Or.inl ⟨by rfl, ?_⟩) hS7 ?_; rotate_left; (· (intro wq hSw; obtain ⟨y00, y01, y02⟩ := hSw.1; go_simp; try with_reducible rfl))
  try simp only [Act.put, List.setIfInBounds_toArray, List.set_cons_zero, List.set_cons_succ]
  refine wpAnyH_take (i := 27) (oi := { dst := some 40, op := Go.Op.move (Go.Operand.tmp 0), type := 22, pos := "law.go:28", after := #[{ on := 26, ground := Go.Ground.guard }], guard := some (26, true) }) (v := ?_) rfl (by kernel_rfl) (by kernel_rfl) (by kernel_rfl) (fun _ _ _ h => h) (Or.inl ⟨by rfl, ?_⟩) hS7 ?_; rotate_left; (· (intro wq hSw; obtain ⟨y00, y01, y02⟩ := hSw.1; go_simp; try with_reducible rfl))
  try simp only [Act.put, List.setIfInBounds_toArray, List.set_cons_zero, List.set_cons_succ]
  refine wpAnyH_take (i := 29) (oi := { dst := some 42, op := Go.Op.move (Go.Operand.tmp 0), type := 22, pos := "law.go:28", after := #[{ on := 26, ground := Go.Ground.guard }], guard := some (26, true) }) (v := ?_) rfl (by kernel_rfl) (by kernel_rfl) (by kernel_rfl) (fun _ _ _ h => h) (Or.inl ⟨by rfl, ?_⟩) hS7 ?_; rotate_left; (· (intro wq hSw; obtain ⟨y00, y01, y02⟩ := hSw.1; go_simp; try with_reducible rfl))
  try simp only [Act.put, List.setIfInBounds_toArray, List.set_cons_zero, List.set_cons_succ]
  refine wpAnyH_ready (rs := [28]) (by kernel_rfl) (by simp) ?_
  refine AllReadyH.cons (o := { dst := some 41, op := Go.Op.call { callee := Go.Callee.value (Go.Operand.func 20), args := #[Go.Operand.tmp 40], argTypes := #[22] }, type := 3, pos := "law.go:28", after := #[{ on := 27, ground := Go.Ground.data }, { on := 26, ground := Go.Ground.chain }, { on := 26, ground := Go.Ground.guard }], guard := some (26, true) }) rfl (fun K hK => ?_) AllReadyH.nil
  go_simp
  refine (Total_p (by omega) HF.out.2.2.2.2.1 (L3.out.more hS7.2)).mono ?_
  rintro e wr8 ⟨he, hb⟩
  subst he
  replace N1 := Lib.hid (N1.out.more hb)
  replace N2 := Lib.hid (N2.out.more hb)
  have S8 := (And.intro (hS7.1.more hb) (below_more hS7.2 hb))
  refine hK.out _ _ S8 (fun hS8 => ?_)
  clear hK K hS7 hb S8
  try simp only [Act.put, List.setIfInBounds_toArray, List.set_cons_zero, List.set_cons_succ]
  refine wpAnyH_ready (rs := [30]) (by kernel_rfl) (by simp) ?_
  refine AllReadyH.cons (o := { dst := some 43, op := Go.Op.call { callee := Go.Callee.value (Go.Operand.func 21), args := #[Go.Operand.tmp 42], argTypes := #[22] }, type := 3, pos := "law.go:28", after := #[{ on := 29, ground := Go.Ground.data }, { on := 28, ground := Go.Ground.chain }, { on := 26, ground := Go.Ground.guard }], guard := some (26, true) }) rfl (fun K hK => ?_) AllReadyH.nil
  go_simp
  refine (refTotal_p (by omega) HF.out.2.2.2.2.1 (L3.out.more hS8.2)).mono ?_
  rintro e wr9 ⟨he, hb⟩
  subst he
  replace N1 := Lib.hid (N1.out.more hb)
  replace N2 := Lib.hid (N2.out.more hb)
  have S9 := (And.intro (hS8.1.more hb) (below_more hS8.2 hb))
  refine hK.out _ _ S9 (fun hS9 => ?_)
  clear hK K hS8 hb S9
  try simp only [Act.put, List.setIfInBounds_toArray, List.set_cons_zero, List.set_cons_succ]
  refine wpAnyH_take (i := 31) (oi := { dst := some 44, op := Go.Op.binOp Go.BinOp.eql 3 (Go.Operand.tmp 41) (Go.Operand.tmp 43) 3, type := 4, pos := "law.go:28", after := #[{ on := 28, ground := Go.Ground.data }, { on := 30, ground := Go.Ground.data }, { on := 26, ground := Go.Ground.guard }], guard := some (26, true) }) (v := ?_) rfl (by kernel_rfl) (by kernel_rfl) (by kernel_rfl) (fun _ _ _ h => h) (Or.inl ⟨by rfl, ?_⟩) hS9 ?_; rotate_left; (· (intro wq hSw; obtain ⟨y00, y01, y02⟩ := hSw.1; go_simp; try with_reducible rfl))
  try simp only [Act.put, List.setIfInBounds_toArray, List.set_cons_zero, List.set_cons_succ]
  refine wpAnyH_take (i := 32) (oi := { dst := some 45, op := Go.Op.pick (Go.Operand.tmp 39) (Go.Operand.tmp 44) (Go.Operand.const (Go.Value.bool false)), type := 4, pos := "law.go:28", after := #[{ on := 26, ground := Go.Ground.data }, { on := 31, ground := Go.Ground.data }], guard := none }) (v := ?_) rfl (by kernel_rfl) (by kernel_rfl) (by kernel_rfl) (fun _ _ _ h => h) (Or.inl ⟨by rfl, ?_⟩) hS9 ?_; rotate_left; (· (intro wq hSw; obtain ⟨y00, y01, y02⟩ := hSw.1; go_simp; try with_reducible rfl))
  try simp only [Act.put, List.setIfInBounds_toArray, List.set_cons_zero, List.set_cons_succ]
  refine wpAnyH_take (i := 33) (oi := { dst := some 46, op := Go.Op.move (Go.Operand.tmp 45), type := 4, pos := "law.go:28", after := #[{ on := 32, ground := Go.Ground.data }, { on := 30, ground := Go.Ground.chain }], guard := none }) (v := ?_) rfl (by kernel_rfl) (by kernel_rfl) (by kernel_rfl) (fun _ _ _ h => h) (Or.inl ⟨by rfl, ?_⟩) hS9 ?_; rotate_left; (· (intro wq hSw; obtain ⟨y00, y01, y02⟩ := hSw.1; go_simp; try with_reducible rfl))
  try simp only [Act.put, List.setIfInBounds_toArray, List.set_cons_zero, List.set_cons_succ]
  refine wpAnyH_take (i := 34) (oi := { dst := some 47, op := Go.Op.move (Go.Operand.tmp 0), type := 22, pos := "law.go:28", after := #[{ on := 33, ground := Go.Ground.guard }], guard := some (33, true) }) (v := ?_) rfl (by kernel_rfl) (by kernel_rfl) (by kernel_rfl) (fun _ _ _ h => h) (Or.inl ⟨by rfl, ?_⟩) hS9 ?_; rotate_left; (· (intro wq hSw; obtain ⟨y00, y01, y02⟩ := hSw.1; go_simp; try with_reducible rfl))
  try simp only [Act.put, List.setIfInBounds_toArray, List.set_cons_zero, List.set_cons_succ]
  refine wpAnyH_take (i := 35) (oi := { dst := some 48, op := Go.Op.move (Go.Operand.tmp 2), type := 22, pos := "law.go:28", after := #[{ on := 33, ground := Go.Ground.guard }], guard := some (33, true) }) (v := ?_) rfl (by kernel_rfl) (by kernel_rfl) (by kernel_rfl) (fun _ _ _ h => h) (Or.inl ⟨by rfl, ?_⟩) hS9 ?_; rotate_left; (· (intro wq hSw; obtain ⟨y00, y01, y02⟩ := hSw.1; go_simp; try with_reducible rfl))
  try simp only [Act.put, List.setIfInBounds_toArray, List.set_cons_zero, List.set_cons_succ]
  refine wpAnyH_take (i := 37) (oi := { dst := some 50, op := Go.Op.move (Go.Operand.tmp 0), type := 22, pos := "law.go:28", after := #[{ on := 33, ground := Go.Ground.guard }], guard := some (33, true) }) (v := ?_) rfl (by kernel_rfl) (by kernel_rfl) (by kernel_rfl) (fun _ _ _ h => h) (Or.inl ⟨by rfl, ?_⟩) hS9 ?_; rotate_left; (· (intro wq hSw; obtain ⟨y00, y01, y02⟩ := hSw.1; go_simp; try with_reducible rfl))
  try simp only [Act.put, List.setIfInBounds_toArray, List.set_cons_zero, List.set_cons_succ]
  refine wpAnyH_take (i := 38) (oi := { dst := some 51, op := Go.Op.move (Go.Operand.tmp 2), type := 22, pos := "law.go:28", after := #[{ on := 33, ground := Go.Ground.guard }], guard := some (33, true) }) (v := ?_) rfl (by kernel_rfl) (by kernel_rfl) (by kernel_rfl) (fun _ _ _ h => h) (Or.inl ⟨by rfl, ?_⟩) hS9 ?_; rotate_left; (· (intro wq hSw; obtain ⟨y00, y01, y02⟩ := hSw.1; go_simp; try with_reducible rfl))
  try simp only [Act.put, List.setIfInBounds_toArray, List.set_cons_zero, List.set_cons_succ]
  refine wpAnyH_ready (rs := [36]) (by kernel_rfl) (by simp) ?_
  refine AllReadyH.cons (o := { dst := some 49, op := Go.Op.call { callee := Go.Callee.value (Go.Operand.func 22), args := #[Go.Operand.tmp 47, Go.Operand.tmp 48], argTypes := #[22, 22] }, type := 4, pos := "law.go:28", after := #[{ on := 34, ground := Go.Ground.data }, { on := 35, ground := Go.Ground.data }, { on := 33, ground := Go.Ground.chain }, { on := 33, ground := Go.Ground.guard }], guard := some (33, true) }) rfl (fun K hK => ?_) AllReadyH.nil
  go_simp
  refine (Same_p (by omega) (by omega) HF.out.2.2.2.2.2 (L3.out.more hS9.2) (M3.out.more hS9.2)).mono ?_
  rintro e wr10 ⟨he, hb⟩
  subst he
  replace N1 := Lib.hid (N1.out.more hb)
  replace N2 := Lib.hid (N2.out.more hb)
  have S10 := (And.intro (hS9.1.more hb) (below_more hS9.2 hb))
  refine hK.out _ _ S10 (fun hS10 => ?_)
  clear hK K hS9 hb S10
  try simp only [Act.put, List.setIfInBounds_toArray, List.set_cons_zero, List.set_cons_succ]
  refine wpAnyH_ready (rs := [39]) (by kernel_rfl) (by simp) ?_
  refine AllReadyH.cons (o := { dst := some 52, op := Go.Op.call { callee := Go.Callee.value (Go.Operand.func 17), args := #[Go.Operand.tmp 50, Go.Operand.tmp 51], argTypes := #[22, 22] }, type := 4, pos := "law.go:28", after := #[{ on := 37, ground := Go.Ground.data }, { on := 38, ground := Go.Ground.data }, { on := 36, ground := Go.Ground.chain }, { on := 33, ground := Go.Ground.guard }], guard := some (33, true) }) rfl (fun K hK => ?_) AllReadyH.nil
  go_simp
  refine (refSame_p (by omega) (by omega) HF.out.2.2.2.2.2 (L3.out.more hS10.2) (M3.out.more hS10.2)).mono ?_
  rintro e wr11 ⟨he, hb⟩
  subst he
  replace N1 := Lib.hid (N1.out.more hb)
  replace N2 := Lib.hid (N2.out.more hb)
  have S11 := (And.intro (hS10.1.more hb) (below_more hS10.2 hb))
  refine hK.out _ _ S11 (fun hS11 => ?_)
  clear hK K hS10 hb S11
  try simp only [Act.put, List.setIfInBounds_toArray, List.set_cons_zero, List.set_cons_succ]
  refine wpAnyH_take (i := 40) (oi := { dst := some 53, op := Go.Op.binOp Go.BinOp.eql 4 (Go.Operand.tmp 49) (Go.Operand.tmp 52) 4, type := 4, pos := "law.go:28", after := #[{ on := 36, ground := Go.Ground.data }, { on := 39, ground := Go.Ground.data }, { on := 33, ground := Go.Ground.guard }], guard := some (33, true) }) (v := ?_) rfl (by kernel_rfl) (by kernel_rfl) (by kernel_rfl) (fun _ _ _ h => h) (Or.inl ⟨by rfl, ?_⟩) hS11 ?_; rotate_left; (· (intro wq hSw; obtain ⟨y00, y01, y02⟩ := hSw.1; go_simp; try with_reducible rfl))
  try simp only [Act.put, List.setIfInBounds_toArray, List.set_cons_zero, List.set_cons_succ]
  refine wpAnyH_take (i := 41) (oi := { dst := some 54, op := Go.Op.pick (Go.Operand.tmp 46) (Go.Operand.tmp 53) (Go.Operand.const (Go.Value.bool false)), type := 4, pos := "law.go:28", after := #[{ on := 33, ground := Go.Ground.data }, { on := 40, ground := Go.Ground.data }], guard := none }) (v := ?_) rfl (by kernel_rfl) (by kernel_rfl) (by kernel_rfl) (fun _ _ _ h => h) (Or.inl ⟨by rfl, ?_⟩) hS11 ?_; rotate_left; (· (intro wq hSw; obtain ⟨y00, y01, y02⟩ := hSw.1; go_simp; try with_reducible rfl))
  try simp only [Act.put, List.setIfInBounds_toArray, List.set_cons_zero, List.set_cons_succ]
  refine wpAnyH_take (i := 42) (oi := { dst := some 55, op := Go.Op.move (Go.Operand.tmp 54), type := 4, pos := "law.go:28", after := #[{ on := 41, ground := Go.Ground.data }, { on := 39, ground := Go.Ground.chain }], guard := none }) (v := ?_) rfl (by kernel_rfl) (by kernel_rfl) (by kernel_rfl) (fun _ _ _ h => h) (Or.inl ⟨by rfl, ?_⟩) hS11 ?_; rotate_left; (· (intro wq hSw; obtain ⟨y00, y01, y02⟩ := hSw.1; go_simp; try with_reducible rfl))
  try simp only [Act.put, List.setIfInBounds_toArray, List.set_cons_zero, List.set_cons_succ]
  refine wpAnyH_take (i := 43) (oi := { dst := some 56, op := Go.Op.move (Go.Operand.tmp 0), type := 22, pos := "law.go:28", after := #[{ on := 42, ground := Go.Ground.guard }], guard := some (42, true) }) (v := ?_) rfl (by kernel_rfl) (by kernel_rfl) (by kernel_rfl) (fun _ _ _ h => h) (Or.inl ⟨by rfl, ?_⟩) hS11 ?_; rotate_left; (· (intro wq hSw; obtain ⟨y00, y01, y02⟩ := hSw.1; go_simp; try with_reducible rfl))
  try simp only [Act.put, List.setIfInBounds_toArray, List.set_cons_zero, List.set_cons_succ]
  refine wpAnyH_take (i := 44) (oi := { dst := some 57, op := Go.Op.move (Go.Operand.tmp 0), type := 22, pos := "law.go:28", after := #[{ on := 42, ground := Go.Ground.guard }], guard := some (42, true) }) (v := ?_) rfl (by kernel_rfl) (by kernel_rfl) (by kernel_rfl) (fun _ _ _ h => h) (Or.inl ⟨by rfl, ?_⟩) hS11 ?_; rotate_left; (· (intro wq hSw; obtain ⟨y00, y01, y02⟩ := hSw.1; go_simp; try with_reducible rfl))
  try simp only [Act.put, List.setIfInBounds_toArray, List.set_cons_zero, List.set_cons_succ]
  refine wpAnyH_ready (rs := [45]) (by kernel_rfl) (by simp) ?_
  refine AllReadyH.cons (o := { dst := some 58, op := Go.Op.call { callee := Go.Callee.value (Go.Operand.func 22), args := #[Go.Operand.tmp 56, Go.Operand.tmp 57], argTypes := #[22, 22] }, type := 4, pos := "law.go:28", after := #[{ on := 43, ground := Go.Ground.data }, { on := 44, ground := Go.Ground.data }, { on := 42, ground := Go.Ground.chain }, { on := 42, ground := Go.Ground.guard }], guard := some (42, true) }) rfl (fun K hK => ?_) AllReadyH.nil
  go_simp
  refine (Same_p (by omega) (by omega) (sameL_refl ys) (L3.out.more hS11.2) (L3.out.more hS11.2)).mono ?_
  rintro e wr12 ⟨he, hb⟩
  subst he
  replace N1 := Lib.hid (N1.out.more hb)
  replace N2 := Lib.hid (N2.out.more hb)
  have S12 := (And.intro (hS11.1.more hb) (below_more hS11.2 hb))
  refine hK.out _ _ S12 (fun hS12 => ?_)
  clear hK K hS11 hb S12
  try simp only [Act.put, List.setIfInBounds_toArray, List.set_cons_zero, List.set_cons_succ]
  refine wpAnyH_take (i := 46) (oi := { dst := some 59, op := Go.Op.pick (Go.Operand.tmp 55) (Go.Operand.tmp 58) (Go.Operand.const (Go.Value.bool false)), type := 4, pos := "law.go:28", after := #[{ on := 42, ground := Go.Ground.data }, { on := 45, ground := Go.Ground.data }], guard := none }) (v := ?_) rfl (by kernel_rfl) (by kernel_rfl) (by kernel_rfl) (fun _ _ _ h => h) (Or.inl ⟨by rfl, ?_⟩) hS12 ?_; rotate_left; (· (intro wq hSw; obtain ⟨y00, y01, y02⟩ := hSw.1; go_simp; try with_reducible rfl))
  try simp only [Act.put, List.setIfInBounds_toArray, List.set_cons_zero, List.set_cons_succ]
  refine wpAnyH_take (i := 47) (oi := { dst := some 6, op := Go.Op.assign (Go.Operand.tmp 59), type := 4, pos := "law.go:28", after := #[{ on := 46, ground := Go.Ground.data }, { on := 45, ground := Go.Ground.chain }, { on := 0, ground := Go.Ground.phase }, { on := 1, ground := Go.Ground.phase }, { on := 2, ground := Go.Ground.phase }, { on := 3, ground := Go.Ground.phase }, { on := 4, ground := Go.Ground.phase }, { on := 5, ground := Go.Ground.phase }, { on := 6, ground := Go.Ground.phase }, { on := 7, ground := Go.Ground.phase }, { on := 8, ground := Go.Ground.phase }, { on := 9, ground := Go.Ground.phase }, { on := 10, ground := Go.Ground.phase }, { on := 11, ground := Go.Ground.phase }, { on := 12, ground := Go.Ground.phase }, { on := 13, ground := Go.Ground.phase }, { on := 14, ground := Go.Ground.phase }, { on := 15, ground := Go.Ground.phase }, { on := 16, ground := Go.Ground.phase }, { on := 17, ground := Go.Ground.phase }, { on := 18, ground := Go.Ground.phase }, { on := 19, ground := Go.Ground.phase }, { on := 20, ground := Go.Ground.phase }, { on := 21, ground := Go.Ground.phase }, { on := 22, ground := Go.Ground.phase }, { on := 23, ground := Go.Ground.phase }, { on := 24, ground := Go.Ground.phase }, { on := 25, ground := Go.Ground.phase }, { on := 26, ground := Go.Ground.phase }, { on := 27, ground := Go.Ground.phase }, { on := 28, ground := Go.Ground.phase }, { on := 29, ground := Go.Ground.phase }, { on := 30, ground := Go.Ground.phase }, { on := 31, ground := Go.Ground.phase }, { on := 32, ground := Go.Ground.phase }, { on := 33, ground := Go.Ground.phase }, { on := 34, ground := Go.Ground.phase }, { on := 35, ground := Go.Ground.phase }, { on := 36, ground := Go.Ground.phase }, { on := 37, ground := Go.Ground.phase }, { on := 38, ground := Go.Ground.phase }, { on := 39, ground := Go.Ground.phase }, { on := 40, ground := Go.Ground.phase }, { on := 41, ground := Go.Ground.phase }, { on := 42, ground := Go.Ground.phase }, { on := 43, ground := Go.Ground.phase }, { on := 44, ground := Go.Ground.phase }, { on := 45, ground := Go.Ground.phase }, { on := 46, ground := Go.Ground.phase }], guard := none }) (v := ?_) rfl (by kernel_rfl) (by kernel_rfl) (by kernel_rfl) (fun _ _ _ h => h) (Or.inl ⟨by rfl, ?_⟩) hS12 ?_; rotate_left; (· (intro wq hSw; obtain ⟨y00, y01, y02⟩ := hSw.1; go_simp; try with_reducible rfl))
  try simp only [Act.put, List.setIfInBounds_toArray, List.set_cons_zero, List.set_cons_succ]
  refine wpAnyH_done (by kernel_rfl) ?_ _
  have HBE := Lib.hid (below_more D3.out.below hS12.2)
  clear hS12
  go_wp2
  go_ret
  exact ⟨rfl, HBE.out⟩

end Go.Proofs.YtpaaeojojbdikaaDoor
