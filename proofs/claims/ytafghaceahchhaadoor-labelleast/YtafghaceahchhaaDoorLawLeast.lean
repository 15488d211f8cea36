/- The law LabelLeast, walked. -/
import Derived.Test.YtafghaceahchhaaDoorLabLeast
import Derived.Test.YtafghaceahchhaaDoorLabRefLeast
import Derived.Test.YtafghaceahchhaaDoorLabIn
namespace Go.Proofs.YtafghaceahchhaaDoor
open Go.RowKit Go.Proofs.Cats Go.Shelf

theorem under_made (s : Lab) (hs : s.fits) (hr : s.right = true) : ∀ zs : List Lab, (∀ x ∈ zs, x.fits) → zs.all Lab.right = true → s.under (madeJ s zs) = true ∧ ∀ x ∈ zs, x.under (madeJ s zs) = true
  | [], _, _ => ⟨by show s.under s = true; rw [under_refl s hs, hr], fun x hx => by cases hx⟩
  | y :: zs, hf, ha => by
    rw [List.all_cons, Bool.and_eq_true] at ha
    have hy := hf y (List.mem_cons_self ..)
    have hfz : ∀ x ∈ zs, x.fits := fun x hx => hf x (List.mem_cons_of_mem _ hx)
    have hmf : (madeJ (s.join y) zs).fits := madeJ_fit _ (hs.join hy) zs hfz
    obtain ⟨h1, h2⟩ := under_made (s.join y) (hs.join hy) (Lab.right_join hr ha.1) zs hfz ha.2
    refine ⟨under_trans hs (hs.join hy) hmf (under_joinL hs hy hr ha.1) h1, fun x hx => ?_⟩
    rcases List.mem_cons.1 hx with rfl | hx
    · exact under_trans hy (hs.join hy) hmf (under_joinR hs hy hr ha.1) h1
    · exact h2 x hx
theorem toldJ_fit (zs : List Lab) (h : ∀ x ∈ zs, x.fits) : (toldJ Lab.bot zs).fits := by
  unfold toldJ
  split
  · exact madeJ_fit _ Lab.fits_bot zs h
  · exact fits_zero
theorem toldJ_over (zs : List Lab) (h : ∀ x ∈ zs, x.fits) (ha : zs.all Lab.right = true) (x : Lab) (hx : x ∈ zs) : x.under (toldJ Lab.bot zs) = true := by
  rw [toldJ_yes _ _ ha]
  exact (under_made Lab.bot Lab.fits_bot Lab.bot_right zs h ha).2 x hx
/-- What a round of the law reads. -/
def LawS (w : World) (L : List (Nat × Lab)) (b o : Nat) (x : Lab) (W : World) : Prop := LabsAt w L W ∧ LabAt W b o x
theorem LawS.later {w W W1 : World} {L : List (Nat × Lab)} {b o : Nat} {x : Lab} (h : LawS w L b o x W) (hb : Below W.heap.size W W1) : LawS w L b o x W1 :=
  ⟨h.1.later hb, cell_later hb h.2.1, cell_later hb h.2.2.1, cell_later hb h.2.2.2⟩
theorem LawS.drew {w W : World} {L : List (Nat × Lab)} {b o : Nat} {x : Lab} (h : LawS w L b o x W) : LawS w L b o x W.drew := ⟨h.1.drew, h.2⟩

set_option maxRecDepth 100000 in
set_option maxHeartbeats 4000000 in
theorem labelLeast_ley (w : World) (len cap : Nat) (ys : List Lab) (b off : Nat) (hlen : len ≤ 50) (HL : Hid (ys.length = len)) (hc : ∀ j x, ys[j]? = some x → x.fits ∧ LabAt w b (off + j * 3) x) (hbw : b < w.heap.size) (hI : Labs w.heap.size w (.slice (some ⟨b, off, none⟩) len cap) ys) (hcap : len ≤ cap) (hm : cap ≤ maxLen) (hy50 : ys.length ≤ 50) (hall : ys.all Lab.right = true) (hg : ErrT w) :
    Calls Tryd.prog 4 #[.slice (some ⟨b, off, none⟩) len cap] w fun e w' => e = .returned (.bool true) ∧ Below w.heap.size w w' := by
  have _hu := hm
  clear _hu
  unfold maxLen at hm
  have hfits := hI.fits
  obtain ⟨T, hT⟩ : ∃ T, toldJ Lab.bot ys = T := ⟨_, rfl⟩
  have hTf : T.fits := by rw [← hT]; exact toldJ_fit ys hfits
  have HT := Lib.hid hT
  have HE := Lib.hid (toldE_yes ys hall)
  have HU := Lib.hid (toldJ_over ys hfits hall)
  rw [hT] at HU
  have qa := eqL T T
  have qb := eqInL T T
  rw [same_self] at qa qb
  have HY := Lib.hid hI
  have HF := Lib.hid hfits
  have h1 : (len : Int) ≤ 50 := by omega
  have hlc : (len : Int) ≤ (cap : Int) := by omega
  have HC := Lib.hid hc
  clear hc
  clear hI hall hT hfits
  have hB : Below w.heap.size w w := Below.refl _ _
  have hg1 := hg
  clear hg
  go_enter Tryd.func4, Tryd.ntmps4
  go_wp2_with fail
  refine (shown_any _ hg1).mono ?_
  rintro e w1 ⟨he, hb⟩
  subst he
  replace hB := below_more hB hb
  replace hg1 := hg1.more hb
  clear hb
  go_wp2_with fail
  refine (least_any (some ⟨b, off, none⟩) len cap ys (by omega) _ ((HY.out.below hB).mono hB.size) hg1).mono ?_
  rintro e w2 ⟨he, hb⟩
  rw [HT.out, HE.out] at he
  subst he
  replace hB := below_more hB hb
  replace hg1 := hg1.more hb
  clear hb
  have hn := Below.new w2 (.cells #[.int .i64 T.l, .int .u64 T.c, .int .i64 T.i] 24)
  replace hB := below_more hB hn
  replace hg1 := hg1.more hn
  have a0 : (w2.alloc (.cells #[.int .i64 T.l, .int .u64 T.c, .int .i64 T.i] 24)).cell? ⟨w2.heap.size, 0, none⟩ = some (.int .i64 T.l) := by simp
  have a1 : (w2.alloc (.cells #[.int .i64 T.l, .int .u64 T.c, .int .i64 T.i] 24)).cell? ⟨w2.heap.size, 1, none⟩ = some (.int .u64 T.c) := by simp
  have a2 : (w2.alloc (.cells #[.int .i64 T.l, .int .u64 T.c, .int .i64 T.i] 24)).cell? ⟨w2.heap.size, 2, none⟩ = some (.int .i64 T.i) := by simp
  clear hn
  go_wp2_with fail
  refine (refLeast_any (some ⟨b, off, none⟩) len cap ys (by omega) hcap _ ((HY.out.below hB).mono hB.size) hg1).mono ?_
  rintro e w3 ⟨he, hb⟩
  rw [HT.out, HE.out] at he
  subst he
  replace a0 := cell_later hb a0
  replace a1 := cell_later hb a1
  replace a2 := cell_later hb a2
  replace hB := below_more hB hb
  replace hg1 := hg1.more hb
  clear hb
  have hn := Below.new w3 (.cells #[.int .i64 T.l, .int .u64 T.c, .int .i64 T.i] 24)
  replace a0 := cell_later hn a0
  replace a1 := cell_later hn a1
  replace a2 := cell_later hn a2
  replace hB := below_more hB hn
  replace hg1 := hg1.more hn
  have b0 : (w3.alloc (.cells #[.int .i64 T.l, .int .u64 T.c, .int .i64 T.i] 24)).cell? ⟨w3.heap.size, 0, none⟩ = some (.int .i64 T.l) := by simp
  have b1 : (w3.alloc (.cells #[.int .i64 T.l, .int .u64 T.c, .int .i64 T.i] 24)).cell? ⟨w3.heap.size, 1, none⟩ = some (.int .u64 T.c) := by simp
  have b2 : (w3.alloc (.cells #[.int .i64 T.l, .int .u64 T.c, .int .i64 T.i] 24)).cell? ⟨w3.heap.size, 2, none⟩ = some (.int .i64 T.i) := by simp
  clear hn
  have hM := labsAt_cons a0 a1 a2 (labsAt_cons b0 b1 b2 (labsAt_nil hB hg1))
  clear a0 a1 a2 b0 b1 b2 hB hg1
  go_wp2
  obtain ⟨PA, hPA⟩ : ∃ n, w2.heap.size = n := ⟨_, rfl⟩
  obtain ⟨PB, hPB⟩ : ∃ n, w3.heap.size = n := ⟨_, rfl⟩
  rw [hPA, hPB] at hM
  simp only [hPA, hPB]
  clear hPA hPB
  generalize (w3.alloc (.cells #[.int .i64 T.l, .int .u64 T.c, .int .i64 T.i] 24)) = W1 at hM ⊢
  have HM := Lib.hid hM
  clear hM
  go_loopw [8] (fun i wr => ∃ k : Nat, k ≤ len ∧ i = .int .i64 k ∧ LabsAt w [(PA, T), (PB, T)] wr) (fun i _ => len - (intOf i).toNat)
  case atStart => exact ⟨0, Nat.zero_le _, rfl, HM.out⟩
  case round =>
    obtain ⟨k, hk, rfl, hmem⟩ := hrel
    by_cases hlt : k < len
    · obtain ⟨x, hx⟩ : ∃ x, ys[k]? = some x := ⟨_, List.getElem?_eq_getElem (by rw [HL.out]; exact hlt)⟩
      obtain ⟨hxf, hat⟩ := HC.out k x hx
      have hq := hat.below hmem.below hbw
      have U1 := Lib.hid (HU.out x (List.mem_of_getElem? hx))
      have hS : LawS w [(PA, T), (PB, T)] b (off + k * 3) x wr := ⟨hmem, hq⟩
      have hi1 : (0 : Int) ≤ (k : Int) := by omega
      have hi2 : (k : Int) < ((len : Nat) : Int) := by omega
      clear hx hat hq hmem
      go_wp2_with fail
      refine wp_region_held_drew (S := LawS w [(PA, T), (PB, T)] b (off + k * 3) x) (by kernel_rfl) (hS.drew) (fun hS0 => ?_)
      clear hS
      refine wpAnyH_take (i := 0) (oi := { dst := some 31, op := Go.Op.move (Go.Operand.tmp 5), type := 26, pos := "law.go:37", after := #[], guard := none }) (v := ?_) rfl (by kernel_rfl) (by kernel_rfl) (by kernel_rfl) (fun _ _ _ h => h) (Or.inl ⟨by rfl, ?_⟩) hS0 ?_; rotate_left; (· (intro wq hSw; obtain ⟨p0, p1, p2, _⟩ := labsAt_head hSw.1; obtain ⟨q0, q1, q2⟩ := hSw.2; go_simp; try with_reducible rfl))
      try simp only [Act.put, List.setIfInBounds_toArray, List.set_cons_zero, List.set_cons_succ]
      refine wpAnyH_take (i := 1) (oi := { dst := some 32, op := Go.Op.binOp Go.BinOp.eql 26 (Go.Operand.tmp 31) (Go.Operand.const (Go.Value.int Go.IntKind.i64 0)) 26, type := 4, pos := "law.go:37", after := #[{ on := 0, ground := Go.Ground.data }], guard := none }) (v := ?_) rfl (by kernel_rfl) (by kernel_rfl) (by kernel_rfl) (fun _ _ _ h => h) (Or.inl ⟨by rfl, ?_⟩) hS0 ?_; rotate_left; (· (intro wq hSw; obtain ⟨p0, p1, p2, _⟩ := labsAt_head hSw.1; obtain ⟨q0, q1, q2⟩ := hSw.2; go_simp; try with_reducible rfl))
      try simp only [Act.put, List.setIfInBounds_toArray, List.set_cons_zero, List.set_cons_succ]
      refine wpAnyH_take (i := 2) (oi := { dst := some 33, op := Go.Op.move (Go.Operand.tmp 32), type := 4, pos := "law.go:37", after := #[{ on := 1, ground := Go.Ground.data }], guard := none }) (v := ?_) rfl (by kernel_rfl) (by kernel_rfl) (by kernel_rfl) (fun _ _ _ h => h) (Or.inl ⟨by rfl, ?_⟩) hS0 ?_; rotate_left; (· (intro wq hSw; obtain ⟨p0, p1, p2, _⟩ := labsAt_head hSw.1; obtain ⟨q0, q1, q2⟩ := hSw.2; go_simp; try with_reducible rfl))
      try simp only [Act.put, List.setIfInBounds_toArray, List.set_cons_zero, List.set_cons_succ]
      refine wpAnyH_take (i := 3) (oi := { dst := some 34, op := Go.Op.move (Go.Operand.tmp 0), type := 33, pos := "law.go:37", after := #[{ on := 2, ground := Go.Ground.guard }], guard := some (2, true) }) (v := ?_) rfl (by kernel_rfl) (by kernel_rfl) (by kernel_rfl) (fun _ _ _ h => h) (Or.inl ⟨by rfl, ?_⟩) hS0 ?_; rotate_left; (· (intro wq hSw; obtain ⟨p0, p1, p2, _⟩ := labsAt_head hSw.1; obtain ⟨q0, q1, q2⟩ := hSw.2; go_simp; try with_reducible rfl))
      try simp only [Act.put, List.setIfInBounds_toArray, List.set_cons_zero, List.set_cons_succ]
      refine wpAnyH_take (i := 4) (oi := { dst := some 35, op := Go.Op.move (Go.Operand.tmp 8), type := 3, pos := "law.go:37", after := #[{ on := 2, ground := Go.Ground.guard }], guard := some (2, true) }) (v := ?_) rfl (by kernel_rfl) (by kernel_rfl) (by kernel_rfl) (fun _ _ _ h => h) (Or.inl ⟨by rfl, ?_⟩) hS0 ?_; rotate_left; (· (intro wq hSw; obtain ⟨p0, p1, p2, _⟩ := labsAt_head hSw.1; obtain ⟨q0, q1, q2⟩ := hSw.2; go_simp; try with_reducible rfl))
      try simp only [Act.put, List.setIfInBounds_toArray, List.set_cons_zero, List.set_cons_succ]
      refine wpAnyH_take (i := 5) (oi := { dst := some 36, op := Go.Op.indexAddr 33 (Go.Operand.tmp 34) (Go.Operand.tmp 35), type := 0, pos := "law.go:37", after := #[{ on := 3, ground := Go.Ground.data }, { on := 4, ground := Go.Ground.data }, { on := 2, ground := Go.Ground.guard }], guard := some (2, true) }) (v := ?_) rfl (by kernel_rfl) (by kernel_rfl) (by kernel_rfl) (fun _ _ _ h => h) (Or.inl ⟨by rfl, ?_⟩) hS0 ?_; rotate_left; (· (intro wq hSw; obtain ⟨p0, p1, p2, _⟩ := labsAt_head hSw.1; obtain ⟨q0, q1, q2⟩ := hSw.2; go_simp; try with_reducible rfl))
      try simp only [Act.put, List.setIfInBounds_toArray, List.set_cons_zero, List.set_cons_succ]
      refine wpAnyH_take (i := 6) (oi := { dst := some 37, op := Go.Op.load 24 (Go.Operand.tmp 36), type := 24, pos := "law.go:37", after := #[{ on := 5, ground := Go.Ground.data }, { on := 2, ground := Go.Ground.guard }], guard := some (2, true) }) (v := ?_) rfl (by kernel_rfl) (by kernel_rfl) (by kernel_rfl) (fun _ _ _ h => h) (Or.inl ⟨by rfl, ?_⟩) hS0 ?_; rotate_left; (· (intro wq hSw; obtain ⟨p0, p1, p2, _⟩ := labsAt_head hSw.1; obtain ⟨q0, q1, q2⟩ := hSw.2; go_simp; try with_reducible rfl))
      try simp only [Act.put, List.setIfInBounds_toArray, List.set_cons_zero, List.set_cons_succ]
      refine wpAnyH_take (i := 7) (oi := { dst := some 38, op := Go.Op.load 24 (Go.Operand.tmp 4), type := 24, pos := "law.go:37", after := #[{ on := 2, ground := Go.Ground.guard }], guard := some (2, true) }) (v := ?_) rfl (by kernel_rfl) (by kernel_rfl) (by kernel_rfl) (fun _ _ _ h => h) (Or.inl ⟨by rfl, ?_⟩) hS0 ?_; rotate_left; (· (intro wq hSw; obtain ⟨p0, p1, p2, _⟩ := labsAt_head hSw.1; obtain ⟨q0, q1, q2⟩ := hSw.2; go_simp; try with_reducible rfl))
      try simp only [Act.put, List.setIfInBounds_toArray, List.set_cons_zero, List.set_cons_succ]
      refine wpAnyH_ready (rs := [8]) (by kernel_rfl) (by simp) ?_
      refine AllReadyH.cons (o := { dst := some 39, op := Go.Op.call { callee := Go.Callee.value (Go.Operand.func 18), args := #[Go.Operand.tmp 37, Go.Operand.tmp 38], argTypes := #[24, 24] }, type := 4, pos := "law.go:37", after := #[{ on := 6, ground := Go.Ground.data }, { on := 7, ground := Go.Ground.data }, { on := 2, ground := Go.Ground.chain }, { on := 2, ground := Go.Ground.guard }], guard := some (2, true) }) rfl (fun K hK => ?_) AllReadyH.nil
      go_simp
      refine (Under_any x T hxf hTf _).mono ?_
      rintro e w4 ⟨he, hb⟩
      rw [U1.out] at he
      subst he
      refine hK.out _ _ (LawS.later hS0 hb) (fun hS1 => ?_)
      clear hK K hS0 hb
      try simp only [Act.put, List.setIfInBounds_toArray, List.set_cons_zero, List.set_cons_succ]
      refine wpAnyH_take (i := 9) (oi := { dst := some 40, op := Go.Op.unOp Go.UnOp.not 4 (Go.Operand.tmp 39), type := 4, pos := "law.go:37", after := #[{ on := 8, ground := Go.Ground.data }, { on := 2, ground := Go.Ground.guard }], guard := some (2, true) }) (v := ?_) rfl (by kernel_rfl) (by kernel_rfl) (by kernel_rfl) (fun _ _ _ h => h) (Or.inl ⟨by rfl, ?_⟩) hS1 ?_; rotate_left; (· (intro wq hSw; obtain ⟨p0, p1, p2, _⟩ := labsAt_head hSw.1; obtain ⟨q0, q1, q2⟩ := hSw.2; go_simp; try with_reducible rfl))
      try simp only [Act.put, List.setIfInBounds_toArray, List.set_cons_zero, List.set_cons_succ]
      refine wpAnyH_take (i := 10) (oi := { dst := some 41, op := Go.Op.pick (Go.Operand.tmp 33) (Go.Operand.tmp 40) (Go.Operand.const (Go.Value.bool false)), type := 4, pos := "law.go:37", after := #[{ on := 2, ground := Go.Ground.data }, { on := 9, ground := Go.Ground.data }], guard := none }) (v := ?_) rfl (by kernel_rfl) (by kernel_rfl) (by kernel_rfl) (fun _ _ _ h => h) (Or.inl ⟨by rfl, ?_⟩) hS1 ?_; rotate_left; (· (intro wq hSw; obtain ⟨p0, p1, p2, _⟩ := labsAt_head hSw.1; obtain ⟨q0, q1, q2⟩ := hSw.2; go_simp; try with_reducible rfl))
      try simp only [Act.put, List.setIfInBounds_toArray, List.set_cons_zero, List.set_cons_succ]
      refine wpAnyH_done (by kernel_rfl) ?_ _
      have HS := Lib.hid hS1.1
      clear hS1
      go_wp2
      go_roundw
      case rel => exact ⟨k + 1, by omega, by simp, HS.out⟩
      case measure => simp [intOf]; omega
    · obtain rfl : k = len := by omega
      obtain ⟨a0, a1, a2, hmem2⟩ := labsAt_head hmem
      obtain ⟨b0, b1, b2, _⟩ := labsAt_head hmem2
      have hB := hmem.below
      clear hmem hmem2
      go_wp2
      go_ret
      exact ⟨rfl, hB⟩

set_option maxRecDepth 100000 in
set_option maxHeartbeats 4000000 in
theorem labelLeast_gty (w : World) (len cap : Nat) (ys : List Lab) (b off : Nat) (hlen : 50 < len) (HL : Hid (ys.length = 50)) (hc : ∀ j x, ys[j]? = some x → x.fits ∧ LabAt w b (off + j * 3) x) (hbw : b < w.heap.size) (hI : Labs w.heap.size w (.slice (some ⟨b, off, none⟩) 50 cap) ys) (hcap : 50 ≤ cap) (hm : cap ≤ maxLen) (hy50 : ys.length ≤ 50) (hall : ys.all Lab.right = true) (hg : ErrT w) :
    Calls Tryd.prog 4 #[.slice (some ⟨b, off, none⟩) len cap] w fun e w' => e = .returned (.bool true) ∧ Below w.heap.size w w' := by
  have _hu := hm
  clear _hu
  unfold maxLen at hm
  have hfits := hI.fits
  obtain ⟨T, hT⟩ : ∃ T, toldJ Lab.bot ys = T := ⟨_, rfl⟩
  have hTf : T.fits := by rw [← hT]; exact toldJ_fit ys hfits
  have HT := Lib.hid hT
  have HE := Lib.hid (toldE_yes ys hall)
  have HU := Lib.hid (toldJ_over ys hfits hall)
  rw [hT] at HU
  have qa := eqL T T
  have qb := eqInL T T
  rw [same_self] at qa qb
  have HY := Lib.hid hI
  have HF := Lib.hid hfits
  have h1 : ¬ (len : Int) ≤ 50 := by omega
  have h2 : (50 : Int) < (len : Int) := by omega
  have hlc : (50 : Int) ≤ (cap : Int) := by omega
  have HC := Lib.hid hc
  clear hc
  clear hI hall hT hfits
  have hB : Below w.heap.size w w := Below.refl _ _
  have hg1 := hg
  clear hg
  go_enter Tryd.func4, Tryd.ntmps4
  go_wp2_with fail
  refine (shown_any _ hg1).mono ?_
  rintro e w1 ⟨he, hb⟩
  subst he
  replace hB := below_more hB hb
  replace hg1 := hg1.more hb
  clear hb
  go_wp2_with fail
  refine (least_any (some ⟨b, off, none⟩) 50 cap ys (by omega) _ ((HY.out.below hB).mono hB.size) hg1).mono ?_
  rintro e w2 ⟨he, hb⟩
  rw [HT.out, HE.out] at he
  subst he
  replace hB := below_more hB hb
  replace hg1 := hg1.more hb
  clear hb
  have hn := Below.new w2 (.cells #[.int .i64 T.l, .int .u64 T.c, .int .i64 T.i] 24)
  replace hB := below_more hB hn
  replace hg1 := hg1.more hn
  have a0 : (w2.alloc (.cells #[.int .i64 T.l, .int .u64 T.c, .int .i64 T.i] 24)).cell? ⟨w2.heap.size, 0, none⟩ = some (.int .i64 T.l) := by simp
  have a1 : (w2.alloc (.cells #[.int .i64 T.l, .int .u64 T.c, .int .i64 T.i] 24)).cell? ⟨w2.heap.size, 1, none⟩ = some (.int .u64 T.c) := by simp
  have a2 : (w2.alloc (.cells #[.int .i64 T.l, .int .u64 T.c, .int .i64 T.i] 24)).cell? ⟨w2.heap.size, 2, none⟩ = some (.int .i64 T.i) := by simp
  clear hn
  go_wp2_with fail
  refine (refLeast_any (some ⟨b, off, none⟩) 50 cap ys (by omega) hcap _ ((HY.out.below hB).mono hB.size) hg1).mono ?_
  rintro e w3 ⟨he, hb⟩
  rw [HT.out, HE.out] at he
  subst he
  replace a0 := cell_later hb a0
  replace a1 := cell_later hb a1
  replace a2 := cell_later hb a2
  replace hB := below_more hB hb
  replace hg1 := hg1.more hb
  clear hb
  have hn := Below.new w3 (.cells #[.int .i64 T.l, .int .u64 T.c, .int .i64 T.i] 24)
  replace a0 := cell_later hn a0
  replace a1 := cell_later hn a1
  replace a2 := cell_later hn a2
  replace hB := below_more hB hn
  replace hg1 := hg1.more hn
  have b0 : (w3.alloc (.cells #[.int .i64 T.l, .int .u64 T.c, .int .i64 T.i] 24)).cell? ⟨w3.heap.size, 0, none⟩ = some (.int .i64 T.l) := by simp
  have b1 : (w3.alloc (.cells #[.int .i64 T.l, .int .u64 T.c, .int .i64 T.i] 24)).cell? ⟨w3.heap.size, 1, none⟩ = some (.int .u64 T.c) := by simp
  have b2 : (w3.alloc (.cells #[.int .i64 T.l, .int .u64 T.c, .int .i64 T.i] 24)).cell? ⟨w3.heap.size, 2, none⟩ = some (.int .i64 T.i) := by simp
  clear hn
  have hM := labsAt_cons a0 a1 a2 (labsAt_cons b0 b1 b2 (labsAt_nil hB hg1))
  clear a0 a1 a2 b0 b1 b2 hB hg1
  go_wp2
  obtain ⟨PA, hPA⟩ : ∃ n, w2.heap.size = n := ⟨_, rfl⟩
  obtain ⟨PB, hPB⟩ : ∃ n, w3.heap.size = n := ⟨_, rfl⟩
  rw [hPA, hPB] at hM
  simp only [hPA, hPB]
  clear hPA hPB
  generalize (w3.alloc (.cells #[.int .i64 T.l, .int .u64 T.c, .int .i64 T.i] 24)) = W1 at hM ⊢
  have HM := Lib.hid hM
  clear hM
  go_loopw [8] (fun i wr => ∃ k : Nat, k ≤ 50 ∧ i = .int .i64 k ∧ LabsAt w [(PA, T), (PB, T)] wr) (fun i _ => 50 - (intOf i).toNat)
  case atStart => exact ⟨0, Nat.zero_le _, rfl, HM.out⟩
  case round =>
    obtain ⟨k, hk, rfl, hmem⟩ := hrel
    by_cases hlt : k < 50
    · obtain ⟨x, hx⟩ : ∃ x, ys[k]? = some x := ⟨_, List.getElem?_eq_getElem (by rw [HL.out]; exact hlt)⟩
      obtain ⟨hxf, hat⟩ := HC.out k x hx
      have hq := hat.below hmem.below hbw
      have U1 := Lib.hid (HU.out x (List.mem_of_getElem? hx))
      have hS : LawS w [(PA, T), (PB, T)] b (off + k * 3) x wr := ⟨hmem, hq⟩
      have hi1 : (0 : Int) ≤ (k : Int) := by omega
      have hi2 : (k : Int) < ((50 : Nat) : Int) := by omega
      clear hx hat hq hmem
      go_wp2_with fail
      refine wp_region_held_drew (S := LawS w [(PA, T), (PB, T)] b (off + k * 3) x) (by kernel_rfl) (hS.drew) (fun hS0 => ?_)
      clear hS
      refine wpAnyH_take (i := 0) (oi := { dst := some 31, op := Go.Op.move (Go.Operand.tmp 5), type := 26, pos := "law.go:37", after := #[], guard := none }) (v := ?_) rfl (by kernel_rfl) (by kernel_rfl) (by kernel_rfl) (fun _ _ _ h => h) (Or.inl ⟨by rfl, ?_⟩) hS0 ?_; rotate_left; (· (intro wq hSw; obtain ⟨p0, p1, p2, _⟩ := labsAt_head hSw.1; obtain ⟨q0, q1, q2⟩ := hSw.2; go_simp; try with_reducible rfl))
      try simp only [Act.put, List.setIfInBounds_toArray, List.set_cons_zero, List.set_cons_succ]
      refine wpAnyH_take (i := 1) (oi := { dst := some 32, op := Go.Op.binOp Go.BinOp.eql 26 (Go.Operand.tmp 31) (Go.Operand.const (Go.Value.int Go.IntKind.i64 0)) 26, type := 4, pos := "law.go:37", after := #[{ on := 0, ground := Go.Ground.data }], guard := none }) (v := ?_) rfl (by kernel_rfl) (by kernel_rfl) (by kernel_rfl) (fun _ _ _ h => h) (Or.inl ⟨by rfl, ?_⟩) hS0 ?_; rotate_left; (· (intro wq hSw; obtain ⟨p0, p1, p2, _⟩ := labsAt_head hSw.1; obtain ⟨q0, q1, q2⟩ := hSw.2; go_simp; try with_reducible rfl))
      try simp only [Act.put, List.setIfInBounds_toArray, List.set_cons_zero, List.set_cons_succ]
      refine wpAnyH_take (i := 2) (oi := { dst := some 33, op := Go.Op.move (Go.Operand.tmp 32), type := 4, pos := "law.go:37", after := #[{ on := 1, ground := Go.Ground.data }], guard := none }) (v := ?_) rfl (by kernel_rfl) (by kernel_rfl) (by kernel_rfl) (fun _ _ _ h => h) (Or.inl ⟨by rfl, ?_⟩) hS0 ?_; rotate_left; (· (intro wq hSw; obtain ⟨p0, p1, p2, _⟩ := labsAt_head hSw.1; obtain ⟨q0, q1, q2⟩ := hSw.2; go_simp; try with_reducible rfl))
      try simp only [Act.put, List.setIfInBounds_toArray, List.set_cons_zero, List.set_cons_succ]
      refine wpAnyH_take (i := 3) (oi := { dst := some 34, op := Go.Op.move (Go.Operand.tmp 0), type := 33, pos := "law.go:37", after := #[{ on := 2, ground := Go.Ground.guard }], guard := some (2, true) }) (v := ?_) rfl (by kernel_rfl) (by kernel_rfl) (by kernel_rfl) (fun _ _ _ h => h) (Or.inl ⟨by rfl, ?_⟩) hS0 ?_; rotate_left; (· (intro wq hSw; obtain ⟨p0, p1, p2, _⟩ := labsAt_head hSw.1; obtain ⟨q0, q1, q2⟩ := hSw.2; go_simp; try with_reducible rfl))
      try simp only [Act.put, List.setIfInBounds_toArray, List.set_cons_zero, List.set_cons_succ]
      refine wpAnyH_take (i := 4) (oi := { dst := some 35, op := Go.Op.move (Go.Operand.tmp 8), type := 3, pos := "law.go:37", after := #[{ on := 2, ground := Go.Ground.guard }], guard := some (2, true) }) (v := ?_) rfl (by kernel_rfl) (by kernel_rfl) (by kernel_rfl) (fun _ _ _ h => h) (Or.inl ⟨by rfl, ?_⟩) hS0 ?_; rotate_left; (· (intro wq hSw; obtain ⟨p0, p1, p2, _⟩ := labsAt_head hSw.1; obtain ⟨q0, q1, q2⟩ := hSw.2; go_simp; try with_reducible rfl))
      try simp only [Act.put, List.setIfInBounds_toArray, List.set_cons_zero, List.set_cons_succ]
      refine wpAnyH_take (i := 5) (oi := { dst := some 36, op := Go.Op.indexAddr 33 (Go.Operand.tmp 34) (Go.Operand.tmp 35), type := 0, pos := "law.go:37", after := #[{ on := 3, ground := Go.Ground.data }, { on := 4, ground := Go.Ground.data }, { on := 2, ground := Go.Ground.guard }], guard := some (2, true) }) (v := ?_) rfl (by kernel_rfl) (by kernel_rfl) (by kernel_rfl) (fun _ _ _ h => h) (Or.inl ⟨by rfl, ?_⟩) hS0 ?_; rotate_left; (· (intro wq hSw; obtain ⟨p0, p1, p2, _⟩ := labsAt_head hSw.1; obtain ⟨q0, q1, q2⟩ := hSw.2; go_simp; try with_reducible rfl))
      try simp only [Act.put, List.setIfInBounds_toArray, List.set_cons_zero, List.set_cons_succ]
      refine wpAnyH_take (i := 6) (oi := { dst := some 37, op := Go.Op.load 24 (Go.Operand.tmp 36), type := 24, pos := "law.go:37", after := #[{ on := 5, ground := Go.Ground.data }, { on := 2, ground := Go.Ground.guard }], guard := some (2, true) }) (v := ?_) rfl (by kernel_rfl) (by kernel_rfl) (by kernel_rfl) (fun _ _ _ h => h) (Or.inl ⟨by rfl, ?_⟩) hS0 ?_; rotate_left; (· (intro wq hSw; obtain ⟨p0, p1, p2, _⟩ := labsAt_head hSw.1; obtain ⟨q0, q1, q2⟩ := hSw.2; go_simp; try with_reducible rfl))
      try simp only [Act.put, List.setIfInBounds_toArray, List.set_cons_zero, List.set_cons_succ]
      refine wpAnyH_take (i := 7) (oi := { dst := some 38, op := Go.Op.load 24 (Go.Operand.tmp 4), type := 24, pos := "law.go:37", after := #[{ on := 2, ground := Go.Ground.guard }], guard := some (2, true) }) (v := ?_) rfl (by kernel_rfl) (by kernel_rfl) (by kernel_rfl) (fun _ _ _ h => h) (Or.inl ⟨by rfl, ?_⟩) hS0 ?_; rotate_left; (· (intro wq hSw; obtain ⟨p0, p1, p2, _⟩ := labsAt_head hSw.1; obtain ⟨q0, q1, q2⟩ := hSw.2; go_simp; try with_reducible rfl))
      try simp only [Act.put, List.setIfInBounds_toArray, List.set_cons_zero, List.set_cons_succ]
      refine wpAnyH_ready (rs := [8]) (by kernel_rfl) (by simp) ?_
      refine AllReadyH.cons (o := { dst := some 39, op := Go.Op.call { callee := Go.Callee.value (Go.Operand.func 18), args := #[Go.Operand.tmp 37, Go.Operand.tmp 38], argTypes := #[24, 24] }, type := 4, pos := "law.go:37", after := #[{ on := 6, ground := Go.Ground.data }, { on := 7, ground := Go.Ground.data }, { on := 2, ground := Go.Ground.chain }, { on := 2, ground := Go.Ground.guard }], guard := some (2, true) }) rfl (fun K hK => ?_) AllReadyH.nil
      go_simp
      refine (Under_any x T hxf hTf _).mono ?_
      rintro e w4 ⟨he, hb⟩
      rw [U1.out] at he
      subst he
      refine hK.out _ _ (LawS.later hS0 hb) (fun hS1 => ?_)
      clear hK K hS0 hb
      try simp only [Act.put, List.setIfInBounds_toArray, List.set_cons_zero, List.set_cons_succ]
      refine wpAnyH_take (i := 9) (oi := { dst := some 40, op := Go.Op.unOp Go.UnOp.not 4 (Go.Operand.tmp 39), type := 4, pos := "law.go:37", after := #[{ on := 8, ground := Go.Ground.data }, { on := 2, ground := Go.Ground.guard }], guard := some (2, true) }) (v := ?_) rfl (by kernel_rfl) (by kernel_rfl) (by kernel_rfl) (fun _ _ _ h => h) (Or.inl ⟨by rfl, ?_⟩) hS1 ?_; rotate_left; (· (intro wq hSw; obtain ⟨p0, p1, p2, _⟩ := labsAt_head hSw.1; obtain ⟨q0, q1, q2⟩ := hSw.2; go_simp; try with_reducible rfl))
      try simp only [Act.put, List.setIfInBounds_toArray, List.set_cons_zero, List.set_cons_succ]
      refine wpAnyH_take (i := 10) (oi := { dst := some 41, op := Go.Op.pick (Go.Operand.tmp 33) (Go.Operand.tmp 40) (Go.Operand.const (Go.Value.bool false)), type := 4, pos := "law.go:37", after := #[{ on := 2, ground := Go.Ground.data }, { on := 9, ground := Go.Ground.data }], guard := none }) (v := ?_) rfl (by kernel_rfl) (by kernel_rfl) (by kernel_rfl) (fun _ _ _ h => h) (Or.inl ⟨by rfl, ?_⟩) hS1 ?_; rotate_left; (· (intro wq hSw; obtain ⟨p0, p1, p2, _⟩ := labsAt_head hSw.1; obtain ⟨q0, q1, q2⟩ := hSw.2; go_simp; try with_reducible rfl))
      try simp only [Act.put, List.setIfInBounds_toArray, List.set_cons_zero, List.set_cons_succ]
      refine wpAnyH_done (by kernel_rfl) ?_ _
      have HS := Lib.hid hS1.1
      clear hS1
      go_wp2
      go_roundw
      case rel => exact ⟨k + 1, by omega, by simp, HS.out⟩
      case measure => simp [intOf]; omega
    · obtain rfl : k = 50 := by omega
      obtain ⟨a0, a1, a2, hmem2⟩ := labsAt_head hmem
      obtain ⟨b0, b1, b2, _⟩ := labsAt_head hmem2
      have hB := hmem.below
      clear hmem hmem2
      go_wp2
      go_ret
      exact ⟨rfl, hB⟩

set_option maxRecDepth 100000 in
set_option maxHeartbeats 4000000 in
theorem labelLeast_len (w : World) (len cap : Nat) (ys : List Lab) (b off : Nat) (hlen : len ≤ 50) (HL : Hid (ys.length = len)) (hc : ∀ j x, ys[j]? = some x → x.fits ∧ LabAt w b (off + j * 3) x) (hbw : b < w.heap.size) (hI : Labs w.heap.size w (.slice (some ⟨b, off, none⟩) len cap) ys) (hcap : len ≤ cap) (hm : cap ≤ maxLen) (hy50 : ys.length ≤ 50) (hall : ys.all Lab.right = false) (hg : ErrT w) :
    Calls Tryd.prog 4 #[.slice (some ⟨b, off, none⟩) len cap] w fun e w' => e = .returned (.bool true) ∧ Below w.heap.size w w' := by
  have _hu := hm
  clear _hu
  unfold maxLen at hm
  have hfits := hI.fits
  obtain ⟨T, hT⟩ : ∃ T, toldJ Lab.bot ys = T := ⟨_, rfl⟩
  have hTf : T.fits := by rw [← hT]; exact toldJ_fit ys hfits
  have HT := Lib.hid hT
  have HE := Lib.hid (toldE_no ys hall)
  have qa := eqL T T
  have qb := eqInL T T
  rw [same_self] at qa qb
  have HY := Lib.hid hI
  have HF := Lib.hid hfits
  have h1 : (len : Int) ≤ 50 := by omega
  have hlc : (len : Int) ≤ (cap : Int) := by omega
  have HC := Lib.hid hc
  clear hc
  clear hI hall hT hfits
  have hB : Below w.heap.size w w := Below.refl _ _
  have hg1 := hg
  clear hg
  go_enter Tryd.func4, Tryd.ntmps4
  go_wp2_with fail
  refine (shown_any _ hg1).mono ?_
  rintro e w1 ⟨he, hb⟩
  subst he
  replace hB := below_more hB hb
  replace hg1 := hg1.more hb
  clear hb
  go_wp2_with fail
  refine (least_any (some ⟨b, off, none⟩) len cap ys (by omega) _ ((HY.out.below hB).mono hB.size) hg1).mono ?_
  rintro e w2 ⟨he, hb⟩
  rw [HT.out, HE.out] at he
  subst he
  replace hB := below_more hB hb
  replace hg1 := hg1.more hb
  clear hb
  have hn := Below.new w2 (.cells #[.int .i64 T.l, .int .u64 T.c, .int .i64 T.i] 24)
  replace hB := below_more hB hn
  replace hg1 := hg1.more hn
  have a0 : (w2.alloc (.cells #[.int .i64 T.l, .int .u64 T.c, .int .i64 T.i] 24)).cell? ⟨w2.heap.size, 0, none⟩ = some (.int .i64 T.l) := by simp
  have a1 : (w2.alloc (.cells #[.int .i64 T.l, .int .u64 T.c, .int .i64 T.i] 24)).cell? ⟨w2.heap.size, 1, none⟩ = some (.int .u64 T.c) := by simp
  have a2 : (w2.alloc (.cells #[.int .i64 T.l, .int .u64 T.c, .int .i64 T.i] 24)).cell? ⟨w2.heap.size, 2, none⟩ = some (.int .i64 T.i) := by simp
  clear hn
  go_wp2_with fail
  refine (refLeast_any (some ⟨b, off, none⟩) len cap ys (by omega) hcap _ ((HY.out.below hB).mono hB.size) hg1).mono ?_
  rintro e w3 ⟨he, hb⟩
  rw [HT.out, HE.out] at he
  subst he
  replace a0 := cell_later hb a0
  replace a1 := cell_later hb a1
  replace a2 := cell_later hb a2
  replace hB := below_more hB hb
  replace hg1 := hg1.more hb
  clear hb
  have hn := Below.new w3 (.cells #[.int .i64 T.l, .int .u64 T.c, .int .i64 T.i] 24)
  replace a0 := cell_later hn a0
  replace a1 := cell_later hn a1
  replace a2 := cell_later hn a2
  replace hB := below_more hB hn
  replace hg1 := hg1.more hn
  have b0 : (w3.alloc (.cells #[.int .i64 T.l, .int .u64 T.c, .int .i64 T.i] 24)).cell? ⟨w3.heap.size, 0, none⟩ = some (.int .i64 T.l) := by simp
  have b1 : (w3.alloc (.cells #[.int .i64 T.l, .int .u64 T.c, .int .i64 T.i] 24)).cell? ⟨w3.heap.size, 1, none⟩ = some (.int .u64 T.c) := by simp
  have b2 : (w3.alloc (.cells #[.int .i64 T.l, .int .u64 T.c, .int .i64 T.i] 24)).cell? ⟨w3.heap.size, 2, none⟩ = some (.int .i64 T.i) := by simp
  clear hn
  have hM := labsAt_cons a0 a1 a2 (labsAt_cons b0 b1 b2 (labsAt_nil hB hg1))
  clear a0 a1 a2 b0 b1 b2 hB hg1
  go_wp2
  obtain ⟨PA, hPA⟩ : ∃ n, w2.heap.size = n := ⟨_, rfl⟩
  obtain ⟨PB, hPB⟩ : ∃ n, w3.heap.size = n := ⟨_, rfl⟩
  rw [hPA, hPB] at hM
  simp only [hPA, hPB]
  clear hPA hPB
  generalize (w3.alloc (.cells #[.int .i64 T.l, .int .u64 T.c, .int .i64 T.i] 24)) = W1 at hM ⊢
  have HM := Lib.hid hM
  clear hM
  go_loopw [8] (fun i wr => ∃ k : Nat, k ≤ len ∧ i = .int .i64 k ∧ LabsAt w [(PA, T), (PB, T)] wr) (fun i _ => len - (intOf i).toNat)
  case atStart => exact ⟨0, Nat.zero_le _, rfl, HM.out⟩
  case round =>
    obtain ⟨k, hk, rfl, hmem⟩ := hrel
    by_cases hlt : k < len
    · obtain ⟨x, hx⟩ : ∃ x, ys[k]? = some x := ⟨_, List.getElem?_eq_getElem (by rw [HL.out]; exact hlt)⟩
      obtain ⟨hxf, hat⟩ := HC.out k x hx
      have hq := hat.below hmem.below hbw
      have hS : LawS w [(PA, T), (PB, T)] b (off + k * 3) x wr := ⟨hmem, hq⟩
      have hi1 : (0 : Int) ≤ (k : Int) := by omega
      have hi2 : (k : Int) < ((len : Nat) : Int) := by omega
      clear hx hat hq hmem
      go_wp2_with fail
      refine wp_region_held_drew (S := LawS w [(PA, T), (PB, T)] b (off + k * 3) x) (by kernel_rfl) (hS.drew) (fun hS0 => ?_)
      clear hS
      refine wpAnyH_take (i := 0) (oi := { dst := some 31, op := Go.Op.move (Go.Operand.tmp 5), type := 26, pos := "law.go:37", after := #[], guard := none }) (v := ?_) rfl (by kernel_rfl) (by kernel_rfl) (by kernel_rfl) (fun _ _ _ h => h) (Or.inl ⟨by rfl, ?_⟩) hS0 ?_; rotate_left; (· (intro wq hSw; obtain ⟨p0, p1, p2, _⟩ := labsAt_head hSw.1; obtain ⟨q0, q1, q2⟩ := hSw.2; go_simp; try with_reducible rfl))
      try simp only [Act.put, List.setIfInBounds_toArray, List.set_cons_zero, List.set_cons_succ]
      refine wpAnyH_take (i := 1) (oi := { dst := some 32, op := Go.Op.binOp Go.BinOp.eql 26 (Go.Operand.tmp 31) (Go.Operand.const (Go.Value.int Go.IntKind.i64 0)) 26, type := 4, pos := "law.go:37", after := #[{ on := 0, ground := Go.Ground.data }], guard := none }) (v := ?_) rfl (by kernel_rfl) (by kernel_rfl) (by kernel_rfl) (fun _ _ _ h => h) (Or.inl ⟨by rfl, ?_⟩) hS0 ?_; rotate_left; (· (intro wq hSw; obtain ⟨p0, p1, p2, _⟩ := labsAt_head hSw.1; obtain ⟨q0, q1, q2⟩ := hSw.2; go_simp; try with_reducible rfl))
      try simp only [Act.put, List.setIfInBounds_toArray, List.set_cons_zero, List.set_cons_succ]
      refine wpAnyH_take (i := 2) (oi := { dst := some 33, op := Go.Op.move (Go.Operand.tmp 32), type := 4, pos := "law.go:37", after := #[{ on := 1, ground := Go.Ground.data }], guard := none }) (v := ?_) rfl (by kernel_rfl) (by kernel_rfl) (by kernel_rfl) (fun _ _ _ h => h) (Or.inl ⟨by rfl, ?_⟩) hS0 ?_; rotate_left; (· (intro wq hSw; obtain ⟨p0, p1, p2, _⟩ := labsAt_head hSw.1; obtain ⟨q0, q1, q2⟩ := hSw.2; go_simp; try with_reducible rfl))
      try simp only [Act.put, List.setIfInBounds_toArray, List.set_cons_zero, List.set_cons_succ]
      refine wpAnyH_take (i := 3) (oi := { dst := some 34, op := Go.Op.move (Go.Operand.tmp 0), type := 33, pos := "law.go:37", after := #[{ on := 2, ground := Go.Ground.guard }], guard := some (2, true) }) (v := undef) rfl (by kernel_rfl) (by kernel_rfl) (by kernel_rfl) (fun _ _ _ h => h) (Or.inr ⟨by rfl, rfl⟩) hS0 ?_
      try simp only [Act.put, List.setIfInBounds_toArray, List.set_cons_zero, List.set_cons_succ]
      refine wpAnyH_take (i := 4) (oi := { dst := some 35, op := Go.Op.move (Go.Operand.tmp 8), type := 3, pos := "law.go:37", after := #[{ on := 2, ground := Go.Ground.guard }], guard := some (2, true) }) (v := undef) rfl (by kernel_rfl) (by kernel_rfl) (by kernel_rfl) (fun _ _ _ h => h) (Or.inr ⟨by rfl, rfl⟩) hS0 ?_
      try simp only [Act.put, List.setIfInBounds_toArray, List.set_cons_zero, List.set_cons_succ]
      refine wpAnyH_take (i := 5) (oi := { dst := some 36, op := Go.Op.indexAddr 33 (Go.Operand.tmp 34) (Go.Operand.tmp 35), type := 0, pos := "law.go:37", after := #[{ on := 3, ground := Go.Ground.data }, { on := 4, ground := Go.Ground.data }, { on := 2, ground := Go.Ground.guard }], guard := some (2, true) }) (v := undef) rfl (by kernel_rfl) (by kernel_rfl) (by kernel_rfl) (fun _ _ _ h => h) (Or.inr ⟨by rfl, rfl⟩) hS0 ?_
      try simp only [Act.put, List.setIfInBounds_toArray, List.set_cons_zero, List.set_cons_succ]
      refine wpAnyH_take (i := 6) (oi := { dst := some 37, op := Go.Op.load 24 (Go.Operand.tmp 36), type := 24, pos := "law.go:37", after := #[{ on := 5, ground := Go.Ground.data }, { on := 2, ground := Go.Ground.guard }], guard := some (2, true) }) (v := undef) rfl (by kernel_rfl) (by kernel_rfl) (by kernel_rfl) (fun _ _ _ h => h) (Or.inr ⟨by rfl, rfl⟩) hS0 ?_
      try simp only [Act.put, List.setIfInBounds_toArray, List.set_cons_zero, List.set_cons_succ]
      refine wpAnyH_take (i := 7) (oi := { dst := some 38, op := Go.Op.load 24 (Go.Operand.tmp 4), type := 24, pos := "law.go:37", after := #[{ on := 2, ground := Go.Ground.guard }], guard := some (2, true) }) (v := undef) rfl (by kernel_rfl) (by kernel_rfl) (by kernel_rfl) (fun _ _ _ h => h) (Or.inr ⟨by rfl, rfl⟩) hS0 ?_
      try simp only [Act.put, List.setIfInBounds_toArray, List.set_cons_zero, List.set_cons_succ]
      refine wpAnyH_ready (rs := [8]) (by kernel_rfl) (by simp) ?_
      refine AllReadyH.cons (o := { dst := some 39, op := Go.Op.call { callee := Go.Callee.value (Go.Operand.func 18), args := #[Go.Operand.tmp 37, Go.Operand.tmp 38], argTypes := #[24, 24] }, type := 4, pos := "law.go:37", after := #[{ on := 6, ground := Go.Ground.data }, { on := 7, ground := Go.Ground.data }, { on := 2, ground := Go.Ground.chain }, { on := 2, ground := Go.Ground.guard }], guard := some (2, true) }) rfl (fun K hK => ?_) AllReadyH.nil
      rw [if_neg (by intro h; cases h)]
      refine hK.out _ _ hS0 (fun hS1 => ?_)
      clear hK K hS0
      try simp only [Act.put, List.setIfInBounds_toArray, List.set_cons_zero, List.set_cons_succ]
      refine wpAnyH_take (i := 9) (oi := { dst := some 40, op := Go.Op.unOp Go.UnOp.not 4 (Go.Operand.tmp 39), type := 4, pos := "law.go:37", after := #[{ on := 8, ground := Go.Ground.data }, { on := 2, ground := Go.Ground.guard }], guard := some (2, true) }) (v := undef) rfl (by kernel_rfl) (by kernel_rfl) (by kernel_rfl) (fun _ _ _ h => h) (Or.inr ⟨by rfl, rfl⟩) hS1 ?_
      try simp only [Act.put, List.setIfInBounds_toArray, List.set_cons_zero, List.set_cons_succ]
      refine wpAnyH_take (i := 10) (oi := { dst := some 41, op := Go.Op.pick (Go.Operand.tmp 33) (Go.Operand.tmp 40) (Go.Operand.const (Go.Value.bool false)), type := 4, pos := "law.go:37", after := #[{ on := 2, ground := Go.Ground.data }, { on := 9, ground := Go.Ground.data }], guard := none }) (v := ?_) rfl (by kernel_rfl) (by kernel_rfl) (by kernel_rfl) (fun _ _ _ h => h) (Or.inl ⟨by rfl, ?_⟩) hS1 ?_; rotate_left; (· (intro wq hSw; obtain ⟨p0, p1, p2, _⟩ := labsAt_head hSw.1; obtain ⟨q0, q1, q2⟩ := hSw.2; go_simp; try with_reducible rfl))
      try simp only [Act.put, List.setIfInBounds_toArray, List.set_cons_zero, List.set_cons_succ]
      refine wpAnyH_done (by kernel_rfl) ?_ _
      have HS := Lib.hid hS1.1
      clear hS1
      go_wp2
      go_roundw
      case rel => exact ⟨k + 1, by omega, by simp, HS.out⟩
      case measure => simp [intOf]; omega
    · obtain rfl : k = len := by omega
      obtain ⟨a0, a1, a2, hmem2⟩ := labsAt_head hmem
      obtain ⟨b0, b1, b2, _⟩ := labsAt_head hmem2
      have hB := hmem.below
      clear hmem hmem2
      go_wp2
      go_ret
      exact ⟨rfl, hB⟩

set_option maxRecDepth 100000 in
set_option maxHeartbeats 4000000 in
theorem labelLeast_gtn (w : World) (len cap : Nat) (ys : List Lab) (b off : Nat) (hlen : 50 < len) (HL : Hid (ys.length = 50)) (hc : ∀ j x, ys[j]? = some x → x.fits ∧ LabAt w b (off + j * 3) x) (hbw : b < w.heap.size) (hI : Labs w.heap.size w (.slice (some ⟨b, off, none⟩) 50 cap) ys) (hcap : 50 ≤ cap) (hm : cap ≤ maxLen) (hy50 : ys.length ≤ 50) (hall : ys.all Lab.right = false) (hg : ErrT w) :
    Calls Tryd.prog 4 #[.slice (some ⟨b, off, none⟩) len cap] w fun e w' => e = .returned (.bool true) ∧ Below w.heap.size w w' := by
  have _hu := hm
  clear _hu
  unfold maxLen at hm
  have hfits := hI.fits
  obtain ⟨T, hT⟩ : ∃ T, toldJ Lab.bot ys = T := ⟨_, rfl⟩
  have hTf : T.fits := by rw [← hT]; exact toldJ_fit ys hfits
  have HT := Lib.hid hT
  have HE := Lib.hid (toldE_no ys hall)
  have qa := eqL T T
  have qb := eqInL T T
  rw [same_self] at qa qb
  have HY := Lib.hid hI
  have HF := Lib.hid hfits
  have h1 : ¬ (len : Int) ≤ 50 := by omega
  have h2 : (50 : Int) < (len : Int) := by omega
  have hlc : (50 : Int) ≤ (cap : Int) := by omega
  have HC := Lib.hid hc
  clear hc
  clear hI hall hT hfits
  have hB : Below w.heap.size w w := Below.refl _ _
  have hg1 := hg
  clear hg
  go_enter Tryd.func4, Tryd.ntmps4
  go_wp2_with fail
  refine (shown_any _ hg1).mono ?_
  rintro e w1 ⟨he, hb⟩
  subst he
  replace hB := below_more hB hb
  replace hg1 := hg1.more hb
  clear hb
  go_wp2_with fail
  refine (least_any (some ⟨b, off, none⟩) 50 cap ys (by omega) _ ((HY.out.below hB).mono hB.size) hg1).mono ?_
  rintro e w2 ⟨he, hb⟩
  rw [HT.out, HE.out] at he
  subst he
  replace hB := below_more hB hb
  replace hg1 := hg1.more hb
  clear hb
  have hn := Below.new w2 (.cells #[.int .i64 T.l, .int .u64 T.c, .int .i64 T.i] 24)
  replace hB := below_more hB hn
  replace hg1 := hg1.more hn
  have a0 : (w2.alloc (.cells #[.int .i64 T.l, .int .u64 T.c, .int .i64 T.i] 24)).cell? ⟨w2.heap.size, 0, none⟩ = some (.int .i64 T.l) := by simp
  have a1 : (w2.alloc (.cells #[.int .i64 T.l, .int .u64 T.c, .int .i64 T.i] 24)).cell? ⟨w2.heap.size, 1, none⟩ = some (.int .u64 T.c) := by simp
  have a2 : (w2.alloc (.cells #[.int .i64 T.l, .int .u64 T.c, .int .i64 T.i] 24)).cell? ⟨w2.heap.size, 2, none⟩ = some (.int .i64 T.i) := by simp
  clear hn
  go_wp2_with fail
  refine (refLeast_any (some ⟨b, off, none⟩) 50 cap ys (by omega) hcap _ ((HY.out.below hB).mono hB.size) hg1).mono ?_
  rintro e w3 ⟨he, hb⟩
  rw [HT.out, HE.out] at he
  subst he
  replace a0 := cell_later hb a0
  replace a1 := cell_later hb a1
  replace a2 := cell_later hb a2
  replace hB := below_more hB hb
  replace hg1 := hg1.more hb
  clear hb
  have hn := Below.new w3 (.cells #[.int .i64 T.l, .int .u64 T.c, .int .i64 T.i] 24)
  replace a0 := cell_later hn a0
  replace a1 := cell_later hn a1
  replace a2 := cell_later hn a2
  replace hB := below_more hB hn
  replace hg1 := hg1.more hn
  have b0 : (w3.alloc (.cells #[.int .i64 T.l, .int .u64 T.c, .int .i64 T.i] 24)).cell? ⟨w3.heap.size, 0, none⟩ = some (.int .i64 T.l) := by simp
  have b1 : (w3.alloc (.cells #[.int .i64 T.l, .int .u64 T.c, .int .i64 T.i] 24)).cell? ⟨w3.heap.size, 1, none⟩ = some (.int .u64 T.c) := by simp
  have b2 : (w3.alloc (.cells #[.int .i64 T.l, .int .u64 T.c, .int .i64 T.i] 24)).cell? ⟨w3.heap.size, 2, none⟩ = some (.int .i64 T.i) := by simp
  clear hn
  have hM := labsAt_cons a0 a1 a2 (labsAt_cons b0 b1 b2 (labsAt_nil hB hg1))
  clear a0 a1 a2 b0 b1 b2 hB hg1
  go_wp2
  obtain ⟨PA, hPA⟩ : ∃ n, w2.heap.size = n := ⟨_, rfl⟩
  obtain ⟨PB, hPB⟩ : ∃ n, w3.heap.size = n := ⟨_, rfl⟩
  rw [hPA, hPB] at hM
  simp only [hPA, hPB]
  clear hPA hPB
  generalize (w3.alloc (.cells #[.int .i64 T.l, .int .u64 T.c, .int .i64 T.i] 24)) = W1 at hM ⊢
  have HM := Lib.hid hM
  clear hM
  go_loopw [8] (fun i wr => ∃ k : Nat, k ≤ 50 ∧ i = .int .i64 k ∧ LabsAt w [(PA, T), (PB, T)] wr) (fun i _ => 50 - (intOf i).toNat)
  case atStart => exact ⟨0, Nat.zero_le _, rfl, HM.out⟩
  case round =>
    obtain ⟨k, hk, rfl, hmem⟩ := hrel
    by_cases hlt : k < 50
    · obtain ⟨x, hx⟩ : ∃ x, ys[k]? = some x := ⟨_, List.getElem?_eq_getElem (by rw [HL.out]; exact hlt)⟩
      obtain ⟨hxf, hat⟩ := HC.out k x hx
      have hq := hat.below hmem.below hbw
      have hS : LawS w [(PA, T), (PB, T)] b (off + k * 3) x wr := ⟨hmem, hq⟩
      have hi1 : (0 : Int) ≤ (k : Int) := by omega
      have hi2 : (k : Int) < ((50 : Nat) : Int) := by omega
      clear hx hat hq hmem
      go_wp2_with fail
      refine wp_region_held_drew (S := LawS w [(PA, T), (PB, T)] b (off + k * 3) x) (by kernel_rfl) (hS.drew) (fun hS0 => ?_)
      clear hS
      refine wpAnyH_take (i := 0) (oi := { dst := some 31, op := Go.Op.move (Go.Operand.tmp 5), type := 26, pos := "law.go:37", after := #[], guard := none }) (v := ?_) rfl (by kernel_rfl) (by kernel_rfl) (by kernel_rfl) (fun _ _ _ h => h) (Or.inl ⟨by rfl, ?_⟩) hS0 ?_; rotate_left; (· (intro wq hSw; obtain ⟨p0, p1, p2, _⟩ := labsAt_head hSw.1; obtain ⟨q0, q1, q2⟩ := hSw.2; go_simp; try with_reducible rfl))
      try simp only [Act.put, List.setIfInBounds_toArray, List.set_cons_zero, List.set_cons_succ]
      refine wpAnyH_take (i := 1) (oi := { dst := some 32, op := Go.Op.binOp Go.BinOp.eql 26 (Go.Operand.tmp 31) (Go.Operand.const (Go.Value.int Go.IntKind.i64 0)) 26, type := 4, pos := "law.go:37", after := #[{ on := 0, ground := Go.Ground.data }], guard := none }) (v := ?_) rfl (by kernel_rfl) (by kernel_rfl) (by kernel_rfl) (fun _ _ _ h => h) (Or.inl ⟨by rfl, ?_⟩) hS0 ?_; rotate_left; (· (intro wq hSw; obtain ⟨p0, p1, p2, _⟩ := labsAt_head hSw.1; obtain ⟨q0, q1, q2⟩ := hSw.2; go_simp; try with_reducible rfl))
      try simp only [Act.put, List.setIfInBounds_toArray, List.set_cons_zero, List.set_cons_succ]
      refine wpAnyH_take (i := 2) (oi := { dst := some 33, op := Go.Op.move (Go.Operand.tmp 32), type := 4, pos := "law.go:37", after := #[{ on := 1, ground := Go.Ground.data }], guard := none }) (v := ?_) rfl (by kernel_rfl) (by kernel_rfl) (by kernel_rfl) (fun _ _ _ h => h) (Or.inl ⟨by rfl, ?_⟩) hS0 ?_; rotate_left; (· (intro wq hSw; obtain ⟨p0, p1, p2, _⟩ := labsAt_head hSw.1; obtain ⟨q0, q1, q2⟩ := hSw.2; go_simp; try with_reducible rfl))
      try simp only [Act.put, List.setIfInBounds_toArray, List.set_cons_zero, List.set_cons_succ]
      refine wpAnyH_take (i := 3) (oi := { dst := some 34, op := Go.Op.move (Go.Operand.tmp 0), type := 33, pos := "law.go:37", after := #[{ on := 2, ground := Go.Ground.guard }], guard := some (2, true) }) (v := undef) rfl (by kernel_rfl) (by kernel_rfl) (by kernel_rfl) (fun _ _ _ h => h) (Or.inr ⟨by rfl, rfl⟩) hS0 ?_
      try simp only [Act.put, List.setIfInBounds_toArray, List.set_cons_zero, List.set_cons_succ]
      refine wpAnyH_take (i := 4) (oi := { dst := some 35, op := Go.Op.move (Go.Operand.tmp 8), type := 3, pos := "law.go:37", after := #[{ on := 2, ground := Go.Ground.guard }], guard := some (2, true) }) (v := undef) rfl (by kernel_rfl) (by kernel_rfl) (by kernel_rfl) (fun _ _ _ h => h) (Or.inr ⟨by rfl, rfl⟩) hS0 ?_
      try simp only [Act.put, List.setIfInBounds_toArray, List.set_cons_zero, List.set_cons_succ]
      refine wpAnyH_take (i := 5) (oi := { dst := some 36, op := Go.Op.indexAddr 33 (Go.Operand.tmp 34) (Go.Operand.tmp 35), type := 0, pos := "law.go:37", after := #[{ on := 3, ground := Go.Ground.data }, { on := 4, ground := Go.Ground.data }, { on := 2, ground := Go.Ground.guard }], guard := some (2, true) }) (v := undef) rfl (by kernel_rfl) (by kernel_rfl) (by kernel_rfl) (fun _ _ _ h => h) (Or.inr ⟨by rfl, rfl⟩) hS0 ?_
      try simp only [Act.put, List.setIfInBounds_toArray, List.set_cons_zero, List.set_cons_succ]
      refine wpAnyH_take (i := 6) (oi := { dst := some 37, op := Go.Op.load 24 (Go.Operand.tmp 36), type := 24, pos := "law.go:37", after := #[{ on := 5, ground := Go.Ground.data }, { on := 2, ground := Go.Ground.guard }], guard := some (2, true) }) (v := undef) rfl (by kernel_rfl) (by kernel_rfl) (by kernel_rfl) (fun _ _ _ h => h) (Or.inr ⟨by rfl, rfl⟩) hS0 ?_
      try simp only [Act.put, List.setIfInBounds_toArray, List.set_cons_zero, List.set_cons_succ]
      refine wpAnyH_take (i := 7) (oi := { dst := some 38, op := Go.Op.load 24 (Go.Operand.tmp 4), type := 24, pos := "law.go:37", after := #[{ on := 2, ground := Go.Ground.guard }], guard := some (2, true) }) (v := undef) rfl (by kernel_rfl) (by kernel_rfl) (by kernel_rfl) (fun _ _ _ h => h) (Or.inr ⟨by rfl, rfl⟩) hS0 ?_
      try simp only [Act.put, List.setIfInBounds_toArray, List.set_cons_zero, List.set_cons_succ]
      refine wpAnyH_ready (rs := [8]) (by kernel_rfl) (by simp) ?_
      refine AllReadyH.cons (o := { dst := some 39, op := Go.Op.call { callee := Go.Callee.value (Go.Operand.func 18), args := #[Go.Operand.tmp 37, Go.Operand.tmp 38], argTypes := #[24, 24] }, type := 4, pos := "law.go:37", after := #[{ on := 6, ground := Go.Ground.data }, { on := 7, ground := Go.Ground.data }, { on := 2, ground := Go.Ground.chain }, { on := 2, ground := Go.Ground.guard }], guard := some (2, true) }) rfl (fun K hK => ?_) AllReadyH.nil
      rw [if_neg (by intro h; cases h)]
      refine hK.out _ _ hS0 (fun hS1 => ?_)
      clear hK K hS0
      try simp only [Act.put, List.setIfInBounds_toArray, List.set_cons_zero, List.set_cons_succ]
      refine wpAnyH_take (i := 9) (oi := { dst := some 40, op := Go.Op.unOp Go.UnOp.not 4 (Go.Operand.tmp 39), type := 4, pos := "law.go:37", after := #[{ on := 8, ground := Go.Ground.data }, { on := 2, ground := Go.Ground.guard }], guard := some (2, true) }) (v := undef) rfl (by kernel_rfl) (by kernel_rfl) (by kernel_rfl) (fun _ _ _ h => h) (Or.inr ⟨by rfl, rfl⟩) hS1 ?_
      try simp only [Act.put, List.setIfInBounds_toArray, List.set_cons_zero, List.set_cons_succ]
      refine wpAnyH_take (i := 10) (oi := { dst := some 41, op := Go.Op.pick (Go.Operand.tmp 33) (Go.Operand.tmp 40) (Go.Operand.const (Go.Value.bool false)), type := 4, pos := "law.go:37", after := #[{ on := 2, ground := Go.Ground.data }, { on := 9, ground := Go.Ground.data }], guard := none }) (v := ?_) rfl (by kernel_rfl) (by kernel_rfl) (by kernel_rfl) (fun _ _ _ h => h) (Or.inl ⟨by rfl, ?_⟩) hS1 ?_; rotate_left; (· (intro wq hSw; obtain ⟨p0, p1, p2, _⟩ := labsAt_head hSw.1; obtain ⟨q0, q1, q2⟩ := hSw.2; go_simp; try with_reducible rfl))
      try simp only [Act.put, List.setIfInBounds_toArray, List.set_cons_zero, List.set_cons_succ]
      refine wpAnyH_done (by kernel_rfl) ?_ _
      have HS := Lib.hid hS1.1
      clear hS1
      go_wp2
      go_roundw
      case rel => exact ⟨k + 1, by omega, by simp, HS.out⟩
      case measure => simp [intOf]; omega
    · obtain rfl : k = 50 := by omega
      obtain ⟨a0, a1, a2, hmem2⟩ := labsAt_head hmem
      obtain ⟨b0, b1, b2, _⟩ := labsAt_head hmem2
      have hB := hmem.below
      clear hmem hmem2
      go_wp2
      go_ret
      exact ⟨rfl, hB⟩

set_option maxRecDepth 100000 in
set_option maxHeartbeats 4000000 in
theorem labelLeast_nil (w : World) (len : Nat) (ys : List Lab) (hlen : len = 0) (hI : Labs w.heap.size w (.slice none 0 0) ys) (hcap : 0 ≤ 0) (hm : 0 ≤ maxLen) (hy50 : ys.length ≤ 50) (hall : ys.all Lab.right = true) (hg : ErrT w) :
    Calls Tryd.prog 4 #[.slice none len 0] w fun e w' => e = .returned (.bool true) ∧ Below w.heap.size w w' := by
  have _hu := hm
  clear _hu
  unfold maxLen at hm
  have hfits := hI.fits
  obtain ⟨T, hT⟩ : ∃ T, toldJ Lab.bot ys = T := ⟨_, rfl⟩
  have hTf : T.fits := by rw [← hT]; exact toldJ_fit ys hfits
  have HT := Lib.hid hT
  have HE := Lib.hid (toldE_yes ys hall)
  have HU := Lib.hid (toldJ_over ys hfits hall)
  rw [hT] at HU
  have qa := eqL T T
  have qb := eqInL T T
  rw [same_self] at qa qb
  have HY := Lib.hid hI
  have HF := Lib.hid hfits
  have hfz : len = 0 := hlen
  subst hfz
  clear hI hall hT hfits
  have hB : Below w.heap.size w w := Below.refl _ _
  have hg1 := hg
  clear hg
  go_enter Tryd.func4, Tryd.ntmps4
  go_wp2_with fail
  refine (shown_any _ hg1).mono ?_
  rintro e w1 ⟨he, hb⟩
  subst he
  replace hB := below_more hB hb
  replace hg1 := hg1.more hb
  clear hb
  go_wp2_with fail
  refine (least_any none 0 0 ys (by omega) _ ((HY.out.below hB).mono hB.size) hg1).mono ?_
  rintro e w2 ⟨he, hb⟩
  rw [HT.out, HE.out] at he
  subst he
  replace hB := below_more hB hb
  replace hg1 := hg1.more hb
  clear hb
  have hn := Below.new w2 (.cells #[.int .i64 T.l, .int .u64 T.c, .int .i64 T.i] 24)
  replace hB := below_more hB hn
  replace hg1 := hg1.more hn
  have a0 : (w2.alloc (.cells #[.int .i64 T.l, .int .u64 T.c, .int .i64 T.i] 24)).cell? ⟨w2.heap.size, 0, none⟩ = some (.int .i64 T.l) := by simp
  have a1 : (w2.alloc (.cells #[.int .i64 T.l, .int .u64 T.c, .int .i64 T.i] 24)).cell? ⟨w2.heap.size, 1, none⟩ = some (.int .u64 T.c) := by simp
  have a2 : (w2.alloc (.cells #[.int .i64 T.l, .int .u64 T.c, .int .i64 T.i] 24)).cell? ⟨w2.heap.size, 2, none⟩ = some (.int .i64 T.i) := by simp
  clear hn
  go_wp2_with fail
  refine (refLeast_any none 0 0 ys (by omega) hcap _ ((HY.out.below hB).mono hB.size) hg1).mono ?_
  rintro e w3 ⟨he, hb⟩
  rw [HT.out, HE.out] at he
  subst he
  replace a0 := cell_later hb a0
  replace a1 := cell_later hb a1
  replace a2 := cell_later hb a2
  replace hB := below_more hB hb
  replace hg1 := hg1.more hb
  clear hb
  have hn := Below.new w3 (.cells #[.int .i64 T.l, .int .u64 T.c, .int .i64 T.i] 24)
  replace a0 := cell_later hn a0
  replace a1 := cell_later hn a1
  replace a2 := cell_later hn a2
  replace hB := below_more hB hn
  replace hg1 := hg1.more hn
  have b0 : (w3.alloc (.cells #[.int .i64 T.l, .int .u64 T.c, .int .i64 T.i] 24)).cell? ⟨w3.heap.size, 0, none⟩ = some (.int .i64 T.l) := by simp
  have b1 : (w3.alloc (.cells #[.int .i64 T.l, .int .u64 T.c, .int .i64 T.i] 24)).cell? ⟨w3.heap.size, 1, none⟩ = some (.int .u64 T.c) := by simp
  have b2 : (w3.alloc (.cells #[.int .i64 T.l, .int .u64 T.c, .int .i64 T.i] 24)).cell? ⟨w3.heap.size, 2, none⟩ = some (.int .i64 T.i) := by simp
  clear hn
  have hM := labsAt_cons a0 a1 a2 (labsAt_cons b0 b1 b2 (labsAt_nil hB hg1))
  clear a0 a1 a2 b0 b1 b2 hB hg1
  go_wp2
  obtain ⟨PA, hPA⟩ : ∃ n, w2.heap.size = n := ⟨_, rfl⟩
  obtain ⟨PB, hPB⟩ : ∃ n, w3.heap.size = n := ⟨_, rfl⟩
  rw [hPA, hPB] at hM
  simp only [hPA, hPB]
  clear hPA hPB
  generalize (w3.alloc (.cells #[.int .i64 T.l, .int .u64 T.c, .int .i64 T.i] 24)) = W1 at hM ⊢
  have HM := Lib.hid hM
  clear hM
  go_loopw [8] (fun i wr => ∃ k : Nat, k ≤ 0 ∧ i = .int .i64 k ∧ LabsAt w [(PA, T), (PB, T)] wr) (fun i _ => 0 - (intOf i).toNat)
  case atStart => exact ⟨0, Nat.zero_le _, rfl, HM.out⟩
  case round =>
    obtain ⟨k, hk, rfl, hmem⟩ := hrel
    obtain rfl : k = 0 := by omega
    obtain ⟨a0, a1, a2, hmem2⟩ := labsAt_head hmem
    obtain ⟨b0, b1, b2, _⟩ := labsAt_head hmem2
    have hB := hmem.below
    clear hmem hmem2
    go_wp2
    go_ret
    exact ⟨rfl, hB⟩

set_option maxRecDepth 100000 in
set_option maxHeartbeats 4000000 in
theorem labelLeast_emp (w : World) (x : Addr) (len cap : Nat) (ys : List Lab) (hlen : len = 0) (hI : Labs w.heap.size w (.slice (some x) 0 cap) ys) (hcap : 0 ≤ cap) (hm : cap ≤ maxLen) (hy50 : ys.length ≤ 50) (hall : ys.all Lab.right = true) (hg : ErrT w) :
    Calls Tryd.prog 4 #[.slice (some x) len cap] w fun e w' => e = .returned (.bool true) ∧ Below w.heap.size w w' := by
  have _hu := hm
  clear _hu
  unfold maxLen at hm
  have hfits := hI.fits
  obtain ⟨T, hT⟩ : ∃ T, toldJ Lab.bot ys = T := ⟨_, rfl⟩
  have hTf : T.fits := by rw [← hT]; exact toldJ_fit ys hfits
  have HT := Lib.hid hT
  have HE := Lib.hid (toldE_yes ys hall)
  have HU := Lib.hid (toldJ_over ys hfits hall)
  rw [hT] at HU
  have qa := eqL T T
  have qb := eqInL T T
  rw [same_self] at qa qb
  have HY := Lib.hid hI
  have HF := Lib.hid hfits
  have hfz : len = 0 := hlen
  subst hfz
  have hlc : (0 : Int) ≤ (cap : Int) := by omega
  clear hI hall hT hfits
  have hB : Below w.heap.size w w := Below.refl _ _
  have hg1 := hg
  clear hg
  go_enter Tryd.func4, Tryd.ntmps4
  go_wp2_with fail
  refine (shown_any _ hg1).mono ?_
  rintro e w1 ⟨he, hb⟩
  subst he
  replace hB := below_more hB hb
  replace hg1 := hg1.more hb
  clear hb
  go_wp2_with fail
  refine (least_any (some x) 0 cap ys (by omega) _ ((HY.out.below hB).mono hB.size) hg1).mono ?_
  rintro e w2 ⟨he, hb⟩
  rw [HT.out, HE.out] at he
  subst he
  replace hB := below_more hB hb
  replace hg1 := hg1.more hb
  clear hb
  have hn := Below.new w2 (.cells #[.int .i64 T.l, .int .u64 T.c, .int .i64 T.i] 24)
  replace hB := below_more hB hn
  replace hg1 := hg1.more hn
  have a0 : (w2.alloc (.cells #[.int .i64 T.l, .int .u64 T.c, .int .i64 T.i] 24)).cell? ⟨w2.heap.size, 0, none⟩ = some (.int .i64 T.l) := by simp
  have a1 : (w2.alloc (.cells #[.int .i64 T.l, .int .u64 T.c, .int .i64 T.i] 24)).cell? ⟨w2.heap.size, 1, none⟩ = some (.int .u64 T.c) := by simp
  have a2 : (w2.alloc (.cells #[.int .i64 T.l, .int .u64 T.c, .int .i64 T.i] 24)).cell? ⟨w2.heap.size, 2, none⟩ = some (.int .i64 T.i) := by simp
  clear hn
  go_wp2_with fail
  refine (refLeast_any (some x) 0 cap ys (by omega) hcap _ ((HY.out.below hB).mono hB.size) hg1).mono ?_
  rintro e w3 ⟨he, hb⟩
  rw [HT.out, HE.out] at he
  subst he
  replace a0 := cell_later hb a0
  replace a1 := cell_later hb a1
  replace a2 := cell_later hb a2
  replace hB := below_more hB hb
  replace hg1 := hg1.more hb
  clear hb
  have hn := Below.new w3 (.cells #[.int .i64 T.l, .int .u64 T.c, .int .i64 T.i] 24)
  replace a0 := cell_later hn a0
  replace a1 := cell_later hn a1
  replace a2 := cell_later hn a2
  replace hB := below_more hB hn
  replace hg1 := hg1.more hn
  have b0 : (w3.alloc (.cells #[.int .i64 T.l, .int .u64 T.c, .int .i64 T.i] 24)).cell? ⟨w3.heap.size, 0, none⟩ = some (.int .i64 T.l) := by simp
  have b1 : (w3.alloc (.cells #[.int .i64 T.l, .int .u64 T.c, .int .i64 T.i] 24)).cell? ⟨w3.heap.size, 1, none⟩ = some (.int .u64 T.c) := by simp
  have b2 : (w3.alloc (.cells #[.int .i64 T.l, .int .u64 T.c, .int .i64 T.i] 24)).cell? ⟨w3.heap.size, 2, none⟩ = some (.int .i64 T.i) := by simp
  clear hn
  have hM := labsAt_cons a0 a1 a2 (labsAt_cons b0 b1 b2 (labsAt_nil hB hg1))
  clear a0 a1 a2 b0 b1 b2 hB hg1
  go_wp2
  obtain ⟨PA, hPA⟩ : ∃ n, w2.heap.size = n := ⟨_, rfl⟩
  obtain ⟨PB, hPB⟩ : ∃ n, w3.heap.size = n := ⟨_, rfl⟩
  rw [hPA, hPB] at hM
  simp only [hPA, hPB]
  clear hPA hPB
  generalize (w3.alloc (.cells #[.int .i64 T.l, .int .u64 T.c, .int .i64 T.i] 24)) = W1 at hM ⊢
  have HM := Lib.hid hM
  clear hM
  go_loopw [8] (fun i wr => ∃ k : Nat, k ≤ 0 ∧ i = .int .i64 k ∧ LabsAt w [(PA, T), (PB, T)] wr) (fun i _ => 0 - (intOf i).toNat)
  case atStart => exact ⟨0, Nat.zero_le _, rfl, HM.out⟩
  case round =>
    obtain ⟨k, hk, rfl, hmem⟩ := hrel
    obtain rfl : k = 0 := by omega
    obtain ⟨a0, a1, a2, hmem2⟩ := labsAt_head hmem
    obtain ⟨b0, b1, b2, _⟩ := labsAt_head hmem2
    have hB := hmem.below
    clear hmem hmem2
    go_wp2
    go_ret
    exact ⟨rfl, hB⟩

theorem labelLeast_any (a : Option Addr) (len cap : Nat) (zs : List Lab) (w : World) (hl : LabsIn w a len cap zs) (hg : ErrT w) :
    Calls Tryd.prog 4 #[.slice a len cap] w fun e w' => e = .returned (.bool true) ∧ Below w.heap.size w w' := by
  obtain ⟨hI, hlen, hlc, hcm, hn⟩ := hl
  have hy : (zs.take 50).length ≤ 50 := List.length_take_le _ _
  have hT := labs_take hI 50
  cases a with
  | none =>
    obtain rfl := hn rfl
    obtain rfl : len = 0 := by omega
    obtain rfl : zs = [] := List.length_eq_zero_iff.1 hlen
    exact labelLeast_nil w 0 [] rfl hI (Nat.le_refl _) hcm (by simp) rfl hg
  | some x =>
    by_cases hz : zs = []
    · subst hz
      obtain rfl : len = 0 := hlen.symm
      exact labelLeast_emp w x 0 cap [] rfl hI (Nat.zero_le _) hcm (by simp) rfl hg
    · obtain ⟨ao, cp, e, hk⟩ := hI
      injection e with e1 e2 e3
      obtain ⟨b, off, rfl, hb, hc⟩ := hk hz
      injection e1 with e1
      subst e1 e3
      have hc' : ∀ j x, (zs.take 50)[j]? = some x → x.fits ∧ LabAt w b (off + j * 3) x := fun j x hj => by
        rw [List.getElem?_take] at hj
        split at hj
        · exact hc j x hj
        · cases hj
      by_cases h50 : len ≤ 50
      · rw [Nat.min_eq_left h50] at hT
        have hL := Lib.hid (show (zs.take 50).length = len by rw [List.length_take]; omega)
        cases ha : (zs.take 50).all Lab.right
        · exact labelLeast_len w len _ _ b off h50 hL hc' hb hT hlc hcm hy ha hg
        · exact labelLeast_ley w len _ _ b off h50 hL hc' hb hT hlc hcm hy ha hg
      · rw [Nat.min_eq_right (by omega)] at hT
        have hL := Lib.hid (show (zs.take 50).length = 50 by rw [List.length_take]; omega)
        cases ha : (zs.take 50).all Lab.right
        · exact labelLeast_gtn w len _ _ b off (by omega) hL hc' hb hT (by omega) hcm hy ha hg
        · exact labelLeast_gty w len _ _ b off (by omega) hL hc' hb hT (by omega) hcm hy ha hg

end Go.Proofs.YtafghaceahchhaaDoor
