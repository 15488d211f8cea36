/- The document's Total, Charge, Refund. -/
import Derived.Test.YtpaaeojojbdikaaDoorLgSet
import Derived.Test.YtpaaeojojbdikaaDoorLgRef2
namespace Go.Proofs.YtpaaeojojbdikaaDoor
open Go.RowKit Go.Proofs.Cats Go.Proofs.Lgr Go.Shelf Go.Sort

set_option maxRecDepth 100000 in
set_option maxHeartbeats 2000000 in
theorem refTotal_any (ao : Option Addr) (len cap : Nat) (l : List Ln) (hreach : len ≤ 1000) (w : World) (hL : Lns w ao len cap l) :
    Calls Tryd.prog 21 #[.slice ao len cap] w (IntP (totalL l) w) := by
  have hll := hL.hlen
  have HLL := Lib.hid hll
  have HL := Lib.hid hL
  clear hL hll
  cases hr : rightL l with
  | false =>
    have HR := Lib.hid (And.intro hr (show totalL l = 0 by unfold totalL; rw [hr]; rfl))
    clear hr
    by_cases h0 : len = 0
    · subst h0
      go_enter Tryd.func21, Tryd.ntmps21
      go_wp2
      refine wp_loop_rounds 1 ?_
      rw [rounds_succ]
      go_wp2
      go_ret
      exact ⟨by rw [HR.out.2]; rfl, Below.refl _ _⟩
    · go_enter Tryd.func21, Tryd.ntmps21
      go_wp2
      refine wp_loop_rounds 1 ?_
      rw [rounds_succ]
      have hp : 0 < len := by omega
      go_wp2_with (go_at_call 14; refine (refRightL_p hreach HR.out.1 HL.out).mono ?_)
      rintro e w1 ⟨rfl, hb1⟩
      have HB := Lib.hid hb1
      clear hb1
      go_wp2
      go_ret
      exact ⟨by rw [HR.out.2]; rfl, HB.out⟩
  | true =>
    have HR := Lib.hid (And.intro hr (total_right hr))
    clear hr
    go_enter Tryd.func21, Tryd.ntmps21
    go_wp2
    go_loopw [3, 4] (fun s v wr => ∃ k : Nat, k ≤ len ∧ s = .int .i64 (sumL (l.take k)) ∧ v = .int .i64 k ∧ Below w.heap.size w wr) (fun _ v _ => len - (intOf v).toNat)
    case atStart => exact ⟨0, Nat.zero_le _, by simp [sumL], rfl, Below.refl _ _⟩
    case round =>
      obtain ⟨k, hk, rfl, rfl, hB⟩ := hrel
      have HB := Lib.hid hB
      by_cases hlt : k < len
      · obtain ⟨x, hx⟩ : ∃ x, l[k]? = some x := ⟨_, List.getElem?_eq_getElem (by rw [HLL.out]; exact hlt)⟩
        have hs1 := sum_upto hx
        have hr1 := sum_range (l := l.take k) (fun y hy => ((rightL_iff l).1 HR.out.1).2.1 y (List.mem_of_mem_take hy))
        have hr2 := (lineOk_iff x).1 (((rightL_iff l).1 HR.out.1).2.1 x (List.mem_of_getElem? hx))
        have hl2 : (l.take k).length ≤ 1000 := by rw [List.length_take]; omega
        have LB := Lib.hid (show Lns wr ao len cap l from HL.out.of_block fun a _ h => hB.block _ h)
        have HX := Lib.hid hx
        obtain ⟨sj, hsj⟩ : ∃ sj, sumL (l.take k) = sj := ⟨_, rfl⟩
        rw [hsj] at hs1 hr1
        rw [hsj]
        have hw1 : IntKind.i64.wrap (sj + x.u) = sj + x.u := by rw [IntKind.wrap_i64]; omega
        have hw2 : wrap64 (sj + x.u) = sj + x.u := by unfold wrap64; omega
        have HS := Lib.hid hs1
        clear hs1 hx hsj hr2 hr1 hl2 hB
        go_wp2_with (go_at_call 14; refine (refRightL_p hreach HR.out.1 LB.out).mono ?_)
        rintro e w1 ⟨rfl, hb1⟩
        obtain ⟨b, off, rfl, _, hcs⟩ := (LB.out.more hb1).at (by omega)
        obtain ⟨_, _, _, q3⟩ := hcs k x HX.out
        have HB1 := Lib.hid (below_more HB.out hb1)
        clear hcs hb1
        go_wp2
        go_roundw
        case rel => exact ⟨k + 1, by omega, by rw [HS.out], by simp, HB1.out⟩
        case measure => simp [intOf]; omega
      · obtain rfl : k = len := by omega
        have hfull : sumL (l.take k) = sumL l := by rw [List.take_of_length_le (by rw [HLL.out]; exact Nat.le_refl _)]
        rw [hfull]
        clear hfull
        go_wp2
        go_ret
        exact ⟨by rw [HR.out.2]; rfl, HB.out⟩
theorem refTotal_p {a1 : Option Addr} {len1 c1 : Nat} {l : List Ln} {v : Int} (hr : len1 ≤ 1000) (hb : totalL l = v) {w : World} (h1 : Lns w a1 len1 c1 l) : Calls Tryd.prog 21 #[.slice a1 len1 c1] w (IntP v w) := hb ▸ refTotal_any a1 len1 c1 l hr w h1

/-- What set tells, its words named. -/
def SetP (m : List Ln) (w : World) (e : Ending) (w' : World) : Prop :=
  ∃ va vc, e = .returned (.slice va m.length vc) ∧ (((∀ x ∈ m, x.a.fits) → Lns w' va m.length vc m) ∧ OwnL w.heap.size w' (.slice va m.length vc) m) ∧ Below w.heap.size w w'
theorem refSet_p {a1 : Option Addr} {len1 c1 : Nat} {l m : List Ln} {a : Lab} {n : Int} {k : Nat} (hr : len1 ≤ 1000) (hb : setGo a n (decide (n = 0)) l = m) (_hk : m.length = k) {w : World} (h1 : Lns w a1 len1 c1 l) :
    Calls Tryd.prog 41 #[.slice a1 len1 c1, .agg #[.int .i64 a.l, .int .u64 a.c, .int .i64 a.i], .int .i64 n] w (SetP m w) := by
  have := set_any a n a1 len1 c1 l hr w h1
  rw [show (n == 0) = decide (n = 0) from rfl, hb] at this
  refine this.mono ?_
  rintro e w' ⟨va, vc, he, hO, hbw⟩
  exact ⟨va, vc, he, ⟨fun hf => hO.lns rfl hf, hO⟩, hbw⟩

set_option maxRecDepth 100000 in
set_option maxHeartbeats 4000000 in
theorem refCharge_any (a : Lab) (ha : a.fits) (q n : Int) (ao : Option Addr) (len cap : Nat) (zs m : List Ln) (c : Int) (k : Nat) (hreach : len ≤ 900) (hm : chargeL zs q a n = (m, c)) (hk : m.length = k) (w : World) (hL : Lns w ao len cap zs) :
    Calls Tryd.prog 24 #[.slice ao len cap, .int .i64 q, .agg #[.int .i64 a.l, .int .u64 a.c, .int .i64 a.i], .int .i64 n] w (TellP m k c w) := by
  have hB0 := Below.new w (.cells #[.int .i64 a.l, .int .u64 a.c, .int .i64 a.i] 25)
  have hll := hL.hlen
  have hfz := hL.hfits
  have HFZ := Lib.hid hfz
  have HL := Lib.hid (And.intro (hL.more hB0) (And.intro hB0 (La3.new w a)))
  clear hL hB0 hfz
  cases hr : rightL zs with
  | false =>
    have h20 : chargeL zs q a n = ([], 20) := charge_20 (by rw [hr]; rfl)
    rw [h20] at hm
    obtain ⟨rfl, rfl⟩ := Prod.mk.inj hm
    obtain rfl : 0 = k := hk
    have HR := Lib.hid hr
    clear hr hm h20
    go_enter Tryd.func24, Tryd.ntmps24
    go_wp2_with (go_at_call 14; refine (refRightL_p (by omega) HR.out HL.out.1).mono ?_)
    rintro e w1 ⟨rfl, hb1⟩
    have HB1 := Lib.hid (below_more HL.out.2.1 hb1)
    clear hb1
    go_wp2
    refine bodyPost_ret (v := .tuple #[.slice none 0 0, .int .i64 20]) (by simp [results, Tryd.results24, go_sem]) rfl ?_
    exact ⟨none, 0, rfl, ⟨Lns.nil _, OwnL.nil _ _⟩, HB1.out⟩
  | true =>
    have HR := Lib.hid hr
    cases har : a.right with
    | false =>
      have h20 : chargeL zs q a n = ([], 20) := charge_20 (by rw [har, Bool.and_false])
      rw [h20] at hm
      obtain ⟨rfl, rfl⟩ := Prod.mk.inj hm
      obtain rfl : 0 = k := hk
      have HAR := Lib.hid har
      clear hr har hm h20
      go_enter Tryd.func24, Tryd.ntmps24
      go_wp2_with (go_at_call 14; refine (refRightL_p (by omega) HR.out HL.out.1).mono ?_)
      rintro e w1 ⟨rfl, hb1⟩
      have HB1 := Lib.hid (below_more HL.out.2.1 hb1)
      obtain ⟨a0, a1, a2⟩ := HL.out.2.2.more hb1
      clear hb1
      go_wp2_with (go_at_call 31; refine (refRightP a false HAR.out w1).mono ?_)
      rintro e w2 ⟨rfl, hb2⟩
      have HB2 := Lib.hid (below_more HB1.out hb2)
      clear hb2
      go_wp2
      refine bodyPost_ret (v := .tuple #[.slice none 0 0, .int .i64 20]) (by simp [results, Tryd.results24, go_sem]) rfl ?_
      exact ⟨none, 0, rfl, ⟨Lns.nil _, OwnL.nil _ _⟩, HB2.out⟩
    | true =>
      have HAR := Lib.hid har
      have hrr : (rightL zs && a.right) = true := by rw [hr, har]; rfl
      have hur := used_range hr a
      have hasc := ((rightL_iff zs).1 hr).2.2
      have E70 := Lib.hid (fun h => charge_70 (q := q) (n := n) hrr h)
      have E0 := Lib.hid (fun h => charge_0 (q := q) (n := n) hrr h)
      have hsw := fun u hu => setGo_with hasc a u hu
      obtain ⟨u, hu⟩ : ∃ u, usedL zs a = u := ⟨_, rfl⟩
      rw [hu] at hur E70 E0
      have HU := Lib.hid hu
      have HSW := Lib.hid hsw
      have HM := Lib.hid (And.intro hm hk)
      clear hr har hrr hasc hsw hu hm hk
      go_enter Tryd.func24, Tryd.ntmps24
      go_wp2_with (go_at_call 14; refine (refRightL_p (by omega) HR.out HL.out.1).mono ?_)
      rintro e w1 ⟨rfl, hb1⟩
      have HB1 := Lib.hid (below_more HL.out.2.1 hb1)
      have A1 := Lib.hid (HL.out.2.2.more hb1)
      have L1 := Lib.hid (HL.out.1.more hb1)
      clear hb1
      obtain ⟨a0, a1, a2⟩ := A1.out
      go_wp2_with (go_at_call 31; refine (refRightP a true HAR.out w1).mono ?_)
      rintro e w2 ⟨rfl, hb2⟩
      have HB2 := Lib.hid (below_more HB1.out hb2)
      have A2 := Lib.hid (A1.out.more hb2)
      have L2 := Lib.hid (L1.out.more hb2)
      clear hb2 a0 a1 a2
      obtain ⟨a0, a1, a2⟩ := A2.out
      by_cases q1 : q < 0
      · have _h0 := q1
        have hmm := HM.out.1
        rw [E70.out (by omega)] at hmm
        obtain ⟨rfl, rfl⟩ := Prod.mk.inj hmm
        obtain rfl : 0 = k := HM.out.2
        clear hmm
        go_wp2
        refine bodyPost_ret (v := .tuple #[.slice none 0 0, .int .i64 70]) (by simp [results, Tryd.results24, go_sem]) rfl ?_
        exact ⟨none, 0, rfl, ⟨Lns.nil _, OwnL.nil _ _⟩, HB2.out⟩
      · by_cases q2 : q > 100000
        · have _h0 := q2
          have hmm := HM.out.1
          rw [E70.out (by omega)] at hmm
          obtain ⟨rfl, rfl⟩ := Prod.mk.inj hmm
          obtain rfl : 0 = k := HM.out.2
          clear hmm
          go_wp2
          refine bodyPost_ret (v := .tuple #[.slice none 0 0, .int .i64 70]) (by simp [results, Tryd.results24, go_sem]) rfl ?_
          exact ⟨none, 0, rfl, ⟨Lns.nil _, OwnL.nil _ _⟩, HB2.out⟩
        · by_cases n1 : n < 0
          · have _h0 := n1
            have hmm := HM.out.1
            rw [E70.out (by omega)] at hmm
            obtain ⟨rfl, rfl⟩ := Prod.mk.inj hmm
            obtain rfl : 0 = k := HM.out.2
            clear hmm
            go_wp2
            refine bodyPost_ret (v := .tuple #[.slice none 0 0, .int .i64 70]) (by simp [results, Tryd.results24, go_sem]) rfl ?_
            exact ⟨none, 0, rfl, ⟨Lns.nil _, OwnL.nil _ _⟩, HB2.out⟩
          · have hw1 : IntKind.i64.wrap (q - u) = q - u := by rw [IntKind.wrap_i64]; omega
            have hw2 : wrap64 (q - u) = q - u := by unfold wrap64; omega
            go_wp2_with (go_at_call 16; refine (refUsed_p (by omega) HU.out L2.out).mono ?_)
            rintro e w3 ⟨rfl, hb3⟩
            have HB3 := Lib.hid (below_more HB2.out hb3)
            have A3 := Lib.hid (A2.out.more hb3)
            have L3 := Lib.hid (L2.out.more hb3)
            clear hb3 a0 a1 a2
            by_cases n2 : n > q - u
            · have _h0 := n2
              have hmm := HM.out.1
              rw [E70.out (by omega)] at hmm
              obtain ⟨rfl, rfl⟩ := Prod.mk.inj hmm
              obtain rfl : 0 = k := HM.out.2
              clear hmm
              go_wp2
              refine bodyPost_ret (v := .tuple #[.slice none 0 0, .int .i64 70]) (by simp [results, Tryd.results24, go_sem]) rfl ?_
              exact ⟨none, 0, rfl, ⟨Lns.nil _, OwnL.nil _ _⟩, HB3.out⟩
            · have _h0 := n2
              have HS := Lib.hid (HSW.out (u + n) (by omega))
              have hmm := HM.out.1
              rw [E0.out ⟨by omega, by omega, by omega, by omega, by omega⟩] at hmm
              obtain ⟨hm1, rfl⟩ := Prod.mk.inj hmm
              rw [hm1] at HS
              have hfm : ∀ x ∈ m, x.a.fits := hm1 ▸ with_fits _ HFZ.out ha
              have hlm : m.length ≤ 901 := by rw [← hm1]; have := length_with zs a (u + n); omega
              have HFM := Lib.hid hfm
              have hkk := HM.out.2
              clear hmm hm1 hfm
              have hw3 : IntKind.i64.wrap (u + n) = u + n := by rw [IntKind.wrap_i64]; omega
              have hw4 : wrap64 (u + n) = u + n := by unfold wrap64; omega
              go_wp2_with fail
              refine wp_region_held_drew (S := (fun w' => La3 w' w.heap.size a ∧ Below w3.heap.size w3 w')) (by kernel_rfl) (⟨A3.out, (Below.refl _ w3).drew⟩) (fun hS0 => ?_)
              refine wpAnyH_take (i := 0) (oi := { dst := some 38, op := Go.Op.move (Go.Operand.tmp 0), type := 22, pos := "ref.go:89", after := #[], guard := none }) (v := ?_) rfl (by kernel_rfl) (by kernel_rfl) (by kernel_rfl) (fun _ _ _ h => h) (Or.inl ⟨by rfl, ?_⟩) hS0 ?_; rotate_left; (· (intro wq hSw; obtain ⟨y00, y01, y02⟩ := hSw.1; go_simp; try with_reducible rfl))
              try simp only [Act.put, List.setIfInBounds_toArray, List.set_cons_zero, List.set_cons_succ]
              refine wpAnyH_take (i := 1) (oi := { dst := some 39, op := Go.Op.load 25 (Go.Operand.tmp 6), type := 25, pos := "ref.go:89", after := #[], guard := none }) (v := ?_) rfl (by kernel_rfl) (by kernel_rfl) (by kernel_rfl) (fun _ _ _ h => h) (Or.inl ⟨by rfl, ?_⟩) hS0 ?_; rotate_left; (· (intro wq hSw; obtain ⟨y00, y01, y02⟩ := hSw.1; go_simp; try with_reducible rfl))
              try simp only [Act.put, List.setIfInBounds_toArray, List.set_cons_zero, List.set_cons_succ]
              refine wpAnyH_take (i := 2) (oi := { dst := some 40, op := Go.Op.move (Go.Operand.tmp 0), type := 22, pos := "ref.go:89", after := #[], guard := none }) (v := ?_) rfl (by kernel_rfl) (by kernel_rfl) (by kernel_rfl) (fun _ _ _ h => h) (Or.inl ⟨by rfl, ?_⟩) hS0 ?_; rotate_left; (· (intro wq hSw; obtain ⟨y00, y01, y02⟩ := hSw.1; go_simp; try with_reducible rfl))
              try simp only [Act.put, List.setIfInBounds_toArray, List.set_cons_zero, List.set_cons_succ]
              refine wpAnyH_take (i := 3) (oi := { dst := some 41, op := Go.Op.load 25 (Go.Operand.tmp 6), type := 25, pos := "ref.go:89", after := #[], guard := none }) (v := ?_) rfl (by kernel_rfl) (by kernel_rfl) (by kernel_rfl) (fun _ _ _ h => h) (Or.inl ⟨by rfl, ?_⟩) hS0 ?_; rotate_left; (· (intro wq hSw; obtain ⟨y00, y01, y02⟩ := hSw.1; go_simp; try with_reducible rfl))
              try simp only [Act.put, List.setIfInBounds_toArray, List.set_cons_zero, List.set_cons_succ]
              refine wpAnyH_take (i := 5) (oi := { dst := some 43, op := Go.Op.move (Go.Operand.tmp 3), type := 3, pos := "ref.go:89", after := #[], guard := none }) (v := ?_) rfl (by kernel_rfl) (by kernel_rfl) (by kernel_rfl) (fun _ _ _ h => h) (Or.inl ⟨by rfl, ?_⟩) hS0 ?_; rotate_left; (· (intro wq hSw; obtain ⟨y00, y01, y02⟩ := hSw.1; go_simp; try with_reducible rfl))
              try simp only [Act.put, List.setIfInBounds_toArray, List.set_cons_zero, List.set_cons_succ]
              refine wpAnyH_ready (rs := [4]) (by kernel_rfl) (by simp) ?_
              refine AllReadyH.cons (o := { dst := some 42, op := Go.Op.call { callee := Go.Callee.value (Go.Operand.func 16), args := #[Go.Operand.tmp 40, Go.Operand.tmp 41], argTypes := #[22, 25] }, type := 3, pos := "ref.go:89", after := #[{ on := 2, ground := Go.Ground.data }, { on := 3, ground := Go.Ground.data }], guard := none }) rfl (fun K hK => ?_) AllReadyH.nil
              go_simp
              refine (refUsed_p (by omega) HU.out (L3.out.more hS0.2)).mono ?_
              rintro e wq1 ⟨he, hb⟩
              subst he
              have S1 := (And.intro (hS0.1.more hb) (below_more hS0.2 hb))
              refine hK.out _ _ S1 (fun hS1 => ?_)
              clear hK K hS0 hb S1
              try simp only [Act.put, List.setIfInBounds_toArray, List.set_cons_zero, List.set_cons_succ]
              refine wpAnyH_take (i := 6) (oi := { dst := some 44, op := Go.Op.binOp Go.BinOp.add 3 (Go.Operand.tmp 42) (Go.Operand.tmp 43) 3, type := 3, pos := "ref.go:89", after := #[{ on := 4, ground := Go.Ground.data }, { on := 5, ground := Go.Ground.data }], guard := none }) (v := ?_) rfl (by kernel_rfl) (by kernel_rfl) (by kernel_rfl) (fun _ _ _ h => h) (Or.inl ⟨by rfl, ?_⟩) hS1 ?_; rotate_left; (· (intro wq hSw; obtain ⟨y00, y01, y02⟩ := hSw.1; go_simp; try with_reducible rfl))
              try simp only [Act.put, List.setIfInBounds_toArray, List.set_cons_zero, List.set_cons_succ]
              refine wpAnyH_ready (rs := [7]) (by kernel_rfl) (by simp) ?_
              refine AllReadyH.cons (o := { dst := some 45, op := Go.Op.call { callee := Go.Callee.value (Go.Operand.func 41), args := #[Go.Operand.tmp 38, Go.Operand.tmp 39, Go.Operand.tmp 44], argTypes := #[22, 25, 3] }, type := 22, pos := "ref.go:89", after := #[{ on := 0, ground := Go.Ground.data }, { on := 1, ground := Go.Ground.data }, { on := 6, ground := Go.Ground.data }, { on := 4, ground := Go.Ground.chain }], guard := none }) rfl (fun K hK => ?_) AllReadyH.nil
              go_simp
              refine (refSet_p (by omega) HS.out rfl (L3.out.more hS1.2)).mono ?_
              rintro e wq2 ⟨va, vc, he, ⟨hl, ho⟩, hb⟩
              subst he
              have HN := Lib.hid (And.intro hl ho)
              have HSZ := Lib.hid (Nat.le_trans HB3.out.size hS1.2.size)
              clear hl ho
              have S2 := (And.intro (hS1.1.more hb) (below_more hS1.2 hb))
              refine hK.out _ _ S2 (fun hS2 => ?_)
              clear hK K hS1 hb S2
              try simp only [Act.put, List.setIfInBounds_toArray, List.set_cons_zero, List.set_cons_succ]
              refine wpAnyH_take (i := 8) (oi := { dst := some 10, op := Go.Op.assign (Go.Operand.tmp 45), type := 22, pos := "ref.go:89", after := #[{ on := 7, ground := Go.Ground.data }, { on := 7, ground := Go.Ground.chain }, { on := 0, ground := Go.Ground.phase }, { on := 1, ground := Go.Ground.phase }, { on := 2, ground := Go.Ground.phase }, { on := 3, ground := Go.Ground.phase }, { on := 4, ground := Go.Ground.phase }, { on := 5, ground := Go.Ground.phase }, { on := 6, ground := Go.Ground.phase }, { on := 7, ground := Go.Ground.phase }], guard := none }) (v := ?_) rfl (by kernel_rfl) (by kernel_rfl) (by kernel_rfl) (fun _ _ _ h => h) (Or.inl ⟨by rfl, ?_⟩) hS2 ?_; rotate_left; (· (intro wq hSw; obtain ⟨y00, y01, y02⟩ := hSw.1; go_simp; try with_reducible rfl))
              try simp only [Act.put, List.setIfInBounds_toArray, List.set_cons_zero, List.set_cons_succ]
              refine wpAnyH_done (by kernel_rfl) ?_ _
              have HBE := Lib.hid (below_more HB3.out hS2.2)
              clear hS2
              have hlk : m.length ≤ 1000 := by omega
              have hdl : decide (((m.length : Nat) : Int) > 1000) = false := decide_eq_false (by omega)
              go_wp2
              refine bodyPost_ret (v := .tuple #[.slice va k vc, .int .i64 0]) (by simp [results, Tryd.results24, go_sem]) rfl ?_
              refine ⟨va, vc, rfl, ⟨?_, ?_⟩, HBE.out⟩
              · rw [← hkk]; exact HN.out.1 HFM.out
              · rw [← hkk]; exact HN.out.2.mono HSZ.out

set_option maxRecDepth 100000 in
set_option maxHeartbeats 4000000 in
theorem refRefund_any (a : Lab) (ha : a.fits) (n : Int) (ao : Option Addr) (len cap : Nat) (zs m : List Ln) (c : Int) (k : Nat) (hreach : len ≤ 900) (hm : refundL zs a n = (m, c)) (hk : m.length = k) (w : World) (hL : Lns w ao len cap zs) :
    Calls Tryd.prog 26 #[.slice ao len cap, .agg #[.int .i64 a.l, .int .u64 a.c, .int .i64 a.i], .int .i64 n] w (TellP m k c w) := by
  have hB0 := Below.new w (.cells #[.int .i64 a.l, .int .u64 a.c, .int .i64 a.i] 25)
  have hll := hL.hlen
  have hfz := hL.hfits
  have HFZ := Lib.hid hfz
  have HL := Lib.hid (And.intro (hL.more hB0) (And.intro hB0 (La3.new w a)))
  clear hL hB0 hfz
  cases hr : rightL zs with
  | false =>
    have h20 : refundL zs a n = ([], 20) := refund_20 (by rw [hr]; rfl)
    rw [h20] at hm
    obtain ⟨rfl, rfl⟩ := Prod.mk.inj hm
    obtain rfl : 0 = k := hk
    have HR := Lib.hid hr
    clear hr hm h20
    go_enter Tryd.func26, Tryd.ntmps26
    go_wp2_with (go_at_call 14; refine (refRightL_p (by omega) HR.out HL.out.1).mono ?_)
    rintro e w1 ⟨rfl, hb1⟩
    have HB1 := Lib.hid (below_more HL.out.2.1 hb1)
    clear hb1
    go_wp2
    refine bodyPost_ret (v := .tuple #[.slice none 0 0, .int .i64 20]) (by simp [results, Tryd.results26, go_sem]) rfl ?_
    exact ⟨none, 0, rfl, ⟨Lns.nil _, OwnL.nil _ _⟩, HB1.out⟩
  | true =>
    have HR := Lib.hid hr
    cases har : a.right with
    | false =>
      have h20 : refundL zs a n = ([], 20) := refund_20 (by rw [har, Bool.and_false])
      rw [h20] at hm
      obtain ⟨rfl, rfl⟩ := Prod.mk.inj hm
      obtain rfl : 0 = k := hk
      have HAR := Lib.hid har
      clear hr har hm h20
      go_enter Tryd.func26, Tryd.ntmps26
      go_wp2_with (go_at_call 14; refine (refRightL_p (by omega) HR.out HL.out.1).mono ?_)
      rintro e w1 ⟨rfl, hb1⟩
      have HB1 := Lib.hid (below_more HL.out.2.1 hb1)
      obtain ⟨a0, a1, a2⟩ := HL.out.2.2.more hb1
      clear hb1
      go_wp2_with (go_at_call 31; refine (refRightP a false HAR.out w1).mono ?_)
      rintro e w2 ⟨rfl, hb2⟩
      have HB2 := Lib.hid (below_more HB1.out hb2)
      clear hb2
      go_wp2
      refine bodyPost_ret (v := .tuple #[.slice none 0 0, .int .i64 20]) (by simp [results, Tryd.results26, go_sem]) rfl ?_
      exact ⟨none, 0, rfl, ⟨Lns.nil _, OwnL.nil _ _⟩, HB2.out⟩
    | true =>
      have HAR := Lib.hid har
      have hrr : (rightL zs && a.right) = true := by rw [hr, har]; rfl
      have hur := used_range hr a
      have hasc := ((rightL_iff zs).1 hr).2.2
      have E70 := Lib.hid (fun h => refund_70 (n := n) hrr h)
      have E0 := Lib.hid (fun h => refund_0 (n := n) hrr h)
      have hsw := fun u hu => setGo_with hasc a u hu
      obtain ⟨u, hu⟩ : ∃ u, usedL zs a = u := ⟨_, rfl⟩
      rw [hu] at hur E70 E0
      have HU := Lib.hid hu
      have HSW := Lib.hid hsw
      have HM := Lib.hid (And.intro hm hk)
      clear hr har hrr hasc hsw hu hm hk
      go_enter Tryd.func26, Tryd.ntmps26
      go_wp2_with (go_at_call 14; refine (refRightL_p (by omega) HR.out HL.out.1).mono ?_)
      rintro e w1 ⟨rfl, hb1⟩
      have HB1 := Lib.hid (below_more HL.out.2.1 hb1)
      have A1 := Lib.hid (HL.out.2.2.more hb1)
      have L1 := Lib.hid (HL.out.1.more hb1)
      clear hb1
      obtain ⟨a0, a1, a2⟩ := A1.out
      go_wp2_with (go_at_call 31; refine (refRightP a true HAR.out w1).mono ?_)
      rintro e w2 ⟨rfl, hb2⟩
      have HB2 := Lib.hid (below_more HB1.out hb2)
      have A2 := Lib.hid (A1.out.more hb2)
      have L2 := Lib.hid (L1.out.more hb2)
      clear hb2 a0 a1 a2
      obtain ⟨a0, a1, a2⟩ := A2.out
      by_cases n1 : n < 0
      · have _h0 := n1
        have hmm := HM.out.1
        rw [E70.out (by omega)] at hmm
        obtain ⟨rfl, rfl⟩ := Prod.mk.inj hmm
        obtain rfl : 0 = k := HM.out.2
        clear hmm
        go_wp2
        refine bodyPost_ret (v := .tuple #[.slice none 0 0, .int .i64 70]) (by simp [results, Tryd.results26, go_sem]) rfl ?_
        exact ⟨none, 0, rfl, ⟨Lns.nil _, OwnL.nil _ _⟩, HB2.out⟩
      · have _h0 := n1
        go_wp2_with (go_at_call 16; refine (refUsed_p (by omega) HU.out L2.out).mono ?_)
        rintro e w3 ⟨rfl, hb3⟩
        have HB3 := Lib.hid (below_more HB2.out hb3)
        have A3 := Lib.hid (A2.out.more hb3)
        have L3 := Lib.hid (L2.out.more hb3)
        clear hb3 a0 a1 a2
        by_cases n2 : n > u
        · have _h0 := n2
          have hmm := HM.out.1
          rw [E70.out (by omega)] at hmm
          obtain ⟨rfl, rfl⟩ := Prod.mk.inj hmm
          obtain rfl : 0 = k := HM.out.2
          clear hmm
          go_wp2
          refine bodyPost_ret (v := .tuple #[.slice none 0 0, .int .i64 70]) (by simp [results, Tryd.results26, go_sem]) rfl ?_
          exact ⟨none, 0, rfl, ⟨Lns.nil _, OwnL.nil _ _⟩, HB3.out⟩
        · have _h0 := n2
          have HS := Lib.hid (HSW.out (u - n) (by omega))
          have hmm := HM.out.1
          rw [E0.out ⟨by omega, by omega⟩] at hmm
          obtain ⟨hm1, rfl⟩ := Prod.mk.inj hmm
          rw [hm1] at HS
          have hfm : ∀ x ∈ m, x.a.fits := hm1 ▸ with_fits _ HFZ.out ha
          have hlm : m.length ≤ 901 := by rw [← hm1]; have := length_with zs a (u - n); omega
          have HFM := Lib.hid hfm
          have hkk := HM.out.2
          clear hmm hm1 hfm
          have hw3 : IntKind.i64.wrap (u - n) = u - n := by rw [IntKind.wrap_i64]; omega
          have hw4 : wrap64 (u - n) = u - n := by unfold wrap64; omega
          go_wp2_with fail
          refine wp_region_held_drew (S := (fun w' => La3 w' w.heap.size a ∧ Below w3.heap.size w3 w')) (by kernel_rfl) (⟨A3.out, (Below.refl _ w3).drew⟩) (fun hS0 => ?_)
          refine wpAnyH_take (i := 0) (oi := { dst := some 25, op := Go.Op.move (Go.Operand.tmp 0), type := 22, pos := "ref.go:104", after := #[], guard := none }) (v := ?_) rfl (by kernel_rfl) (by kernel_rfl) (by kernel_rfl) (fun _ _ _ h => h) (Or.inl ⟨by rfl, ?_⟩) hS0 ?_; rotate_left; (· (intro wq hSw; obtain ⟨y00, y01, y02⟩ := hSw.1; go_simp; try with_reducible rfl))
          try simp only [Act.put, List.setIfInBounds_toArray, List.set_cons_zero, List.set_cons_succ]
          refine wpAnyH_take (i := 1) (oi := { dst := some 26, op := Go.Op.load 25 (Go.Operand.tmp 4), type := 25, pos := "ref.go:104", after := #[], guard := none }) (v := ?_) rfl (by kernel_rfl) (by kernel_rfl) (by kernel_rfl) (fun _ _ _ h => h) (Or.inl ⟨by rfl, ?_⟩) hS0 ?_; rotate_left; (· (intro wq hSw; obtain ⟨y00, y01, y02⟩ := hSw.1; go_simp; try with_reducible rfl))
          try simp only [Act.put, List.setIfInBounds_toArray, List.set_cons_zero, List.set_cons_succ]
          refine wpAnyH_take (i := 2) (oi := { dst := some 27, op := Go.Op.move (Go.Operand.tmp 0), type := 22, pos := "ref.go:104", after := #[], guard := none }) (v := ?_) rfl (by kernel_rfl) (by kernel_rfl) (by kernel_rfl) (fun _ _ _ h => h) (Or.inl ⟨by rfl, ?_⟩) hS0 ?_; rotate_left; (· (intro wq hSw; obtain ⟨y00, y01, y02⟩ := hSw.1; go_simp; try with_reducible rfl))
          try simp only [Act.put, List.setIfInBounds_toArray, List.set_cons_zero, List.set_cons_succ]
          refine wpAnyH_take (i := 3) (oi := { dst := some 28, op := Go.Op.load 25 (Go.Operand.tmp 4), type := 25, pos := "ref.go:104", after := #[], guard := none }) (v := ?_) rfl (by kernel_rfl) (by kernel_rfl) (by kernel_rfl) (fun _ _ _ h => h) (Or.inl ⟨by rfl, ?_⟩) hS0 ?_; rotate_left; (· (intro wq hSw; obtain ⟨y00, y01, y02⟩ := hSw.1; go_simp; try with_reducible rfl))
          try simp only [Act.put, List.setIfInBounds_toArray, List.set_cons_zero, List.set_cons_succ]
          refine wpAnyH_take (i := 5) (oi := { dst := some 30, op := Go.Op.move (Go.Operand.tmp 2), type := 3, pos := "ref.go:104", after := #[], guard := none }) (v := ?_) rfl (by kernel_rfl) (by kernel_rfl) (by kernel_rfl) (fun _ _ _ h => h) (Or.inl ⟨by rfl, ?_⟩) hS0 ?_; rotate_left; (· (intro wq hSw; obtain ⟨y00, y01, y02⟩ := hSw.1; go_simp; try with_reducible rfl))
          try simp only [Act.put, List.setIfInBounds_toArray, List.set_cons_zero, List.set_cons_succ]
          refine wpAnyH_ready (rs := [4]) (by kernel_rfl) (by simp) ?_
          refine AllReadyH.cons (o := { dst := some 29, op := Go.Op.call { callee := Go.Callee.value (Go.Operand.func 16), args := #[Go.Operand.tmp 27, Go.Operand.tmp 28], argTypes := #[22, 25] }, type := 3, pos := "ref.go:104", after := #[{ on := 2, ground := Go.Ground.data }, { on := 3, ground := Go.Ground.data }], guard := none }) rfl (fun K hK => ?_) AllReadyH.nil
          go_simp
          refine (refUsed_p (by omega) HU.out (L3.out.more hS0.2)).mono ?_
          rintro e wq1 ⟨he, hb⟩
          subst he
          have S1 := (And.intro (hS0.1.more hb) (below_more hS0.2 hb))
          refine hK.out _ _ S1 (fun hS1 => ?_)
          clear hK K hS0 hb S1
          try simp only [Act.put, List.setIfInBounds_toArray, List.set_cons_zero, List.set_cons_succ]
          refine wpAnyH_take (i := 6) (oi := { dst := some 31, op := Go.Op.binOp Go.BinOp.sub 3 (Go.Operand.tmp 29) (Go.Operand.tmp 30) 3, type := 3, pos := "ref.go:104", after := #[{ on := 4, ground := Go.Ground.data }, { on := 5, ground := Go.Ground.data }], guard := none }) (v := ?_) rfl (by kernel_rfl) (by kernel_rfl) (by kernel_rfl) (fun _ _ _ h => h) (Or.inl ⟨by rfl, ?_⟩) hS1 ?_; rotate_left; (· (intro wq hSw; obtain ⟨y00, y01, y02⟩ := hSw.1; go_simp; try with_reducible rfl))
          try simp only [Act.put, List.setIfInBounds_toArray, List.set_cons_zero, List.set_cons_succ]
          refine wpAnyH_ready (rs := [7]) (by kernel_rfl) (by simp) ?_
          refine AllReadyH.cons (o := { dst := some 32, op := Go.Op.call { callee := Go.Callee.value (Go.Operand.func 41), args := #[Go.Operand.tmp 25, Go.Operand.tmp 26, Go.Operand.tmp 31], argTypes := #[22, 25, 3] }, type := 22, pos := "ref.go:104", after := #[{ on := 0, ground := Go.Ground.data }, { on := 1, ground := Go.Ground.data }, { on := 6, ground := Go.Ground.data }, { on := 4, ground := Go.Ground.chain }], guard := none }) rfl (fun K hK => ?_) AllReadyH.nil
          go_simp
          refine (refSet_p (by omega) HS.out rfl (L3.out.more hS1.2)).mono ?_
          rintro e wq2 ⟨va, vc, he, ⟨hl, ho⟩, hb⟩
          subst he
          have HN := Lib.hid (And.intro hl ho)
          have HSZ := Lib.hid (Nat.le_trans HB3.out.size hS1.2.size)
          clear hl ho
          have S2 := (And.intro (hS1.1.more hb) (below_more hS1.2 hb))
          refine hK.out _ _ S2 (fun hS2 => ?_)
          clear hK K hS1 hb S2
          try simp only [Act.put, List.setIfInBounds_toArray, List.set_cons_zero, List.set_cons_succ]
          refine wpAnyH_take (i := 8) (oi := { dst := some 6, op := Go.Op.assign (Go.Operand.tmp 32), type := 22, pos := "ref.go:104", after := #[{ on := 7, ground := Go.Ground.data }, { on := 7, ground := Go.Ground.chain }, { on := 0, ground := Go.Ground.phase }, { on := 1, ground := Go.Ground.phase }, { on := 2, ground := Go.Ground.phase }, { on := 3, ground := Go.Ground.phase }, { on := 4, ground := Go.Ground.phase }, { on := 5, ground := Go.Ground.phase }, { on := 6, ground := Go.Ground.phase }, { on := 7, ground := Go.Ground.phase }], guard := none }) (v := ?_) rfl (by kernel_rfl) (by kernel_rfl) (by kernel_rfl) (fun _ _ _ h => h) (Or.inl ⟨by rfl, ?_⟩) hS2 ?_; rotate_left; (· (intro wq hSw; obtain ⟨y00, y01, y02⟩ := hSw.1; go_simp; try with_reducible rfl))
          try simp only [Act.put, List.setIfInBounds_toArray, List.set_cons_zero, List.set_cons_succ]
          refine wpAnyH_take (i := 9) (oi := { dst := some 7, op := Go.Op.assign (Go.Operand.const (Go.Value.int Go.IntKind.i64 0)), type := 34, pos := "ref.go:104", after := #[{ on := 8, ground := Go.Ground.chain }, { on := 0, ground := Go.Ground.phase }, { on := 1, ground := Go.Ground.phase }, { on := 2, ground := Go.Ground.phase }, { on := 3, ground := Go.Ground.phase }, { on := 4, ground := Go.Ground.phase }, { on := 5, ground := Go.Ground.phase }, { on := 6, ground := Go.Ground.phase }, { on := 7, ground := Go.Ground.phase }, { on := 8, ground := Go.Ground.phase }], guard := none }) (v := ?_) rfl (by kernel_rfl) (by kernel_rfl) (by kernel_rfl) (fun _ _ _ h => h) (Or.inl ⟨by rfl, ?_⟩) hS2 ?_; rotate_left; (· (intro wq hSw; obtain ⟨y00, y01, y02⟩ := hSw.1; go_simp; try with_reducible rfl))
          try simp only [Act.put, List.setIfInBounds_toArray, List.set_cons_zero, List.set_cons_succ]
          refine wpAnyH_done (by kernel_rfl) ?_ _
          have HBE := Lib.hid (below_more HB3.out hS2.2)
          clear hS2
          go_wp2
          refine bodyPost_ret (v := .tuple #[.slice va k vc, .int .i64 0]) (by simp [results, Tryd.results26, go_sem]) rfl ?_
          refine ⟨va, vc, rfl, ⟨?_, ?_⟩, HBE.out⟩
          · rw [← hkk]; exact HN.out.1 HFM.out
          · rw [← hkk]; exact HN.out.2.mono HSZ.out

end Go.Proofs.YtpaaeojojbdikaaDoor
