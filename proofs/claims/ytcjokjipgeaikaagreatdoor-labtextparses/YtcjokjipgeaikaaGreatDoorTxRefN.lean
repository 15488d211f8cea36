/- The document's reader: number. -/
import Derived.Test.YtcjokjipgeaikaaGreatDoorTxRefP
namespace Go.Proofs.YtcjokjipgeaikaaGreatDoor
open Go.RowKit Go.Shelf Go.Proofs.Fld Go.Proofs.Tx Go.Proofs.Cats

/-- What number tells, and leaves. -/
def RNPost (Q : Nat) (s : List UInt8) (x : Option Nat × List UInt8) (w : World) (e : Ending) (w' : World) : Prop :=
  ∃ n : Int, e = .returned (.int .i64 n) ∧ -1 ≤ n ∧ n ≤ 99 ∧ (∀ m, x.1 = some m → n = (m : Int)) ∧ Rr w' Q s x.2 x.1.isNone ∧ w.grownBy w' (some Q)

set_option maxRecDepth 100000 in
set_option maxHeartbeats 2000000 in
theorem refNum_bad (Q : Nat) (s r : List UInt8) (least most : Nat) (w : World) (h : Rr w Q s r true) :
    Calls Tryz.prog 15 #[.pointer (some ⟨Q, 0, none⟩), .int .i64 (least : Int), .int .i64 (most : Int)] w (RNPost Q s (none, r) w) := by
  have H := Lib.hid h
  have c2 := h.c2
  have f2 := h.fr 2
  have q : (-1 : Int) < (least : Int) := by omega
  clear h
  go_enter Tryz.func15, Tryz.ntmps15
  go_wp2
  go_loopw [7] (fun v wr => v = .int .i64 (-1) ∧ ∃ n, wr = w.drewN n) (fun _ _ => 0)
  case atStart => exact ⟨rfl, 0, rfl⟩
  case round =>
    obtain ⟨rfl, n, rfl⟩ := hrel
    go_wp2
    go_quiet (fail)
    go_wp2
    go_ret
    exact ⟨-1, rfl, by omega, by omega, (fun m h => by cases h), (H.out.more (below_drews w (n + nq))).bad, only_trans (only_of Q (below_drews w (n + nq))) (set_only _ _ _ _)⟩

/-- Between two digits: so many have been read, they make m. -/
def MidN (least most : Nat) (rest : List UInt8) (m cnt : Nat) (rest' : List UInt8) : Prop :=
  numGo least most 0 0 rest = numGo least most m cnt rest' ∧ (cnt = 0 → m = 0) ∧ m ≤ most
def nVal (m cnt : Nat) : Int := if cnt = 0 then -1 else (m : Int)
theorem nVal_succ (m cnt : Nat) : nVal m (cnt + 1) = (m : Int) := by
  unfold nVal
  rw [if_neg (by omega)]
theorem num_none {least most m cnt : Nat} {rest r : List UInt8} (h : numGo least most 0 0 rest = (m, cnt, r)) (hv : nVal m cnt < (least : Int)) : num least most rest = (none, r) := by
  unfold num
  rw [h]
  have e : numO least (m, cnt, r) = none := by
    unfold numO
    unfold nVal at hv
    split at hv
    · rw [if_pos (Or.inl ‹_›)]
    · rw [if_pos (Or.inr (by simp only; omega))]
  rw [e]
theorem num_some {least most m cnt : Nat} {rest r : List UInt8} (h : numGo least most 0 0 rest = (m, cnt, r)) (hv : ¬ nVal m cnt < (least : Int)) : num least most rest = (some m, r) ∧ nVal m cnt = (m : Int) := by
  unfold nVal at hv ⊢
  split at hv
  · omega
  · rename_i hc
    have e : numO least (m, cnt, r) = some m := by
      unfold numO
      rw [if_neg (fun h => by rcases h with h | h; exact hc h; simp only at h; omega)]
    unfold num
    rw [h, e]
    exact ⟨rfl, if_neg hc⟩
def leftAt (w : World) (Q : Nat) (s : List UInt8) : Nat := match w.cell? ⟨Q, 1, none⟩ with
  | some (.int _ p) => s.length - p.toNat
  | _ => 0
theorem leftAt_rr {w : World} {Q : Nat} {s r : List UInt8} {b : Bool} (h : Rr w Q s r b) : leftAt w Q s = s.length - (s.length - r.length) := by
  unfold leftAt
  rw [h.c1]
  simp
theorem goes_is {least most m cnt d : Nat} {b : UInt8} (hd : isD b = true ∧ b.toNat - 48 = d) : goes least most m cnt b = (!(decide (m = 0) && decide (0 < cnt)) && beg (10 * m + d) least most) := by
  unfold goes
  rw [hd.1, hd.2, Bool.true_and]

set_option maxRecDepth 100000 in
set_option maxHeartbeats 8000000 in
theorem refNum_ok (Q : Nat) (s rest : List UInt8) (least most : Nat) (hm : most ≤ 99) (hlm : least ≤ most) (hs : s.length ≤ 1000000) (he : EndOf s rest) (w : World) (h : Rr w Q s rest false) :
    Calls Tryz.prog 15 #[.pointer (some ⟨Q, 0, none⟩), .int .i64 (least : Int), .int .i64 (most : Int)] w (RNPost Q s (num least most rest) w) := by
  have H := Lib.hid h
  have HE0 := Lib.hid he
  have hbs := bs_size
  clear h he
  go_enter Tryz.func15, Tryz.ntmps15
  go_wp2
  go_loopw [7] (fun v wr => ∃ (m cnt : Nat) (rest' : List UInt8), MidN least most rest m cnt rest' ∧ v = .int .i64 (nVal m cnt) ∧ Rr wr Q s rest' false ∧ EndOf s rest' ∧ w.grownBy wr (some Q)) (fun _ wr => leftAt wr Q s)
  case atStart => exact ⟨0, 0, rest, ⟨rfl, fun _ => rfl, Nat.zero_le _⟩, rfl, H.out, HE0.out, World.grownBy.refl _ _⟩
  case round =>
    obtain ⟨m, cnt, rest', hmid, rfl, hr, hen, ho⟩ := hrel
    have hmm := hmid.2.2
    have HM := Lib.hid hmid
    have HR := Lib.hid hr
    have HO := Lib.hid ho
    have HEN := Lib.hid hen
    obtain ⟨v, hv⟩ : ∃ v, nVal m cnt = v := ⟨_, rfl⟩
    rw [hv]
    have hv1 : -1 ≤ v := by rw [← hv]; unfold nVal; split <;> omega
    have hv2 : v ≤ 99 := by rw [← hv]; unfold nVal; split <;> omega
    have HV := Lib.hid hv
    have c0 := hr.c0
    have c1 := hr.c1
    have c2 := hr.c2
    clear hmid hr ho hen hv
    cases rest' with
    | nil =>
      have e : (s.length - ([] : List UInt8).length : Nat) = s.length := by simp
      rw [e] at c1
      have hfin : numGo least most 0 0 rest = (m, cnt, []) := by rw [HM.out.1]; rfl
      clear e
      go_wp2
      go_quiet (fail)
      have HRW := Lib.hid (HR.out.more (below_drews wr nq))
      have HOW := Lib.hid (only_below HO.out (below_drews wr nq) HO.out.size)
      clear c0 c1 c2
      have c2 := HRW.out.c2
      have f2 := HRW.out.fr 2
      have HFIN := Lib.hid hfin
      clear hfin
      by_cases hlt : v < (least : Int)
      · have HX := Lib.hid (num_none HFIN.out (by rw [HV.out]; exact hlt))
        go_wp2
        go_ret
        refine ⟨v, rfl, hv1, hv2, ?_, ?_, ?_⟩
        · rw [HX.out]
          intro m h
          cases h
        · rw [HX.out]
          exact HRW.out.bad
        · exact only_trans HOW.out (set_only _ _ _ _)
      · have HX := Lib.hid (num_some HFIN.out (by rw [HV.out]; exact hlt))
        go_wp2
        go_ret
        refine ⟨v, rfl, hv1, hv2, ?_, ?_, HOW.out⟩
        · rw [HX.out.1]
          intro k h
          injection h with h
          subst h
          exact HV.out.symm.trans HX.out.2
        · rw [HX.out.1]
          exact HRW.out
    | cons b r =>
      have hix := str_at HEN.out
      have hl := HEN.out.len
      rw [List.length_cons] at hl
      obtain ⟨k, hk⟩ : ∃ k, s.length - (b :: r).length = k := ⟨_, rfl⟩
      rw [hk] at c1 hix
      have hklt : k < s.length := by rw [← hk, List.length_cons]; omega
      have hk2 : k + 1 = s.length - r.length := by rw [← hk, List.length_cons]; omega
      have HK := Lib.hid hk2
      clear hk2
      obtain ⟨bv, hbv⟩ : ∃ v, (b.toNat : Int) = v := ⟨_, rfl⟩
      rw [hbv] at hix
      by_cases hb1 : 48 ≤ b.toNat
      · by_cases hb2 : b.toNat ≤ 57
        · obtain ⟨d, hdn⟩ : ∃ d, b.toNat - 48 = d := ⟨_, rfl⟩
          have hd : isD b = true ∧ b.toNat - 48 = d := ⟨by unfold isD; simp [hb1, hb2], hdn⟩
          have hd9 : d ≤ 9 := by omega
          have hsub : IntKind.u8.wrap (bv - 48) = (d : Int) := by rw [IntKind.wrap_u8]; omega
          have q1 : decide (48 ≤ bv) = true := by rw [decide_eq_true_eq]; omega
          have q2 : decide (bv ≤ 57) = true := by rw [decide_eq_true_eq]; omega
          have HBV := Lib.hid hbv
          clear hbv
          by_cases hc : cnt = 0
          · skip
            have hm0 : m = 0 := HM.out.2.1 hc
            have hvv : v = -1 := by rw [← HV.out, hc]; rfl
            subst hvv
            have hgo : goes least most m cnt b = beg d least most := by rw [goes_is hd, hm0, hc]; simp
            cases hbg : beg d least most
            · have HBg := Lib.hid hbg
              have hfin : numGo least most 0 0 rest = (m, cnt, b :: r) := by
                rw [HM.out.1]
                unfold numGo
                rw [if_neg (by rw [hgo, hbg]; simp)]
              clear hbg hgo
              go_wp2
              go_quiet (fail)
              revert nq
              intro n1
              go_wp2
              go_quiet (fail)
              have HRW := Lib.hid (HR.out.more (below_drews wr (n1 + nq)))
              have HOW := Lib.hid (only_below HO.out (below_drews wr (n1 + nq)) HO.out.size)
              go_wp2_with fail
              refine (can_any d least most hm hlm (by omega) _).mono ?_
              rintro e w' ⟨he, rfl⟩
              rw [HBg.out] at he
              subst he
              clear hix c0 c1 c2
              have c2 := HRW.out.c2
              have f2 := HRW.out.fr 2
              have HFIN := Lib.hid hfin
              clear hfin
              have hlt : (-1 : Int) < (least : Int) := by omega
              have HX := Lib.hid (num_none HFIN.out (by rw [HV.out]; exact hlt))
              go_wp2
              go_ret
              refine ⟨(-1 : Int), rfl, hv1, hv2, ?_, ?_, ?_⟩
              · rw [HX.out]
                intro m h
                cases h
              · rw [HX.out]
                exact HRW.out.bad
              · exact only_trans HOW.out (set_only _ _ _ _)
            · have HBg := Lib.hid hbg
              have hml := beg_le hbg
              have hstep : MidN least most rest d (cnt + 1) r := by
                refine ⟨?_, by omega, hml⟩
                rw [HM.out.1]
                conv => lhs; unfold numGo
                rw [if_pos (by rw [hgo, hbg]), ← hdn]
                rw [hm0, Nat.mul_zero, Nat.zero_add]
              have HST := Lib.hid hstep
              clear hbg hgo hstep
              go_wp2
              go_quiet (fail)
              revert nq
              intro n1
              go_wp2
              go_quiet (fail)
              have HRW := Lib.hid (HR.out.more (below_drews wr (n1 + nq)))
              have HOW := Lib.hid (only_below HO.out (below_drews wr (n1 + nq)) HO.out.size)
              have k1 := HRW.out.c1
              rw [hk] at k1
              have g1 := HRW.out.fr 1
              go_wp2_with fail
              refine (can_any d least most hm hlm (by omega) _).mono ?_
              rintro e w' ⟨he, rfl⟩
              rw [HBg.out] at he
              subst he
              clear hix c0 c1 c2
              go_wp2
              go_roundw
              case rel =>
                refine ⟨d, cnt + 1, r, HST.out, by rw [nVal_succ]; try rfl, (HRW.out.step r ?_), HEN.out.tail, only_trans HOW.out (set_only _ _ _ _)⟩
                rw [← HK.out]
                omega
              case measure =>
                rw [leftAt_rr HR.out, leftAt_rr (HRW.out.step r (by rw [← HK.out]; omega))]
                simp
                have := HEN.out.len
                simp at this
                omega
          · by_cases hm0 : m = 0
            · skip
              have hvv : v = 0 := by rw [← HV.out, hm0]; unfold nVal; rw [if_neg hc]; rfl
              subst hvv
              have hfin : numGo least most 0 0 rest = (m, cnt, b :: r) := by
                rw [HM.out.1]
                unfold numGo
                rw [if_neg (by rw [goes_is hd, hm0]; simp; omega)]
              go_wp2
              go_quiet (fail)
              revert nq
              intro n1
              go_wp2
              go_quiet (fail)
              have HRW := Lib.hid (HR.out.more (below_drews wr (n1 + nq)))
              have HOW := Lib.hid (only_below HO.out (below_drews wr (n1 + nq)) HO.out.size)
              clear hix c0 c1 c2
              have c2 := HRW.out.c2
              have f2 := HRW.out.fr 2
              have HFIN := Lib.hid hfin
              clear hfin
              by_cases hlt : (0 : Int) < (least : Int)
              · have HX := Lib.hid (num_none HFIN.out (by rw [HV.out]; exact hlt))
                go_wp2
                go_ret
                refine ⟨(0 : Int), rfl, hv1, hv2, ?_, ?_, ?_⟩
                · rw [HX.out]
                  intro m h
                  cases h
                · rw [HX.out]
                  exact HRW.out.bad
                · exact only_trans HOW.out (set_only _ _ _ _)
              · have HX := Lib.hid (num_some HFIN.out (by rw [HV.out]; exact hlt))
                go_wp2
                go_ret
                refine ⟨(0 : Int), rfl, hv1, hv2, ?_, ?_, HOW.out⟩
                · rw [HX.out.1]
                  intro k h
                  injection h with h
                  subst h
                  exact HV.out.symm.trans HX.out.2
                · rw [HX.out.1]
                  exact HRW.out
            · skip
              have hvv : v = (m : Int) := by rw [← HV.out]; unfold nVal; rw [if_neg hc]
              subst hvv
              have q0 : ((m : Int) == 0) = false := by rw [beq_eq_false_iff_ne]; omega
              have hgo : goes least most m cnt b = beg (10 * m + d) least most := by rw [goes_is hd]; simp [hm0]
              cases hbg : beg (10 * m + d) least most
              · have HBg := Lib.hid hbg
                have hfin : numGo least most 0 0 rest = (m, cnt, b :: r) := by
                  rw [HM.out.1]
                  unfold numGo
                  rw [if_neg (by rw [hgo, hbg]; simp)]
                clear hbg hgo
                go_wp2
                go_quiet (fail)
                revert nq
                intro n1
                go_wp2
                go_quiet (fail)
                have HRW := Lib.hid (HR.out.more (below_drews wr (n1 + nq)))
                have HOW := Lib.hid (only_below HO.out (below_drews wr (n1 + nq)) HO.out.size)
                go_wp2_with fail
                rw [show (10 * (m : Int) + (d : Int)) = ((10 * m + d : Nat) : Int) by omega]
                refine (can_any (10 * m + d) least most hm hlm (by omega) _).mono ?_
                rintro e w' ⟨he, rfl⟩
                rw [HBg.out] at he
                subst he
                clear hix c0 c1 c2
                have c2 := HRW.out.c2
                have f2 := HRW.out.fr 2
                have HFIN := Lib.hid hfin
                clear hfin
                by_cases hlt : (m : Int) < (least : Int)
                · have HX := Lib.hid (num_none HFIN.out (by rw [HV.out]; exact hlt))
                  go_wp2
                  go_ret
                  refine ⟨(m : Int), rfl, hv1, hv2, ?_, ?_, ?_⟩
                  · rw [HX.out]
                    intro m h
                    cases h
                  · rw [HX.out]
                    exact HRW.out.bad
                  · exact only_trans HOW.out (set_only _ _ _ _)
                · have HX := Lib.hid (num_some HFIN.out (by rw [HV.out]; exact hlt))
                  go_wp2
                  go_ret
                  refine ⟨(m : Int), rfl, hv1, hv2, ?_, ?_, HOW.out⟩
                  · rw [HX.out.1]
                    intro k h
                    injection h with h
                    subst h
                    exact HV.out.symm.trans HX.out.2
                  · rw [HX.out.1]
                    exact HRW.out
              · have HBg := Lib.hid hbg
                have hml := beg_le hbg
                have hstep : MidN least most rest (10 * m + d) (cnt + 1) r := by
                  refine ⟨?_, by omega, hml⟩
                  rw [HM.out.1]
                  conv => lhs; unfold numGo
                  rw [if_pos (by rw [hgo, hbg]), ← hdn]
                have HST := Lib.hid hstep
                clear hbg hgo hstep
                go_wp2
                go_quiet (fail)
                revert nq
                intro n1
                go_wp2
                go_quiet (fail)
                have HRW := Lib.hid (HR.out.more (below_drews wr (n1 + nq)))
                have HOW := Lib.hid (only_below HO.out (below_drews wr (n1 + nq)) HO.out.size)
                have k1 := HRW.out.c1
                rw [hk] at k1
                have g1 := HRW.out.fr 1
                go_wp2_with fail
                rw [show (10 * (m : Int) + (d : Int)) = ((10 * m + d : Nat) : Int) by omega]
                refine (can_any (10 * m + d) least most hm hlm (by omega) _).mono ?_
                rintro e w' ⟨he, rfl⟩
                rw [HBg.out] at he
                subst he
                clear hix c0 c1 c2
                go_wp2
                go_roundw
                case rel =>
                  refine ⟨(10 * m + d), cnt + 1, r, HST.out, by rw [nVal_succ]; try rfl, (HRW.out.step r ?_), HEN.out.tail, only_trans HOW.out (set_only _ _ _ _)⟩
                  rw [← HK.out]
                  omega
                case measure =>
                  rw [leftAt_rr HR.out, leftAt_rr (HRW.out.step r (by rw [← HK.out]; omega))]
                  simp
                  have := HEN.out.len
                  simp at this
                  omega
        · have hfin : numGo least most 0 0 rest = (m, cnt, b :: r) := by
            rw [HM.out.1]
            exact numGo_noD (noD_of r (by unfold isD; simp [hb2]))
          have q1 : decide (48 ≤ bv) = true := by rw [decide_eq_true_eq]; omega
          have q2 : decide (bv ≤ 57) = false := by rw [decide_eq_false_iff_not]; omega
          clear hk hbv
          go_wp2
          go_quiet (fail)
          have HRW := Lib.hid (HR.out.more (below_drews wr nq))
          have HOW := Lib.hid (only_below HO.out (below_drews wr nq) HO.out.size)
          clear c0 c1 c2 hix
          have c2 := HRW.out.c2
          have f2 := HRW.out.fr 2
          have HFIN := Lib.hid hfin
          clear hfin
          by_cases hlt : v < (least : Int)
          · have HX := Lib.hid (num_none HFIN.out (by rw [HV.out]; exact hlt))
            go_wp2
            go_ret
            refine ⟨v, rfl, hv1, hv2, ?_, ?_, ?_⟩
            · rw [HX.out]
              intro m h
              cases h
            · rw [HX.out]
              exact HRW.out.bad
            · exact only_trans HOW.out (set_only _ _ _ _)
          · have HX := Lib.hid (num_some HFIN.out (by rw [HV.out]; exact hlt))
            go_wp2
            go_ret
            refine ⟨v, rfl, hv1, hv2, ?_, ?_, HOW.out⟩
            · rw [HX.out.1]
              intro k h
              injection h with h
              subst h
              exact HV.out.symm.trans HX.out.2
            · rw [HX.out.1]
              exact HRW.out
      · have hfin : numGo least most 0 0 rest = (m, cnt, b :: r) := by
          rw [HM.out.1]
          exact numGo_noD (noD_of r (by unfold isD; simp [hb1]))
        have q1 : decide (48 ≤ bv) = false := by rw [decide_eq_false_iff_not]; omega
        clear hk hbv
        go_wp2
        go_quiet (fail)
        have HRW := Lib.hid (HR.out.more (below_drews wr nq))
        have HOW := Lib.hid (only_below HO.out (below_drews wr nq) HO.out.size)
        clear c0 c1 c2 hix
        have c2 := HRW.out.c2
        have f2 := HRW.out.fr 2
        have HFIN := Lib.hid hfin
        clear hfin
        by_cases hlt : v < (least : Int)
        · have HX := Lib.hid (num_none HFIN.out (by rw [HV.out]; exact hlt))
          go_wp2
          go_ret
          refine ⟨v, rfl, hv1, hv2, ?_, ?_, ?_⟩
          · rw [HX.out]
            intro m h
            cases h
          · rw [HX.out]
            exact HRW.out.bad
          · exact only_trans HOW.out (set_only _ _ _ _)
        · have HX := Lib.hid (num_some HFIN.out (by rw [HV.out]; exact hlt))
          go_wp2
          go_ret
          refine ⟨v, rfl, hv1, hv2, ?_, ?_, HOW.out⟩
          · rw [HX.out.1]
            intro k h
            injection h with h
            subst h
            exact HV.out.symm.trans HX.out.2
          · rw [HX.out.1]
            exact HRW.out

end Go.Proofs.YtcjokjipgeaikaaGreatDoor

