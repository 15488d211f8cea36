/- create, place, drop; Make, Drop. -/
import Derived.Test.YtnbpfbmhheimbaaGreatDoorSpEdit
namespace Go.Proofs.YtnbpfbmhheimbaaGreatDoor
open Go.RowKit Go.Proofs.Fld Go.Proofs.Rng Go.Proofs.Spc Go.Shelf Go.Sort

theorem mem_withL {l os : List Ob} {s e : Nat} {x : Ob} (h : x ∈ withL l s e os) : x ∈ l ∨ x ∈ os := by
  unfold withL at h
  rcases List.mem_append.1 h with h | h
  · rcases List.mem_append.1 h with h | h
    · exact .inl (List.mem_of_mem_take h)
    · exact .inr h
  · exact .inl (List.mem_of_mem_drop h)
theorem bd_right {l : List Ob} (h : rightB l = true) : ∀ x ∈ l, Bd x := fun x hx => by
  obtain ⟨_, a, b, _, _, c, _⟩ := isB_bounds (goodF_mem (rightB_iff.1 h).2 x hx).1
  exact ⟨by omega, by omega, by omega⟩
theorem find_ge (l : List Ob) (n : It) : decide (findI l n ≥ 0) = !decide (findN l n = l.length) := by
  unfold findI
  by_cases h : findN l n = l.length
  · rw [if_pos h, decide_eq_true h]
    rfl
  · rw [if_neg h, decide_eq_false h]
    simp
theorem find_val {l : List Ob} {n : It} (h : findN l n ≠ l.length) : findI l n = (findN l n : Int) := by unfold findI; rw [if_neg h]
theorem find_neg {l : List Ob} {n : It} (h : findN l n = l.length) : findI l n = -1 := by unfold findI; rw [if_pos h]
/-- check, asked and found good or bad. -/
theorem check_good {s : Sn} {ao : Option Addr} {len cap : Nat} {zs : List Ov} (hr : rightB (obs zs) = true) (hreach : len ≤ 1000000) {w : World} (hs : Ev s w) (hbd : ∀ x ∈ zs, Bd x.o) (hL : Objs w ao len cap zs) : Calls Tryz.prog 45 #[.slice ao len cap] w (ValP .nilIface w) := by
  refine (check_any ao len cap zs hreach w hs hbd hL).mono ?_
  rintro e w' ⟨⟨_, rfl⟩ | ⟨h, _⟩, hb⟩
  · exact ⟨rfl, hb⟩
  · rw [hr] at h; cases h
def ErvP (c : Int) (w : World) (e : Ending) (w' : World) : Prop := ∃ t u, e = .returned (.iface t u) ∧ ErrV (.iface t u) c ∧ Below w.heap.size w w'
theorem check_bad {s : Sn} {ao : Option Addr} {len cap : Nat} {zs : List Ov} (hr : rightB (obs zs) = false) (hreach : len ≤ 1000000) {w : World} (hs : Ev s w) (hbd : ∀ x ∈ zs, Bd x.o) (hL : Objs w ao len cap zs) : Calls Tryz.prog 45 #[.slice ao len cap] w (ErvP 110 w) := by
  refine (check_any ao len cap zs hreach w hs hbd hL).mono ?_
  rintro e w' ⟨⟨h, rfl⟩ | ⟨h, v, rfl, hv⟩, hb⟩
  · rw [hr] at h; cases h
  · obtain ⟨t, u, rfl⟩ := hv.iface
    exact ⟨t, u, rfl, hv, hb⟩

set_option maxRecDepth 100000 in
set_option maxHeartbeats 4000000 in
theorem create_any {s : Sn} {r : Int × List Ob} {kr : Nat} {ao : Option Addr} {len cap : Nat} {nm : It} {q k m : Int} {zs : List Ov} (hr : mkR (obs zs) q nm k m = r) (hkr : r.2.length = kr) (hnm : nm.length ≤ 100000) (hreach : len ≤ 100000) (hbd : ∀ x ∈ zs, Bd x.o) {w : World} (hs : Ev s w) (hL : Objs w ao len cap zs) :
    Calls Tryz.prog 54 #[.agg #[.slice ao len cap, .string (bs nm), .int .i64 q], .int .i64 k, .int .i64 m] w (EdP r kr w) := by
  have hB := Below.new w (.cells #[.slice ao len cap, .string (bs nm), .int .i64 q] 73)
  have HE := Lib.hid (And.intro hB (And.intro (Ed.new w ao len cap nm q) (And.intro (hL.more hB) (And.intro (hs.more hB) hbd))))
  have HR := Lib.hid (And.intro hr hkr)
  have hlen := hL.hlen
  have HLN := Lib.hid hlen
  obtain ⟨e0, e1, e2⟩ := Ed.new w ao len cap nm q
  clear hL hB hs hbd hr hkr hlen
  cases h1 : rightB (obs zs) with
  | false =>
    have HX := Lib.hid (show r = (110, []) by rw [← HR.out.1]; unfold mkR; rw [if_pos h1])
    have HK := Lib.hid (show kr = 0 by rw [← HR.out.2, HX.out]; rfl)
    have HC := Lib.hid (check_bad h1 (by omega) HE.out.2.2.2.1 HE.out.2.2.2.2 HE.out.2.2.1)
    clear h1
    go_enter Tryz.func54, Tryz.ntmps54
    go_wp2_with (go_at_call 45; refine HC.out.mono ?_)
    rintro e w1 ⟨t, u, rfl, hv, hb1⟩
    have HF := Lib.hid (And.intro hv (below_more HE.out.1 hb1))
    clear hv hb1
    go_wp2
    refine bodyPost_ret (results_tmp2 rfl _ _ _) rfl ?_
    rw [HX.out, HK.out]
    exact edP_no HF.out.1.is HF.out.2
  | true =>
    have HC := Lib.hid (check_good h1 (by omega) HE.out.2.2.2.1 HE.out.2.2.2.2 HE.out.2.2.1)
    have H1 := Lib.hid h1
    clear h1
    cases h2 : nameB nm with
    | false =>
      have HX := Lib.hid (show r = (100, []) by rw [← HR.out.1]; unfold mkR; rw [if_neg (by simp [H1.out]), if_pos h2])
      have HK := Lib.hid (show kr = 0 by rw [← HR.out.2, HX.out]; rfl)
      have H2 := Lib.hid h2
      clear h2
      go_enter Tryz.func54, Tryz.ntmps54
      go_wp2_with (go_at_call 45; refine HC.out.mono ?_)
      rintro e w1 ⟨rfl, hb1⟩
      have B1 := Lib.hid (below_more HE.out.1 hb1)
      have E1 := Lib.hid (HE.out.2.1.more hb1)
      obtain ⟨f0, f1, f2⟩ := E1.out
      clear hb1 e0 e1 e2
      go_wp2_with (go_at_call 14; refine (isName_any nm (by omega) w1).mono ?_)
      rintro e w2 ⟨he, hb2⟩
      rw [H2.out] at he
      subst he
      have B2 := Lib.hid (below_more B1.out hb2)
      obtain ⟨g0, g1, g2⟩ := E1.out.more hb2
      clear hb2 f0 f1 f2
      go_wp2_with (go_at_call 87; refine (refuse_any ao len cap nm q 100 _ w2).mono ?_)
      rintro e w3 ⟨rfl, hb3⟩
      have B3 := Lib.hid (below_more B2.out hb3)
      clear hb3
      go_wp2
      refine bodyPost_ret (results_tmp2 rfl _ _ _) rfl ?_
      rw [HX.out, HK.out]
      exact edP_no (abt_is _ _ _) B3.out
    | true =>
      have H2 := Lib.hid h2
      clear h2
      by_cases h3 : k ≠ 1 ∧ k ≠ 2
      · have HX := Lib.hid (show r = (103, []) by rw [← HR.out.1]; unfold mkR; rw [if_neg (by simp [H1.out]), if_neg (by simp [H2.out]), if_pos h3])
        have HK := Lib.hid (show kr = 0 by rw [← HR.out.2, HX.out]; rfl)
        have q1 : (k == 1) = false := by rw [beq_eq_false_iff_ne]; exact h3.1
        have q2 : (k == 2) = false := by rw [beq_eq_false_iff_ne]; exact h3.2
        have q3 : ¬ k = 1 := h3.1
        have q4 : ¬ k = 2 := h3.2
        have q5 : (k != 1) = true := by rw [bne, q1]; rfl
        have q6 : (k != 2) = true := by rw [bne, q2]; rfl
        clear h3
        go_enter Tryz.func54, Tryz.ntmps54
        go_wp2_with (go_at_call 45; refine HC.out.mono ?_)
        rintro e w1 ⟨rfl, hb1⟩
        have B1 := Lib.hid (below_more HE.out.1 hb1)
        have E1 := Lib.hid (HE.out.2.1.more hb1)
        obtain ⟨f0, f1, f2⟩ := E1.out
        clear hb1 e0 e1 e2
        go_wp2_with (go_at_call 14; refine (isName_any nm (by omega) w1).mono ?_)
        rintro e w2 ⟨he, hb2⟩
        rw [H2.out] at he
        subst he
        have B2 := Lib.hid (below_more B1.out hb2)
        obtain ⟨g0, g1, g2⟩ := E1.out.more hb2
        clear hb2 f0 f1 f2
        go_wp2_with (go_at_call 87; refine (refuse_any ao len cap nm q 103 _ w2).mono ?_)
        rintro e w3 ⟨rfl, hb3⟩
        have B3 := Lib.hid (below_more B2.out hb3)
        clear hb3
        go_wp2
        refine bodyPost_ret (results_tmp2 rfl _ _ _) rfl ?_
        rw [HX.out, HK.out]
        exact edP_no (abt_is _ _ _) B3.out
      · have H3 := Lib.hid h3
        have q1 : (k != 1) = false ∨ ((k != 1) = true ∧ (k != 2) = false) := by
          by_cases hk : k = 1
          · exact .inl (by rw [bne, beq_iff_eq.2 hk]; rfl)
          · exact .inr ⟨by rw [bne, beq_eq_false_iff_ne.2 hk]; rfl, by rw [bne, beq_iff_eq.2 (show k = 2 by omega)]; rfl⟩
        clear h3
        cases h4 : decide (findN (obs zs) nm = (obs zs).length) with
        | false =>
          have h4' := of_decide_eq_false h4
          have HX := Lib.hid (show r = (101, []) by rw [← HR.out.1]; unfold mkR; rw [if_neg (by simp [H1.out]), if_neg (by simp [H2.out]), if_neg H3.out, if_pos h4'])
          have HK := Lib.hid (show kr = 0 by rw [← HR.out.2, HX.out]; rfl)
          have hge := find_ge (obs zs) nm
          rw [h4] at hge
          have hge2 : decide (findI (obs zs) nm ≥ 0) = true := hge
          clear h4 h4' hge
          rcases q1 with q1 | ⟨q1, q2⟩
          all_goals
            go_enter Tryz.func54, Tryz.ntmps54
            go_wp2_with (go_at_call 45; refine HC.out.mono ?_)
            rintro e w1 ⟨rfl, hb1⟩
            have B1 := Lib.hid (below_more HE.out.1 hb1)
            have E1 := Lib.hid (HE.out.2.1.more hb1)
            have L1 := Lib.hid (HE.out.2.2.1.more hb1)
            obtain ⟨f0, f1, f2⟩ := E1.out
            clear hb1 e0 e1 e2
            go_wp2_with (go_at_call 14; refine (isName_any nm (by omega) w1).mono ?_)
            rintro e w2 ⟨he, hb2⟩
            rw [H2.out] at he
            subst he
            have B2 := Lib.hid (below_more B1.out hb2)
            have E2 := Lib.hid (E1.out.more hb2)
            have L2 := Lib.hid (L1.out.more hb2)
            obtain ⟨g0, g1, g2⟩ := E2.out
            clear hb2 f0 f1 f2
            go_wp2_with (go_at_call 48; refine (find_any nm ao len cap zs (by omega) w2 L2.out).mono ?_)
            rintro e w3 ⟨rfl, hb3⟩
            have B3 := Lib.hid (below_more B2.out hb3)
            obtain ⟨f0, f1, f2⟩ := E2.out.more hb3
            clear hb3 g0 g1 g2
            go_wp2_with (go_at_call 87; refine (refuse_any ao len cap nm q 101 _ w3).mono ?_)
            rintro e w4 ⟨rfl, hb4⟩
            have B4 := Lib.hid (below_more B3.out hb4)
            clear hb4
            go_wp2
            refine bodyPost_ret (results_tmp2 rfl _ _ _) rfl ?_
            rw [HX.out, HK.out]
            exact edP_no (abt_is _ _ _) B4.out
        | true =>
          have H4 := Lib.hid (of_decide_eq_true h4)
          have hge := find_ge (obs zs) nm
          rw [h4] at hge
          have hge2 : decide (findI (obs zs) nm ≥ 0) = false := hge
          clear h4 hge
          by_cases h5 : (k = 1 ∧ m ≠ 0) ∨ m < 0 ∨ 2000 < m
          · have HX := Lib.hid (show r = (2, []) by rw [← HR.out.1]; unfold mkR; rw [if_neg (by simp [H1.out]), if_neg (by simp [H2.out]), if_neg H3.out, if_neg (by simp [H4.out]), if_pos h5])
            have HK := Lib.hid (show kr = 0 by rw [← HR.out.2, HX.out]; rfl)
            have H5 := Lib.hid (show emE k m = 2 by unfold emE; rw [if_pos h5])
            clear h5
            rcases q1 with q1 | ⟨q1, q2⟩
            all_goals
              go_enter Tryz.func54, Tryz.ntmps54
              go_wp2_with (go_at_call 45; refine HC.out.mono ?_)
              rintro e w1 ⟨rfl, hb1⟩
              have B1 := Lib.hid (below_more HE.out.1 hb1)
              have E1 := Lib.hid (HE.out.2.1.more hb1)
              have L1 := Lib.hid (HE.out.2.2.1.more hb1)
              have S1 := Lib.hid (HE.out.2.2.2.1.more hb1)
              obtain ⟨f0, f1, f2⟩ := E1.out
              clear hb1 e0 e1 e2
              go_wp2_with (go_at_call 14; refine (isName_any nm (by omega) w1).mono ?_)
              rintro e w2 ⟨he, hb2⟩
              rw [H2.out] at he
              subst he
              have B2 := Lib.hid (below_more B1.out hb2)
              have E2 := Lib.hid (E1.out.more hb2)
              have L2 := Lib.hid (L1.out.more hb2)
              have S2 := Lib.hid (S1.out.more hb2)
              obtain ⟨g0, g1, g2⟩ := E2.out
              clear hb2 f0 f1 f2
              go_wp2_with (go_at_call 48; refine (find_any nm ao len cap zs (by omega) w2 L2.out).mono ?_)
              rintro e w3 ⟨rfl, hb3⟩
              have B3 := Lib.hid (below_more B2.out hb3)
              have E3 := Lib.hid (E2.out.more hb3)
              have S3 := Lib.hid (S2.out.more hb3)
              clear hb3 g0 g1 g2
              go_wp2_with (go_at_call 88; refine (emptyRing_any k m w3 S3.out).mono ?_)
              rintro e w4 ⟨m', _, va, vc, rfl, ht, hb4⟩
              have hN := below_more hb4 (Below.new w4 (.cells #[.int .i64 m', .slice va 0 vc] 53))
              obtain ⟨f0, f1, f2⟩ := E3.out.more hN
              have B4 := Lib.hid (below_more B3.out hN)
              rw [H5.out]
              clear hb4 ht hN
              go_wp2_with (go_at_call 87; refine (refuse_any ao len cap nm q 2 _ _).mono ?_)
              rintro e w5 ⟨rfl, hb5⟩
              have B5 := Lib.hid (below_more B4.out hb5)
              clear hb5
              go_wp2
              refine bodyPost_ret (results_tmp2 rfl _ _ _) rfl ?_
              rw [HX.out, HK.out]
              exact edP_no (abt_is _ _ _) B5.out
          · have HX := Lib.hid (show chR (obs zs) q (befN (obs zs) nm) (befN (obs zs) nm) [newO nm k m] = r by rw [← HR.out.1]; unfold mkR; rw [if_neg (by simp [H1.out]), if_neg (by simp [H2.out]), if_neg H3.out, if_neg (by simp [H4.out]), if_neg h5])
            have H5 := Lib.hid (And.intro (show emE k m = 0 by unfold emE; rw [if_neg h5]) h5)
            have hbef := aheadN_le (fun o => !ltB o.n nm) (obs zs)
            rw [obs_length, HLN.out] at hbef
            have HBF := Lib.hid (show befN (obs zs) nm ≤ len from hbef)
            obtain ⟨bp, hbp⟩ : ∃ bp, befN (obs zs) nm = bp := ⟨_, rfl⟩
            have HBP := Lib.hid hbp
            rw [hbp] at HX HBF
            clear h5 hbef hbp
            rcases q1 with q1 | ⟨q1, q2⟩
            all_goals
              go_enter Tryz.func54, Tryz.ntmps54
              go_wp2_with (go_at_call 45; refine HC.out.mono ?_)
              rintro e w1 ⟨rfl, hb1⟩
              have B1 := Lib.hid (below_more HE.out.1 hb1)
              have E1 := Lib.hid (HE.out.2.1.more hb1)
              have L1 := Lib.hid (HE.out.2.2.1.more hb1)
              have S1 := Lib.hid (HE.out.2.2.2.1.more hb1)
              obtain ⟨f0, f1, f2⟩ := E1.out
              clear hb1 e0 e1 e2
              go_wp2_with (go_at_call 14; refine (isName_any nm (by omega) w1).mono ?_)
              rintro e w2 ⟨he, hb2⟩
              rw [H2.out] at he
              subst he
              have B2 := Lib.hid (below_more B1.out hb2)
              have E2 := Lib.hid (E1.out.more hb2)
              have L2 := Lib.hid (L1.out.more hb2)
              have S2 := Lib.hid (S1.out.more hb2)
              obtain ⟨g0, g1, g2⟩ := E2.out
              clear hb2 f0 f1 f2
              go_wp2_with (go_at_call 48; refine (find_any nm ao len cap zs (by omega) w2 L2.out).mono ?_)
              rintro e w3 ⟨rfl, hb3⟩
              have B3 := Lib.hid (below_more B2.out hb3)
              have E3 := Lib.hid (E2.out.more hb3)
              have L3 := Lib.hid (L2.out.more hb3)
              have S3 := Lib.hid (S2.out.more hb3)
              clear hb3 g0 g1 g2
              go_wp2_with (go_at_call 88; refine (emptyRing_any k m w3 S3.out).mono ?_)
              rintro e w4 ⟨m', hm', va, vc, rfl, ht, hb4⟩
              obtain rfl := hm' H5.out.1
              have hN := below_more hb4 (Below.new w4 (.cells #[.int .i64 m', .slice va 0 vc] 53))
              have hR4 := R2.new w4 (.int .i64 m') (.slice va 0 vc) 53
              obtain ⟨W4, hW4⟩ : ∃ W4, w4.alloc (.cells #[.int .i64 m', .slice va 0 vc] 53) = W4 := ⟨_, rfl⟩
              have ht4 := ht.more (Below.new w4 (.cells #[.int .i64 m', .slice va 0 vc] 53))
              rw [hW4] at hN hR4 ht4
              have E4 := Lib.hid (E3.out.more hN)
              have L4 := Lib.hid (L3.out.more hN)
              have B4 := Lib.hid (below_more B3.out hN)
              have T4 := Lib.hid (And.intro ht4 hR4)
              rw [H5.out.1]
              obtain ⟨f0, f1, f2⟩ := E4.out
              obtain ⟨r0, r1, _, _⟩ := T4.out.2
              clear hb4 ht hN hR4 ht4 hm'
              go_wp2_with (go_at_call 89; refine (before_any nm ao len cap zs (by omega) W4 L4.out).mono ?_)
              rintro e w5 ⟨rfl, hb5⟩
              rw [HBP.out]
              have E5 := Lib.hid (E4.out.more hb5)
              have B5 := Lib.hid (below_more B4.out hb5)
              have L5 := Lib.hid (L4.out.more hb5)
              have T5 := Lib.hid (And.intro (T4.out.1.more hb5) (T4.out.2.more hb5))
              obtain ⟨g0, g1, g2⟩ := E5.out
              obtain ⟨s0, s1, _, _⟩ := T5.out.2
              clear hb5 f0 f1 f2 r0 r1
              -- the new object, in a row of one
              have hp : Objs (w5.alloc (.cells #[.string (bs nm), .int .i64 k, .string (bs []), .int .i64 m', .slice va 0 vc] 55)) (some ⟨w5.heap.size, 0, none⟩) 1 1 [⟨newO nm k m', va, vc⟩] :=
                ⟨rfl, Nat.le_refl _, by unfold maxLen; omega, (fun h => by cases h), (fun x hx => by
                  obtain rfl : x = ⟨newO nm k m', va, vc⟩ := by simpa using hx
                  exact ⟨T5.out.1.more (Below.new _ _), by show nm.length ≤ _; omega, by show ([] : It).length ≤ _; simp⟩), fun _ => ⟨w5.heap.size, 0, rfl, fun j x hj => by
                    match j, hj with
                    | 0, hj =>
                      obtain rfl := Option.some.inj hj
                      exact ObAt.new w5 ⟨newO nm k m', va, vc⟩ _
                    | j + 1, hj => simp at hj⟩⟩
              have hN5 := Below.new w5 (.cells #[.string (bs nm), .int .i64 k, .string (bs []), .int .i64 m', .slice va 0 vc] 55)
              have HCH := Lib.hid (changed_any (nm := nm) (pv := .slice (some ⟨w5.heap.size, 0, none⟩) 1 1) (k := bp + 1 + (len - bp)) HX.out HR.out.2 hreach (by have := HBF.out; omega) (fun x hx => fair_right H1.out x.o (mem_obs hx)) (fun x hx => by
                rcases mem_withL hx with hx | hx
                · exact fair_right H1.out x hx
                · obtain rfl : x = newO nm k m' := by simpa using hx
                  exact ⟨by show nm.length ≤ _; have := (nameB_iff.1 H2.out).2.1; omega, by show ([] : It).length ≤ _; simp, by show 0 ≤ m'; have := H5.out.2; omega, by show m' ≤ _; have := H5.out.2; omega⟩) (L5.out.more hN5)
                (fun W hW => withO_one ⟨newO nm k m', va, vc⟩ ⟨w5.heap.size, 0, none⟩ bp bp ao len cap zs hreach HBF.out HBF.out HE.out.2.2.2.2 ⟨by show takes [] ≤ _; simp [takes], by show nm.length ≤ _; exact hnm, by show ([] : It).length ≤ _; simp⟩ W ((L5.out.more hN5).more hW) (hp.more hW)))
              have B6 := Lib.hid (below_more B5.out hN5)
              clear hp hN5
              go_wp2_with (go_at_call 90; refine HCH.out.mono ?_)
              rintro e w6 ⟨vs, ra, rc, v, rfl, hvs, hO, hv, hb6⟩
              have HF := Lib.hid (And.intro hvs (And.intro hO (And.intro hv (below_more B6.out hb6))))
              clear hvs hO hv hb6
              go_wp2
              refine bodyPost_ret (results_tmp2 rfl _ _ _) rfl ?_
              exact ⟨vs, ra, rc, v, rfl, HF.out.1, HF.out.2.1, HF.out.2.2.1, HF.out.2.2.2⟩

end Go.Proofs.YtnbpfbmhheimbaaGreatDoor
