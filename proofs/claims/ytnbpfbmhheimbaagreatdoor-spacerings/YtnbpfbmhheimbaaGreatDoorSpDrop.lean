/- place, drop; Make, Drop. -/
import Derived.Test.YtnbpfbmhheimbaaGreatDoorSpMake
namespace Go.Proofs.YtnbpfbmhheimbaaGreatDoor
open Go.RowKit Go.Proofs.Fld Go.Proofs.Rng Go.Proofs.Spc Go.Shelf Go.Sort

/-- A place is told, or an error. -/
def stC (l : List Ob) (n : It) : Int := if rightB l = false then 110 else if findN l n = l.length then 102 else 0
def PlP (c : Int) (p : Nat) (w : World) (e : Ending) (w' : World) : Prop := ((c = 0 ∧ e = .returned (.tuple #[.int .i64 (p : Int), .nilIface])) ∨ (c ≠ 0 ∧ ∃ t u, e = .returned (.tuple #[.int .i64 0, .iface t u]) ∧ Sp.ErrIs (.iface t u) c)) ∧ Below w.heap.size w w'
set_option maxRecDepth 100000 in
set_option maxHeartbeats 4000000 in
theorem place_any {s : Sn} {ao : Option Addr} {len cap : Nat} {nm : It} {q : Int} {zs : List Ov} (hreach : len ≤ 100000) (hbd : ∀ x ∈ zs, Bd x.o) {w : World} (hs : Ev s w) (hL : Objs w ao len cap zs) :
    Calls Tryz.prog 92 #[.agg #[.slice ao len cap, .string (bs nm), .int .i64 q]] w (PlP (stC (obs zs) nm) (findN (obs zs) nm) w) := by
  have hB := Below.new w (.cells #[.slice ao len cap, .string (bs nm), .int .i64 q] 73)
  have HE := Lib.hid (And.intro hB (And.intro (Ed.new w ao len cap nm q) (And.intro (hL.more hB) (And.intro (hs.more hB) hbd))))
  obtain ⟨e0, e1, e2⟩ := Ed.new w ao len cap nm q
  clear hL hB hs hbd
  cases h1 : rightB (obs zs) with
  | false =>
    have HX := Lib.hid (show stC (obs zs) nm = 110 by unfold stC; rw [if_pos h1])
    have HC := Lib.hid (check_bad h1 (by omega) HE.out.2.2.2.1 HE.out.2.2.2.2 HE.out.2.2.1)
    clear h1
    go_enter Tryz.func92, Tryz.ntmps92
    go_wp2_with (go_at_call 45; refine HC.out.mono ?_)
    rintro e w1 ⟨t, u, rfl, hv, hb1⟩
    have HF := Lib.hid (And.intro hv (below_more HE.out.1 hb1))
    clear hv hb1
    go_wp2
    refine bodyPost_ret (results_tmp2 rfl _ _ _) rfl ?_
    rw [HX.out]
    exact ⟨.inr ⟨by decide, _, _, rfl, HF.out.1.is⟩, HF.out.2⟩
  | true =>
    have HC := Lib.hid (check_good h1 (by omega) HE.out.2.2.2.1 HE.out.2.2.2.2 HE.out.2.2.1)
    have H1 := Lib.hid h1
    clear h1
    cases h4 : decide (findN (obs zs) nm = (obs zs).length) with
    | true =>
      have H4 := Lib.hid (of_decide_eq_true h4)
      have HX := Lib.hid (show stC (obs zs) nm = 102 by unfold stC; rw [if_neg (by simp [H1.out]), if_pos H4.out])
      have hfi := find_neg H4.out
      have HFI := Lib.hid hfi
      clear h4 hfi
      go_enter Tryz.func92, Tryz.ntmps92
      go_wp2_with (go_at_call 45; refine HC.out.mono ?_)
      rintro e w1 ⟨rfl, hb1⟩
      have B1 := Lib.hid (below_more HE.out.1 hb1)
      have E1 := Lib.hid (HE.out.2.1.more hb1)
      have L1 := Lib.hid (HE.out.2.2.1.more hb1)
      obtain ⟨f0, f1, f2⟩ := E1.out
      clear hb1 e0 e1 e2
      go_wp2_with (go_at_call 48; refine (find_any nm ao len cap zs (by omega) w1 L1.out).mono ?_)
      rintro e w2 ⟨rfl, hb2⟩
      rw [HFI.out]
      have B2 := Lib.hid (below_more B1.out hb2)
      obtain ⟨g0, g1, g2⟩ := E1.out.more hb2
      clear hb2 f0 f1 f2
      go_wp2_with (go_at_call 87; refine (refuse_any ao len cap nm q 102 _ w2).mono ?_)
      rintro e w3 ⟨rfl, hb3⟩
      have B3 := Lib.hid (below_more B2.out hb3)
      clear hb3
      go_wp2
      refine bodyPost_ret (results_tmp2 rfl _ _ _) rfl ?_
      rw [HX.out]
      exact ⟨.inr ⟨by decide, _, _, rfl, abt_is _ _ _⟩, B3.out⟩
    | false =>
      have H4 := Lib.hid (of_decide_eq_false h4)
      have HX := Lib.hid (show stC (obs zs) nm = 0 by unfold stC; rw [if_neg (by simp [H1.out]), if_neg H4.out])
      have hfi := find_val H4.out
      obtain ⟨p, hp⟩ : ∃ p, findN (obs zs) nm = p := ⟨_, rfl⟩
      rw [hp] at hfi ⊢
      have HFI := Lib.hid hfi
      have hd : decide ((p : Int) < 0) = false := decide_eq_false (by omega)
      have hd2 : ¬ (p : Int) < 0 := by omega
      clear h4 hfi hp
      go_enter Tryz.func92, Tryz.ntmps92
      go_wp2_with (go_at_call 45; refine HC.out.mono ?_)
      rintro e w1 ⟨rfl, hb1⟩
      have B1 := Lib.hid (below_more HE.out.1 hb1)
      have E1 := Lib.hid (HE.out.2.1.more hb1)
      have L1 := Lib.hid (HE.out.2.2.1.more hb1)
      obtain ⟨f0, f1, f2⟩ := E1.out
      clear hb1 e0 e1 e2
      go_wp2_with (go_at_call 48; refine (find_any nm ao len cap zs (by omega) w1 L1.out).mono ?_)
      rintro e w2 ⟨rfl, hb2⟩
      rw [HFI.out]
      have B2 := Lib.hid (below_more B1.out hb2)
      clear hb2 f0 f1 f2
      go_wp2
      refine bodyPost_ret (results_tmp2 rfl _ _ _) rfl ?_
      rw [HX.out]
      exact ⟨.inl ⟨rfl, rfl⟩, B2.out⟩

theorem drop_c {l : List Ob} {n : It} {c : Int} (h : stC l n = c) (hc : c ≠ 0) : dropR l n = (c, []) := by
  unfold stC at h
  unfold dropR
  by_cases h1 : rightB l = false
  · rw [if_pos h1] at h ⊢
    rw [h]
  · rw [if_neg h1] at h ⊢
    by_cases h2 : findN l n = l.length
    · rw [if_pos h2] at h ⊢
      rw [h]
    · rw [if_neg h2] at h
      exact absurd h.symm hc
theorem stC_zero {l : List Ob} {n : It} (h : stC l n = 0) : rightB l = true ∧ findN l n < l.length ∧ dropR l n = chR l 0 (findN l n) (findN l n + 1) [] := by
  unfold stC at h
  unfold dropR
  by_cases h1 : rightB l = false
  · rw [if_pos h1] at h
    cases h
  · rw [if_neg h1] at h ⊢
    by_cases h2 : findN l n = l.length
    · rw [if_pos h2] at h
      cases h
    · rw [if_neg h2]
      have := aheadN_le (fun o : Ob => o.n == n) l
      exact ⟨by simpa using h1, by unfold findN at *; omega, rfl⟩
set_option maxRecDepth 100000 in
set_option maxHeartbeats 4000000 in
theorem drop_any {s : Sn} {r : Int × List Ob} {kr : Nat} {ao : Option Addr} {len cap : Nat} {nm : It} {zs : List Ov} (hr : dropR (obs zs) nm = r) (hkr : r.2.length = kr) (hreach : len ≤ 100000) (hbd : ∀ x ∈ zs, Bd x.o) {w : World} (hs : Ev s w) (hL : Objs w ao len cap zs) :
    Calls Tryz.prog 57 #[.agg #[.slice ao len cap, .string (bs nm), .int .i64 0]] w (EdP r kr w) := by
  have hB := Below.new w (.cells #[.slice ao len cap, .string (bs nm), .int .i64 0] 73)
  have HE := Lib.hid (And.intro hB (And.intro (Ed.new w ao len cap nm 0) (And.intro (hL.more hB) (And.intro (hs.more hB) hbd))))
  have HR := Lib.hid (And.intro hr hkr)
  have HLN := Lib.hid hL.hlen
  have HP := Lib.hid (place_any (nm := nm) (q := 0) hreach hbd (hs.more hB) (hL.more hB))
  obtain ⟨c, hc⟩ : ∃ c, stC (obs zs) nm = c := ⟨_, rfl⟩
  obtain ⟨p, hp⟩ : ∃ p, findN (obs zs) nm = p := ⟨_, rfl⟩
  have HCP := Lib.hid (And.intro hc hp)
  rw [hc, hp] at HP
  obtain ⟨e0, e1, e2⟩ := Ed.new w ao len cap nm 0
  clear hL hB hs hbd hr hkr hc hp
  go_enter Tryz.func57, Tryz.ntmps57
  go_wp2_with (go_at_call 92; refine HP.out.mono ?_)
  rintro e w1 ⟨⟨rfl, rfl⟩ | ⟨hc, t, u, rfl, hv⟩, hb1⟩
  · obtain ⟨z1, z2, z3⟩ := stC_zero HCP.out.1
    rw [HCP.out.2] at z2 z3
    rw [obs_length, HLN.out] at z2
    have hw : IntKind.i64.wrap ((p : Int) + 1) = ((p + 1 : Nat) : Int) := by rw [IntKind.wrap_i64]; omega
    have B1 := Lib.hid (below_more HE.out.1 hb1)
    have L1 := Lib.hid (HE.out.2.2.1.more hb1)
    obtain ⟨f0, f1, f2⟩ := HE.out.2.1.more hb1
    have HCH := Lib.hid (changed_any (nm := nm) (q := 0) (s := p) (e := p + 1) (os := []) (pv := .slice none 0 0) (k := p + (len - (p + 1))) (show _ = r by rw [← HR.out.1, z3]) HR.out.2 hreach (by omega) (fun x hx => fair_right z1 x.o (mem_obs hx)) (fun x hx => by
      rcases mem_withL hx with hx | hx
      · exact fair_right z1 x hx
      · cases hx) L1.out (fun W hW => withO_none p (p + 1) ao len cap zs hreach (by omega) (by omega) HE.out.2.2.2.2 W (L1.out.more hW)))
    have HW := Lib.hid hw
    clear hb1 z1 z2 z3 e0 e1 e2
    go_wp2_with (go_at_call 90; refine HCH.out.mono ?_)
    rintro e w6 ⟨vs, ra, rc, v, rfl, hvs, hO, hv, hb6⟩
    have HF := Lib.hid (And.intro hvs (And.intro hO (And.intro hv (below_more B1.out hb6))))
    clear hvs hO hv hb6
    go_wp2
    refine bodyPost_ret (results_tmp2 rfl _ _ _) rfl ?_
    exact ⟨vs, ra, rc, v, rfl, HF.out.1, HF.out.2.1, HF.out.2.2.1, HF.out.2.2.2⟩
  · have HX := Lib.hid (show r = (c, []) by rw [← HR.out.1]; exact drop_c HCP.out.1 hc)
    have HK := Lib.hid (show kr = 0 by rw [← HR.out.2, HX.out]; rfl)
    have HF := Lib.hid (And.intro hv (below_more HE.out.1 hb1))
    clear hv hb1 hc
    go_wp2
    refine bodyPost_ret (results_tmp2 rfl _ _ _) rfl ?_
    rw [HX.out, HK.out]
    exact edP_no HF.out.1 HF.out.2

/-- Objects are told, and a number. -/
def ResP (r : Int × List Ob) (kr : Nat) (w : World) (e : Ending) (w' : World) : Prop := ∃ vs va vc, e = .returned (.tuple #[.slice va kr vc, .int .i64 r.1]) ∧ obs vs = r.2 ∧ Objs w' va kr vc vs ∧ Below w.heap.size w w'
set_option maxHeartbeats 2000000 in
theorem Make_s {s : Sn} {r : Int × List Ob} {kr : Nat} {ao : Option Addr} {len cap : Nat} {nm : It} {q k m : Int} {zs : List Ov} (hr : mkR (obs zs) q nm k m = r) (hkr : r.2.length = kr) (hnm : nm.length ≤ 100000) (hreach : len ≤ 100000) (hbd : ∀ x ∈ zs, Bd x.o) {w : World} (hs : Ev s w) (hL : Objs w ao len cap zs) :
    Calls Tryz.prog 28 #[.slice ao len cap, .int .i64 q, .string (bs nm), .int .i64 k, .int .i64 m] w (ResP r kr w) := by
  have HC := Lib.hid (create_any hr hkr hnm hreach hbd hs hL)
  have HS := Lib.hid hs
  clear hL hs hbd hr hkr
  go_enter Tryz.func28, Tryz.ntmps28
  go_wp2_with (go_at_call 54; refine HC.out.mono ?_)
  rintro e w1 ⟨vs, va, vc, v, rfl, hvs, hO, hv, hb1⟩
  have H1 := Lib.hid (And.intro hvs (And.intro hO (And.intro hv (And.intro hb1 (HS.out.more hb1)))))
  clear hvs hO hv hb1
  go_wp2_with (go_at_call 55; refine (Sp.told_any H1.out.2.2.1 w1 H1.out.2.2.2.2.sp).mono ?_)
  rintro e w2 ⟨rfl, hb2⟩
  have H2 := Lib.hid (And.intro (H1.out.2.1.more hb2) (below_more H1.out.2.2.2.1 hb2))
  clear hb2
  go_wp2
  refine bodyPost_ret (results_tmp2 rfl _ _ _) rfl ?_
  exact ⟨vs, va, vc, rfl, H1.out.1, H2.out.1, H2.out.2⟩
set_option maxHeartbeats 2000000 in
theorem Drop_s {s : Sn} {r : Int × List Ob} {kr : Nat} {ao : Option Addr} {len cap : Nat} {nm : It} {zs : List Ov} (hr : dropR (obs zs) nm = r) (hkr : r.2.length = kr) (hreach : len ≤ 100000) (hbd : ∀ x ∈ zs, Bd x.o) {w : World} (hs : Ev s w) (hL : Objs w ao len cap zs) :
    Calls Tryz.prog 30 #[.slice ao len cap, .string (bs nm)] w (ResP r kr w) := by
  have HC := Lib.hid (drop_any hr hkr hreach hbd hs hL)
  have HS := Lib.hid hs
  clear hL hs hbd hr hkr
  go_enter Tryz.func30, Tryz.ntmps30
  go_wp2_with (go_at_call 57; refine HC.out.mono ?_)
  rintro e w1 ⟨vs, va, vc, v, rfl, hvs, hO, hv, hb1⟩
  have H1 := Lib.hid (And.intro hvs (And.intro hO (And.intro hv (And.intro hb1 (HS.out.more hb1)))))
  clear hvs hO hv hb1
  go_wp2_with (go_at_call 55; refine (Sp.told_any H1.out.2.2.1 w1 H1.out.2.2.2.2.sp).mono ?_)
  rintro e w2 ⟨rfl, hb2⟩
  have H2 := Lib.hid (And.intro (H1.out.2.1.more hb2) (below_more H1.out.2.2.2.1 hb2))
  clear hb2
  go_wp2
  refine bodyPost_ret (results_tmp2 rfl _ _ _) rfl ?_
  exact ⟨vs, va, vc, rfl, H1.out.1, H2.out.1, H2.out.2⟩

end Go.Proofs.YtnbpfbmhheimbaaGreatDoor
