/- The document's Write, Cut, Read. -/
import Derived.Test.YtnbpfbmhheimbaaGreatDoorSpRefE
import Derived.Test.YtnbpfbmhheimbaaGreatDoorFlC
namespace Go.Proofs.YtnbpfbmhheimbaaGreatDoor
open Go.RowKit Go.Proofs.Fld Go.Proofs.Rng Go.Proofs.Spc Go.Shelf Go.Sort

theorem bound_file {r : Option It} {s : It} (h : ∀ s, r = some s → s.length ≤ 1000) (e : Fil.txt r = s) : s.length ≤ 100000 := by
  cases r with
  | none => subst e; exact Nat.zero_le _
  | some a => subst e; have := h a rfl; show a.length ≤ 100000; omega
theorem wr_bound {s t : It} {a : Int} : ∀ x, Fil.writeR s a t = some x → x.length ≤ 1000 := fun x h => by
  obtain ⟨k, rfl, hk, hs, hl, rfl⟩ := Fil.writeR_some h
  rw [List.length_append, List.length_append, List.length_take, List.length_drop]
  omega
theorem cu_bound {s : It} {n : Int} : ∀ x, Fil.cutR s n = some x → x.length ≤ 1000 := fun x h => by
  obtain ⟨m, _, h1, _, _, h2⟩ := Fil.cutR_some h
  omega
section
variable {w : World} {ao : Option Addr} {k0 cap : Nat} {zs : List Ov} {l : List Ob} {c : Int}

set_option maxRecDepth 100000 in
set_option maxHeartbeats 4000000 in
theorem RWrite_w {nm t : It} {q at' : Int} {a : List Ob} {kr : Nat} (htl : t.length ≤ 1000000) (hr : wrR l q nm at' t = (c, a)) (hkr : a.length = kr) (hL : SO w ao k0 cap zs l) :
    Calls Tryz.prog 34 #[.slice ao k0 cap, .int .i64 q, .string (bs nm), .int .i64 at', .string (bs t)] w (ResS c a kr w) := by
  have L := Lib.hid hL
  have B := Lib.hid (Below.refl w.heap.size w)
  rcases place_or l nm 1 with ⟨h0, hi⟩ | ⟨h0, h1, o, h2, h3, h4⟩
  · replace hr : chgR l q nm 1 (wrF at' t) = (c, a) := hr
    rw [chg_place _ h0] at hr
    obtain ⟨hr1, rfl⟩ := Prod.mk.inj hr
    obtain rfl : kr = 0 := hkr.symm
    have H := Lib.hid (And.intro hr1 hi)
    have hq : (c != 0) = true := by rw [← hr1]; simp [h0]
    clear hr hr1 hi hL h0 hkr
    go_enter Tryz.func34, Tryz.ntmps34
    go_wp2_with (go_at_call 61; refine (RPl_w H.out.1 H.out.2 L.out).mono ?_)
    rintro e w1 ⟨rfl, hb⟩
    replace B := Lib.hid (below_more B.out hb)
    clear hb
    go_wp2
    refine bodyPost_ret (results_tmp2 rfl _ _ _) rfl ?_
    exact ⟨[], none, 0, rfl, SO.nil _, B.out⟩
  · obtain ⟨i, hi⟩ : ∃ i, placeI l nm 1 = i := ⟨_, rfl⟩
    have hil : i < k0 := by rw [← hL.len, ← hi]; exact (List.getElem?_eq_some_iff.1 h4).1
    obtain ⟨r, hfr⟩ : ∃ r, Fil.writeR o.d at' t = r := ⟨_, rfl⟩
    obtain ⟨t1, ht1⟩ : ∃ t1, Fil.txt r = t1 := ⟨_, rfl⟩
    obtain ⟨c1, hc1⟩ : ∃ c1, Fil.errR r = c1 := ⟨_, rfl⟩
    have hf : (wrF at' t) o = (c1, ⟨o.n, o.k, t1, o.m, o.l⟩) := by
      show filF _ _ = _
      rw [fil_eq, hfr, ht1, hc1]
    have hb1 := bound_file (hfr ▸ wr_bound) ht1
    replace hr : chgR l q nm 1 (wrF at' t) = (c, a) := hr
    have H := Lib.hid (And.intro h0 (And.intro hi (And.intro (hi ▸ h4 : l[i]? = some o) (And.intro hfr (And.intro ht1 (And.intro hc1 hb1))))))
    by_cases hz : c1 = 0
    · rw [chg_data (keep_wr at' t) h0 h1 h2 h3 (by rw [hf]; exact hz), hf, hi] at hr
      have HR := Lib.hid (And.intro hr hkr)
      subst hz
      clear hr hkr h0 h1 h2 h3 h4 hi hf hL hfr ht1 hc1 hb1
      go_enter Tryz.func34, Tryz.ntmps34
      go_wp2_with (go_at_call 61; refine (RPl_w H.out.1 H.out.2.1 L.out).mono ?_)
      rintro e w1 ⟨rfl, hb⟩
      replace B := Lib.hid (below_more B.out hb)
      replace L := Lib.hid (L.out.more hb)
      clear hb
      obtain ⟨b, off, x, rfl, hx, _, hc⟩ := L.out.cell H.out.2.2.1
      obtain ⟨_, _, q2, _, _⟩ := hc
      rw [hx] at q2
      clear hx
      go_wp2_with (go_at_call 62; refine (Fi.refWrite_p H.out.2.2.2.1 H.out.2.2.2.2.1 H.out.2.2.2.2.2.1 htl).mono ?_)
      rintro e w2 ⟨rfl, hb⟩
      replace B := Lib.hid (below_more B.out hb)
      replace L := Lib.hid (L.out.more hb)
      clear hb q2
      go_wp2_with (go_at_call 63; refine (RData_w H.out.2.2.1 H.out.2.2.2.2.2.2 HR.out.1 HR.out.2 L.out).mono ?_)
      rintro e w3 ⟨vs, va, vc, rfl, hA, hb⟩
      have HF := Lib.hid (And.intro hA (below_more B.out hb))
      clear hA hb
      go_wp2
      refine bodyPost_ret (results_tmp2 rfl _ _ _) rfl ?_
      exact ⟨vs, va, vc, rfl, HF.out.1, HF.out.2⟩
    · rw [chg_fail _ h1 h2 h3 (by rw [hf]; exact hz), hf] at hr
      obtain ⟨hr1, rfl⟩ := Prod.mk.inj hr
      replace hr1 : c1 = c := hr1
      subst hr1
      obtain rfl : kr = 0 := hkr.symm
      have hq : (c1 != 0) = true := by simp [hz]
      clear hr hkr h0 h1 h2 h3 h4 hi hf hL hfr ht1 hc1 hb1 hz
      go_enter Tryz.func34, Tryz.ntmps34
      go_wp2_with (go_at_call 61; refine (RPl_w H.out.1 H.out.2.1 L.out).mono ?_)
      rintro e w1 ⟨rfl, hb⟩
      replace B := Lib.hid (below_more B.out hb)
      replace L := Lib.hid (L.out.more hb)
      clear hb
      obtain ⟨b, off, x, rfl, hx, _, hc⟩ := L.out.cell H.out.2.2.1
      obtain ⟨_, _, q2, _, _⟩ := hc
      rw [hx] at q2
      clear hx
      go_wp2_with (go_at_call 62; refine (Fi.refWrite_p H.out.2.2.2.1 H.out.2.2.2.2.1 H.out.2.2.2.2.2.1 htl).mono ?_)
      rintro e w2 ⟨rfl, hb⟩
      replace B := Lib.hid (below_more B.out hb)
      clear hb q2
      go_wp2
      refine bodyPost_ret (results_tmp2 rfl _ _ _) rfl ?_
      exact ⟨[], none, 0, rfl, SO.nil _, B.out⟩

set_option maxRecDepth 100000 in
set_option maxHeartbeats 4000000 in
theorem RCut_w {nm : It} {q n : Int} {a : List Ob} {kr : Nat} (hr : cuR l q nm n = (c, a)) (hkr : a.length = kr) (hL : SO w ao k0 cap zs l) :
    Calls Tryz.prog 38 #[.slice ao k0 cap, .int .i64 q, .string (bs nm), .int .i64 n] w (ResS c a kr w) := by
  have L := Lib.hid hL
  have B := Lib.hid (Below.refl w.heap.size w)
  rcases place_or l nm 1 with ⟨h0, hi⟩ | ⟨h0, h1, o, h2, h3, h4⟩
  · replace hr : chgR l q nm 1 (cutF n) = (c, a) := hr
    rw [chg_place _ h0] at hr
    obtain ⟨hr1, rfl⟩ := Prod.mk.inj hr
    obtain rfl : kr = 0 := hkr.symm
    have H := Lib.hid (And.intro hr1 hi)
    have hq : (c != 0) = true := by rw [← hr1]; simp [h0]
    clear hr hr1 hi hL h0 hkr
    go_enter Tryz.func38, Tryz.ntmps38
    go_wp2_with (go_at_call 61; refine (RPl_w H.out.1 H.out.2 L.out).mono ?_)
    rintro e w1 ⟨rfl, hb⟩
    replace B := Lib.hid (below_more B.out hb)
    clear hb
    go_wp2
    refine bodyPost_ret (results_tmp2 rfl _ _ _) rfl ?_
    exact ⟨[], none, 0, rfl, SO.nil _, B.out⟩
  · obtain ⟨i, hi⟩ : ∃ i, placeI l nm 1 = i := ⟨_, rfl⟩
    have hil : i < k0 := by rw [← hL.len, ← hi]; exact (List.getElem?_eq_some_iff.1 h4).1
    obtain ⟨r, hfr⟩ : ∃ r, Fil.cutR o.d n = r := ⟨_, rfl⟩
    obtain ⟨t1, ht1⟩ : ∃ t1, Fil.txt r = t1 := ⟨_, rfl⟩
    obtain ⟨c1, hc1⟩ : ∃ c1, Fil.errR r = c1 := ⟨_, rfl⟩
    have hf : (cutF n) o = (c1, ⟨o.n, o.k, t1, o.m, o.l⟩) := by
      show filF _ _ = _
      rw [fil_eq, hfr, ht1, hc1]
    have hb1 := bound_file (hfr ▸ cu_bound) ht1
    replace hr : chgR l q nm 1 (cutF n) = (c, a) := hr
    have H := Lib.hid (And.intro h0 (And.intro hi (And.intro (hi ▸ h4 : l[i]? = some o) (And.intro hfr (And.intro ht1 (And.intro hc1 hb1))))))
    by_cases hz : c1 = 0
    · rw [chg_data (keep_cut n) h0 h1 h2 h3 (by rw [hf]; exact hz), hf, hi] at hr
      have HR := Lib.hid (And.intro hr hkr)
      subst hz
      clear hr hkr h0 h1 h2 h3 h4 hi hf hL hfr ht1 hc1 hb1
      go_enter Tryz.func38, Tryz.ntmps38
      go_wp2_with (go_at_call 61; refine (RPl_w H.out.1 H.out.2.1 L.out).mono ?_)
      rintro e w1 ⟨rfl, hb⟩
      replace B := Lib.hid (below_more B.out hb)
      replace L := Lib.hid (L.out.more hb)
      clear hb
      obtain ⟨b, off, x, rfl, hx, _, hc⟩ := L.out.cell H.out.2.2.1
      obtain ⟨_, _, q2, _, _⟩ := hc
      rw [hx] at q2
      clear hx
      go_wp2_with (go_at_call 70; refine (Fi.refCut_p H.out.2.2.2.1 H.out.2.2.2.2.1 H.out.2.2.2.2.2.1).mono ?_)
      rintro e w2 ⟨rfl, hb⟩
      replace B := Lib.hid (below_more B.out hb)
      replace L := Lib.hid (L.out.more hb)
      clear hb q2
      go_wp2_with (go_at_call 63; refine (RData_w H.out.2.2.1 H.out.2.2.2.2.2.2 HR.out.1 HR.out.2 L.out).mono ?_)
      rintro e w3 ⟨vs, va, vc, rfl, hA, hb⟩
      have HF := Lib.hid (And.intro hA (below_more B.out hb))
      clear hA hb
      go_wp2
      refine bodyPost_ret (results_tmp2 rfl _ _ _) rfl ?_
      exact ⟨vs, va, vc, rfl, HF.out.1, HF.out.2⟩
    · rw [chg_fail _ h1 h2 h3 (by rw [hf]; exact hz), hf] at hr
      obtain ⟨hr1, rfl⟩ := Prod.mk.inj hr
      replace hr1 : c1 = c := hr1
      subst hr1
      obtain rfl : kr = 0 := hkr.symm
      have hq : (c1 != 0) = true := by simp [hz]
      clear hr hkr h0 h1 h2 h3 h4 hi hf hL hfr ht1 hc1 hb1 hz
      go_enter Tryz.func38, Tryz.ntmps38
      go_wp2_with (go_at_call 61; refine (RPl_w H.out.1 H.out.2.1 L.out).mono ?_)
      rintro e w1 ⟨rfl, hb⟩
      replace B := Lib.hid (below_more B.out hb)
      replace L := Lib.hid (L.out.more hb)
      clear hb
      obtain ⟨b, off, x, rfl, hx, _, hc⟩ := L.out.cell H.out.2.2.1
      obtain ⟨_, _, q2, _, _⟩ := hc
      rw [hx] at q2
      clear hx
      go_wp2_with (go_at_call 70; refine (Fi.refCut_p H.out.2.2.2.1 H.out.2.2.2.2.1 H.out.2.2.2.2.2.1).mono ?_)
      rintro e w2 ⟨rfl, hb⟩
      replace B := Lib.hid (below_more B.out hb)
      clear hb q2
      go_wp2
      refine bodyPost_ret (results_tmp2 rfl _ _ _) rfl ?_
      exact ⟨[], none, 0, rfl, SO.nil _, B.out⟩

set_option maxRecDepth 100000 in
set_option maxHeartbeats 4000000 in
theorem RRead_w {nm it : It} {at' n : Int} (hit : rdX l nm at' n = it) (hc : rdE l nm at' n = c) (hL : SO w ao k0 cap zs l) :
    Calls Tryz.prog 36 #[.slice ao k0 cap, .string (bs nm), .int .i64 at', .int .i64 n] w (ResB it c w) := by
  have L := Lib.hid hL
  have B := Lib.hid (Below.refl w.heap.size w)
  replace hit : seenR l nm 1 [] (fun o => (Fil.readR o.d at' n).getD []) = it := hit
  replace hc : (doneR l nm 1 (rdF at' n)).1 = c := hc
  rcases place_or l nm 1 with ⟨h0, hi⟩ | ⟨h0, h1, o, h2, h3, h4⟩
  · rw [done_place _ h0] at hc
    rw [seen_place _ h0] at hit
    subst hit
    have H := Lib.hid (And.intro hc hi)
    have hq : (c != 0) = true := by rw [← hc]; simp [h0]
    clear hc hi hL h0
    go_enter Tryz.func36, Tryz.ntmps36
    go_wp2_with (go_at_call 61; refine (RPl_w H.out.1 H.out.2 L.out).mono ?_)
    rintro e w1 ⟨rfl, hb⟩
    replace B := Lib.hid (below_more B.out hb)
    clear hb
    go_wp2
    refine bodyPost_ret (results_tmp2 rfl _ _ _) rfl ?_
    exact ⟨rfl, B.out⟩
  · obtain ⟨i, hi⟩ : ∃ i, placeI l nm 1 = i := ⟨_, rfl⟩
    have hil : i < k0 := by rw [← hL.len, ← hi]; exact (List.getElem?_eq_some_iff.1 h4).1
    rw [done_there _ h1 h2 h3] at hc
    rw [seen_there _ h1 h2 h3] at hit
    obtain ⟨r, hfr⟩ : ∃ r, Fil.readR o.d at' n = r := ⟨_, rfl⟩
    have ht1 : Fil.txt r = it := by rw [← hit, hfr]; rfl
    have hc1 : Fil.errR r = c := by
      rw [← hc]
      show _ = (rdF at' n o).1
      unfold rdF
      rw [hfr]
      cases r <;> rfl
    have H := Lib.hid (And.intro h0 (And.intro hi (And.intro (hi ▸ h4 : l[i]? = some o) (And.intro hfr (And.intro ht1 hc1)))))
    clear hc hit h0 h1 h2 h3 h4 hi hL hfr ht1 hc1
    go_enter Tryz.func36, Tryz.ntmps36
    go_wp2_with (go_at_call 61; refine (RPl_w H.out.1 H.out.2.1 L.out).mono ?_)
    rintro e w1 ⟨rfl, hb⟩
    replace B := Lib.hid (below_more B.out hb)
    replace L := Lib.hid (L.out.more hb)
    clear hb
    obtain ⟨b, off, x, rfl, hx, _, hc⟩ := L.out.cell H.out.2.2.1
    obtain ⟨_, _, q2, _, _⟩ := hc
    rw [hx] at q2
    clear hx
    go_wp2_with (go_at_call 67; refine (Fi.refRead_p H.out.2.2.2.1 H.out.2.2.2.2.1 H.out.2.2.2.2.2).mono ?_)
    rintro e w2 ⟨rfl, hb⟩
    replace B := Lib.hid (below_more B.out hb)
    clear hb q2
    go_wp2
    refine bodyPost_ret (results_tmp2 rfl _ _ _) rfl ?_
    exact ⟨rfl, B.out⟩
end

end Go.Proofs.YtnbpfbmhheimbaaGreatDoor
