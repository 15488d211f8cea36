/- The document's Put, Take. -/
import Derived.Test.YtnbpfbmhheimbaaGreatDoorSpRefE
namespace Go.Proofs.YtnbpfbmhheimbaaGreatDoor
open Go.RowKit Go.Proofs.Fld Go.Proofs.Rng Go.Proofs.Spc Go.Shelf Go.Sort

/-- An object of the slice, in a variable, its ring another one. -/
theorem ObAt.ring {W : World} {b : Nat} {x : Ov} (h : ObAt W b 0 x) (m : Int) (r : List It) (va : Option Addr) (vc : Nat) : ObAt ((W.setCell ⟨b, 3, none⟩ (.int .i64 m)).setCell ⟨b, 4, none⟩ (.slice va r.length vc)) b 0 ⟨⟨x.o.n, x.o.k, x.o.d, m, r⟩, va, vc⟩ := by
  obtain ⟨h0, h1, h2, h3, h4⟩ := h.var
  exact ⟨setO (setO h0 (ne_off (by omega))) (ne_off (by omega)), setO (setO h1 (ne_off (by omega))) (ne_off (by omega)), setO (setO h2 (ne_off (by omega))) (ne_off (by omega)), setO (setS _ h3) (ne_off (by omega)), setS _ (setO h4 (ne_off (by omega)))⟩
theorem takes_put {m : Int} {l : List It} {x : It} (h : errN (putE m l x) = 0) : takes (putL m l x) ≤ 100000 := by
  have hp := errN_zero h
  obtain ⟨e1, e2⟩ := put_at hp
  rw [e2]
  obtain ⟨_, h2, _⟩ := right_put hp
  obtain ⟨_, h5, _, h6⟩ := rightR_iff.1 h2
  omega
theorem takes_tail {m : Int} {l : List It} (h : errN (takeE m l) = 0) (hl : takes l ≤ 100000) : takes (takeL m l) ≤ 100000 := by
  obtain ⟨_, e2, _, _⟩ := take_at (errN_zero h)
  rw [e2]
  cases l with
  | nil => exact hl
  | cons x r => simp only [takes] at hl; show takes r ≤ _; omega
section
variable {w : World} {ao : Option Addr} {k0 cap : Nat} {zs : List Ov} {l : List Ob} {c : Int}

set_option maxRecDepth 100000 in
set_option maxHeartbeats 4000000 in
theorem RPut_w {nm t : It} {a : List Ob} {kr : Nat} (htl : t.length ≤ 100000) (hr : puR l nm t = (c, a)) (hkr : a.length = kr) (hL : SO w ao k0 cap zs l) :
    Calls Tryz.prog 40 #[.slice ao k0 cap, .string (bs nm), .string (bs t)] w (ResS c a kr w) := by
  have L := Lib.hid hL
  have B := Lib.hid (Below.refl w.heap.size w)
  replace hr : chgR l 0 nm 2 (putF t) = (c, a) := hr
  rcases place_or l nm 2 with ⟨h0, hi⟩ | ⟨h0, h1, o, h2, h3, h4⟩
  · rw [chg_place _ h0] at hr
    obtain ⟨hr1, rfl⟩ := Prod.mk.inj hr
    obtain rfl : kr = 0 := hkr.symm
    have H := Lib.hid (And.intro hr1 hi)
    have hq : (c != 0) = true := by rw [← hr1]; simp [h0]
    clear hr hr1 hi hL h0 hkr
    go_enter Tryz.func40, Tryz.ntmps40
    go_wp2_with (go_at_call 61; refine (RPl_w H.out.1 H.out.2 L.out).mono ?_)
    rintro e w1 ⟨rfl, hb⟩
    replace B := Lib.hid (below_more B.out hb)
    clear hb
    go_wp2
    refine bodyPost_ret (results_tmp2 rfl _ _ _) rfl ?_
    exact ⟨[], none, 0, rfl, SO.nil _, B.out⟩
  · obtain ⟨i, hi⟩ : ∃ i, placeI l nm 2 = i := ⟨_, rfl⟩
    have hil : i < k0 := by rw [← hL.len, ← hi]; exact (List.getElem?_eq_some_iff.1 h4).1
    have hbo := hL.s.b o (List.mem_of_getElem? h4)
    obtain ⟨pm, hpm⟩ : ∃ pm, putM o.m o.l t = pm := ⟨_, rfl⟩
    obtain ⟨pl, hpl⟩ : ∃ pl, putL o.m o.l t = pl := ⟨_, rfl⟩
    obtain ⟨pk, hpk⟩ : ∃ pk, pl.length = pk := ⟨_, rfl⟩
    obtain ⟨c1, hc1⟩ : ∃ c1, errN (putE o.m o.l t) = c1 := ⟨_, rfl⟩
    have hf : (putF t) o = (c1, ⟨o.n, o.k, o.d, pm, pl⟩) := by rw [← hpm, ← hpl, ← hc1]; rfl
    have H := Lib.hid (And.intro h0 (And.intro hi (And.intro (hi ▸ h4 : l[i]? = some o) (And.intro hpm (And.intro hpl (And.intro hc1 (And.intro hpk (And.intro hbo trivial))))))))
    by_cases hz : c1 = 0
    · have hst := chg_same (q := 0) (f := putF t) h0 h1 h2 h3 (by rw [hf]; exact hz) (put_cost (by rw [hf]; exact hz))
      rw [hst, hf, hi] at hr
      obtain ⟨rfl, hr2⟩ := Prod.mk.inj hr
      have htk : takes pl ≤ 100000 := by
        rw [← hpl]
        exact takes_put (by rw [hc1]; exact hz)
      have HR := Lib.hid (And.intro hr2 (And.intro hkr htk))
      subst hz
      have hkk : kr = k0 := by rw [← hkr, ← hr2, List.length_set]; exact hL.len
      subst hkk
      clear hr hr2 hst hkr h0 h1 h2 h3 h4 hi hf hL hpm hpl hc1 hpk hbo htk
      go_enter Tryz.func40, Tryz.ntmps40
      go_wp2_with (go_at_call 61; refine (RPl_w H.out.1 H.out.2.1 L.out).mono ?_)
      rintro e w1 ⟨rfl, hb⟩
      replace B := Lib.hid (below_more B.out hb)
      replace L := Lib.hid (L.out.more hb)
      clear hb
      obtain ⟨b, off, x, rfl, hx, hlv, hc⟩ := L.out.cell H.out.2.2.1
      obtain ⟨_, _, _, q3, q4⟩ := hc
      have htx := hlv.t
      rw [hx] at q3 q4 htx
      have HX := Lib.hid (And.intro htx hx)
      clear hx hlv htx
      go_wp2_with (go_at_call 73; refine (RPut_q (Nat.le_trans htl (by omega)) H.out.2.2.2.2.2.2.2.1.len (Nat.le_trans H.out.2.2.2.2.2.2.2.1.t (by omega)) H.out.2.2.2.1 H.out.2.2.2.2.1 H.out.2.2.2.2.2.1 H.out.2.2.2.2.2.2.1 HX.out.1).mono ?_)
      rintro e w2 ⟨va, vc, rfl, ⟨hT, _⟩, hb⟩
      have HN := Lib.hid (Below.new w2 (.cells #[.int .i64 pm, .slice va pk vc] 53))
      replace B := Lib.hid (below_more (below_more B.out hb) HN.out)
      replace L := Lib.hid ((L.out.more hb).more HN.out)
      have T := Lib.hid (hT.more HN.out)
      obtain ⟨r0, r1, _, _⟩ := R2.new w2 (.int .i64 pm) (.slice va pk vc) 53
      obtain ⟨W3, hW3⟩ : ∃ W3, w2.alloc (.cells #[.int .i64 pm, .slice va pk vc] 53) = W3 := ⟨_, rfl⟩
      have hz3 : W3.heap.size = w2.heap.size + 1 := by rw [← hW3]; simp
      rw [hW3] at B L T r0 r1
      clear hT hb q3 q4 HN
      obtain ⟨b', off', x', hbb, hx, hlv, hc⟩ := L.out.cell H.out.2.2.1
      obtain ⟨rfl, rfl⟩ : b = b' ∧ off = off' := by injection hbb with h5; injection h5 with h6 h7; exact ⟨h6, h7⟩
      obtain ⟨q0, q1, q2, q3, q4⟩ := hc
      have hN := Below.new W3 (.cells #[.string (bs x'.o.n), .int .i64 x'.o.k, .string (bs x'.o.d), .int .i64 x'.o.m, .slice x'.a x'.o.l.length x'.c] 55)
      have hO := ObAt.new W3 x' 55
      have hfr : ∀ i, (W3.alloc (.cells #[.string (bs x'.o.n), .int .i64 x'.o.k, .string (bs x'.o.d), .int .i64 x'.o.m, .slice x'.a x'.o.l.length x'.c] 55)).frozen? ⟨W3.heap.size, i, none⟩ = false := fun i => by simp
      obtain ⟨W4, hW4⟩ : ∃ W4, W3.alloc (.cells #[.string (bs x'.o.n), .int .i64 x'.o.k, .string (bs x'.o.d), .int .i64 x'.o.m, .slice x'.a x'.o.l.length x'.c] 55) = W4 := ⟨_, rfl⟩
      rw [hW4] at hN hO hfr
      have hN2 : Below W3.heap.size W3 ((W4.setCell ⟨W3.heap.size, 3, none⟩ (.int .i64 pm)).setCell ⟨W3.heap.size, 4, none⟩ (.slice va pk vc)) := (hN.setCell (p := ⟨W3.heap.size, 3, none⟩) (Nat.le_refl _) _).setCell (p := ⟨W3.heap.size, 4, none⟩) (Nat.le_refl _) _
      have hO2 := hO.ring pm pl va vc
      rw [H.out.2.2.2.2.2.2.1] at hO2
      obtain ⟨y, hy⟩ : ∃ y : Ov, y = ⟨⟨x'.o.n, x'.o.k, x'.o.d, pm, pl⟩, va, vc⟩ := ⟨_, rfl⟩
      have hyb : Bd y.o := by rw [hy, hx]; exact ⟨HR.out.2.2, H.out.2.2.2.2.2.2.2.1.n, H.out.2.2.2.2.2.2.2.1.d⟩
      have hyl : Lv ((W4.setCell ⟨W3.heap.size, 3, none⟩ (.int .i64 pm)).setCell ⟨W3.heap.size, 4, none⟩ (.slice va pk vc)) y := by
        have h6 := hlv.more hN2
        have h7 := T.out.more hN2
        rw [hy]
        have h8 := H.out.2.2.2.2.2.2.1
        exact ⟨show Txs _ va pl.length vc pl by rw [h8]; exact h7, h6.hn, h6.hd⟩
      rw [← hy] at hO2
      have hya : l.set i y.o = a := by rw [hy, hx]; exact HR.out.1
      have f3 := hfr 3
      have f4 := hfr 4
      obtain ⟨v0, v1, v2, v3, v4⟩ := hO.var
      replace r0 := cell_later hN r0
      replace r1 := cell_later hN r1
      obtain ⟨W5, hW5⟩ : ∃ W5, (W4.setCell ⟨W3.heap.size, 3, none⟩ (.int .i64 pm)).setCell ⟨W3.heap.size, 4, none⟩ (.slice va pk vc) = W5 := ⟨_, rfl⟩
      rw [hW5] at hN2 hO2 hyl
      obtain ⟨p0, p1, p2, p3, p4⟩ := hO2.var
      have HS := Lib.hid (RSet_w hil hya hyl hyb (L.out.more hN2))
      replace B := Lib.hid (below_more B.out hN2)
      clear hy hO hO2 hN hN2 hyl hyb hya hfr hz3 hlv hx
      go_wp2_with (go_at_call 74; refine HS.out.mono ?_)
      rintro e w6 ⟨vs, va', vc', rfl, hA, hb⟩
      have HF := Lib.hid (And.intro hA (below_more B.out hb))
      clear hA hb
      go_wp2
      refine bodyPost_ret (results_tmp2 rfl _ _ _) rfl ?_
      exact ⟨vs, va', vc', rfl, HF.out.1, HF.out.2⟩
    · rw [chg_fail _ h1 h2 h3 (by rw [hf]; exact hz), hf] at hr
      obtain ⟨hr1, rfl⟩ := Prod.mk.inj hr
      replace hr1 : c1 = c := hr1
      subst hr1
      obtain rfl : kr = 0 := hkr.symm
      have hq : (c1 != 0) = true := by simp [hz]
      have HZ := Lib.hid hz
      clear hr hkr h0 h1 h2 h3 h4 hi hf hL hpm hpl hc1 hpk hbo hz
      go_enter Tryz.func40, Tryz.ntmps40
      go_wp2_with (go_at_call 61; refine (RPl_w H.out.1 H.out.2.1 L.out).mono ?_)
      rintro e w1 ⟨rfl, hb⟩
      replace B := Lib.hid (below_more B.out hb)
      replace L := Lib.hid (L.out.more hb)
      clear hb
      obtain ⟨b, off, x, rfl, hx, hlv, hc⟩ := L.out.cell H.out.2.2.1
      obtain ⟨_, _, _, q3, q4⟩ := hc
      have htx := hlv.t
      rw [hx] at q3 q4 htx
      have HX := Lib.hid (And.intro htx hx)
      clear hx hlv htx
      go_wp2_with (go_at_call 73; refine (RPut_q (Nat.le_trans htl (by omega)) H.out.2.2.2.2.2.2.2.1.len (Nat.le_trans H.out.2.2.2.2.2.2.2.1.t (by omega)) H.out.2.2.2.1 H.out.2.2.2.2.1 H.out.2.2.2.2.2.1 H.out.2.2.2.2.2.2.1 HX.out.1).mono ?_)
      rintro e w2 ⟨va, vc, rfl, _, hb⟩
      have HN := Lib.hid (Below.new w2 (.cells #[.int .i64 pm, .slice va pk vc] 53))
      replace B := Lib.hid (below_more (below_more B.out hb) HN.out)
      clear hb q3 q4 HN
      go_wp2
      refine bodyPost_ret (results_tmp2 rfl _ _ _) rfl ?_
      exact ⟨[], none, 0, rfl, SO.nil _, B.out⟩

set_option maxRecDepth 100000 in
set_option maxHeartbeats 4000000 in
theorem RTake_w {nm it : It} {a : List Ob} {kr : Nat} (hit : tkX l nm = it) (hr : tkR l nm = (c, a)) (hkr : a.length = kr) (hL : SO w ao k0 cap zs l) :
    Calls Tryz.prog 42 #[.slice ao k0 cap, .string (bs nm)] w (ResT it c a kr w) := by
  have L := Lib.hid hL
  have B := Lib.hid (Below.refl w.heap.size w)
  replace hr : chgR l 0 nm 2 (tkF) = (c, a) := hr
  replace hit : seenR l nm 2 [] (fun o => takeX o.m o.l) = it := hit
  rcases place_or l nm 2 with ⟨h0, hi⟩ | ⟨h0, h1, o, h2, h3, h4⟩
  · rw [chg_place _ h0] at hr
    rw [seen_place _ h0] at hit
    subst hit
    obtain ⟨hr1, rfl⟩ := Prod.mk.inj hr
    obtain rfl : kr = 0 := hkr.symm
    have H := Lib.hid (And.intro hr1 hi)
    have hq : (c != 0) = true := by rw [← hr1]; simp [h0]
    clear hr hr1 hi hL h0 hkr
    go_enter Tryz.func42, Tryz.ntmps42
    go_wp2_with (go_at_call 61; refine (RPl_w H.out.1 H.out.2 L.out).mono ?_)
    rintro e w1 ⟨rfl, hb⟩
    replace B := Lib.hid (below_more B.out hb)
    clear hb
    go_wp2
    refine bodyPost_ret (results_tmp3 rfl _ _ _) rfl ?_
    exact ⟨[], none, 0, rfl, SO.nil _, B.out⟩
  · obtain ⟨i, hi⟩ : ∃ i, placeI l nm 2 = i := ⟨_, rfl⟩
    have hil : i < k0 := by rw [← hL.len, ← hi]; exact (List.getElem?_eq_some_iff.1 h4).1
    have hbo := hL.s.b o (List.mem_of_getElem? h4)
    obtain ⟨pm, hpm⟩ : ∃ pm, takeM o.m o.l = pm := ⟨_, rfl⟩
    obtain ⟨pl, hpl⟩ : ∃ pl, takeL o.m o.l = pl := ⟨_, rfl⟩
    obtain ⟨pk, hpk⟩ : ∃ pk, pl.length = pk := ⟨_, rfl⟩
    obtain ⟨c1, hc1⟩ : ∃ c1, errN (takeE o.m o.l) = c1 := ⟨_, rfl⟩
    have hf : (tkF) o = (c1, ⟨o.n, o.k, o.d, pm, pl⟩) := by rw [← hpm, ← hpl, ← hc1]; rfl
    rw [seen_there _ h1 h2 h3] at hit
    have H := Lib.hid (And.intro h0 (And.intro hi (And.intro (hi ▸ h4 : l[i]? = some o) (And.intro hpm (And.intro hpl (And.intro hc1 (And.intro hpk (And.intro hbo hit))))))))
    by_cases hz : c1 = 0
    · have hst := chg_same (q := 0) (f := tkF) h0 h1 h2 h3 (by rw [hf]; exact hz) (tk_cost (by rw [hf]; exact hz))
      rw [hst, hf, hi] at hr
      obtain ⟨rfl, hr2⟩ := Prod.mk.inj hr
      have htk : takes pl ≤ 100000 := by
        rw [← hpl]
        exact takes_tail (by rw [hc1]; exact hz) hbo.t
      have HR := Lib.hid (And.intro hr2 (And.intro hkr htk))
      subst hz
      have hkk : kr = k0 := by rw [← hkr, ← hr2, List.length_set]; exact hL.len
      subst hkk
      clear hit hr hr2 hst hkr h0 h1 h2 h3 h4 hi hf hL hpm hpl hc1 hpk hbo htk
      go_enter Tryz.func42, Tryz.ntmps42
      go_wp2_with (go_at_call 61; refine (RPl_w H.out.1 H.out.2.1 L.out).mono ?_)
      rintro e w1 ⟨rfl, hb⟩
      replace B := Lib.hid (below_more B.out hb)
      replace L := Lib.hid (L.out.more hb)
      clear hb
      obtain ⟨b, off, x, rfl, hx, hlv, hc⟩ := L.out.cell H.out.2.2.1
      obtain ⟨_, _, _, q3, q4⟩ := hc
      have htx := hlv.t
      rw [hx] at q3 q4 htx
      have HX := Lib.hid (And.intro htx hx)
      clear hx hlv htx
      go_wp2_with (go_at_call 77; refine (RTake_q H.out.2.2.2.2.2.2.2.1.len (Nat.le_trans H.out.2.2.2.2.2.2.2.1.t (by omega)) H.out.2.2.2.2.2.2.2.2 H.out.2.2.2.1 H.out.2.2.2.2.1 H.out.2.2.2.2.2.1 H.out.2.2.2.2.2.2.1 HX.out.1).mono ?_)
      rintro e w2 ⟨va, vc, rfl, ⟨hT, _⟩, hb⟩
      have HN := Lib.hid (Below.new w2 (.cells #[.int .i64 pm, .slice va pk vc] 53))
      replace B := Lib.hid (below_more (below_more B.out hb) HN.out)
      replace L := Lib.hid ((L.out.more hb).more HN.out)
      have T := Lib.hid (hT.more HN.out)
      obtain ⟨r0, r1, _, _⟩ := R2.new w2 (.int .i64 pm) (.slice va pk vc) 53
      obtain ⟨W3, hW3⟩ : ∃ W3, w2.alloc (.cells #[.int .i64 pm, .slice va pk vc] 53) = W3 := ⟨_, rfl⟩
      have hz3 : W3.heap.size = w2.heap.size + 1 := by rw [← hW3]; simp
      rw [hW3] at B L T r0 r1
      clear hT hb q3 q4 HN
      obtain ⟨b', off', x', hbb, hx, hlv, hc⟩ := L.out.cell H.out.2.2.1
      obtain ⟨rfl, rfl⟩ : b = b' ∧ off = off' := by injection hbb with h5; injection h5 with h6 h7; exact ⟨h6, h7⟩
      obtain ⟨q0, q1, q2, q3, q4⟩ := hc
      have hN := Below.new W3 (.cells #[.string (bs x'.o.n), .int .i64 x'.o.k, .string (bs x'.o.d), .int .i64 x'.o.m, .slice x'.a x'.o.l.length x'.c] 55)
      have hO := ObAt.new W3 x' 55
      have hfr : ∀ i, (W3.alloc (.cells #[.string (bs x'.o.n), .int .i64 x'.o.k, .string (bs x'.o.d), .int .i64 x'.o.m, .slice x'.a x'.o.l.length x'.c] 55)).frozen? ⟨W3.heap.size, i, none⟩ = false := fun i => by simp
      obtain ⟨W4, hW4⟩ : ∃ W4, W3.alloc (.cells #[.string (bs x'.o.n), .int .i64 x'.o.k, .string (bs x'.o.d), .int .i64 x'.o.m, .slice x'.a x'.o.l.length x'.c] 55) = W4 := ⟨_, rfl⟩
      rw [hW4] at hN hO hfr
      have hN2 : Below W3.heap.size W3 ((W4.setCell ⟨W3.heap.size, 3, none⟩ (.int .i64 pm)).setCell ⟨W3.heap.size, 4, none⟩ (.slice va pk vc)) := (hN.setCell (p := ⟨W3.heap.size, 3, none⟩) (Nat.le_refl _) _).setCell (p := ⟨W3.heap.size, 4, none⟩) (Nat.le_refl _) _
      have hO2 := hO.ring pm pl va vc
      rw [H.out.2.2.2.2.2.2.1] at hO2
      obtain ⟨y, hy⟩ : ∃ y : Ov, y = ⟨⟨x'.o.n, x'.o.k, x'.o.d, pm, pl⟩, va, vc⟩ := ⟨_, rfl⟩
      have hyb : Bd y.o := by rw [hy, hx]; exact ⟨HR.out.2.2, H.out.2.2.2.2.2.2.2.1.n, H.out.2.2.2.2.2.2.2.1.d⟩
      have hyl : Lv ((W4.setCell ⟨W3.heap.size, 3, none⟩ (.int .i64 pm)).setCell ⟨W3.heap.size, 4, none⟩ (.slice va pk vc)) y := by
        have h6 := hlv.more hN2
        have h7 := T.out.more hN2
        rw [hy]
        have h8 := H.out.2.2.2.2.2.2.1
        exact ⟨show Txs _ va pl.length vc pl by rw [h8]; exact h7, h6.hn, h6.hd⟩
      rw [← hy] at hO2
      have hya : l.set i y.o = a := by rw [hy, hx]; exact HR.out.1
      have f3 := hfr 3
      have f4 := hfr 4
      obtain ⟨v0, v1, v2, v3, v4⟩ := hO.var
      replace r0 := cell_later hN r0
      replace r1 := cell_later hN r1
      obtain ⟨W5, hW5⟩ : ∃ W5, (W4.setCell ⟨W3.heap.size, 3, none⟩ (.int .i64 pm)).setCell ⟨W3.heap.size, 4, none⟩ (.slice va pk vc) = W5 := ⟨_, rfl⟩
      rw [hW5] at hN2 hO2 hyl
      obtain ⟨p0, p1, p2, p3, p4⟩ := hO2.var
      have HS := Lib.hid (RSet_w hil hya hyl hyb (L.out.more hN2))
      replace B := Lib.hid (below_more B.out hN2)
      clear hy hO hO2 hN hN2 hyl hyb hya hfr hz3 hlv hx
      go_wp2_with (go_at_call 74; refine HS.out.mono ?_)
      rintro e w6 ⟨vs, va', vc', rfl, hA, hb⟩
      have HF := Lib.hid (And.intro hA (below_more B.out hb))
      clear hA hb
      go_wp2
      refine bodyPost_ret (results_tmp3 rfl _ _ _) rfl ?_
      exact ⟨vs, va', vc', rfl, HF.out.1, HF.out.2⟩
    · rw [chg_fail _ h1 h2 h3 (by rw [hf]; exact hz), hf] at hr
      obtain ⟨hr1, rfl⟩ := Prod.mk.inj hr
      replace hr1 : c1 = c := hr1
      subst hr1
      obtain rfl : kr = 0 := hkr.symm
      have hq : (c1 != 0) = true := by simp [hz]
      obtain rfl : it = [] := by
        rw [← hit]
        show takeX o.m o.l = []
        unfold takeX
        rw [if_neg (fun h => hz (by rw [← hc1, h]; rfl))]
      have HZ := Lib.hid hz
      clear hit hr hkr h0 h1 h2 h3 h4 hi hf hL hpm hpl hc1 hpk hbo hz
      go_enter Tryz.func42, Tryz.ntmps42
      go_wp2_with (go_at_call 61; refine (RPl_w H.out.1 H.out.2.1 L.out).mono ?_)
      rintro e w1 ⟨rfl, hb⟩
      replace B := Lib.hid (below_more B.out hb)
      replace L := Lib.hid (L.out.more hb)
      clear hb
      obtain ⟨b, off, x, rfl, hx, hlv, hc⟩ := L.out.cell H.out.2.2.1
      obtain ⟨_, _, _, q3, q4⟩ := hc
      have htx := hlv.t
      rw [hx] at q3 q4 htx
      have HX := Lib.hid (And.intro htx hx)
      clear hx hlv htx
      go_wp2_with (go_at_call 77; refine (RTake_q H.out.2.2.2.2.2.2.2.1.len (Nat.le_trans H.out.2.2.2.2.2.2.2.1.t (by omega)) H.out.2.2.2.2.2.2.2.2 H.out.2.2.2.1 H.out.2.2.2.2.1 H.out.2.2.2.2.2.1 H.out.2.2.2.2.2.2.1 HX.out.1).mono ?_)
      rintro e w2 ⟨va, vc, rfl, _, hb⟩
      have HN := Lib.hid (Below.new w2 (.cells #[.int .i64 pm, .slice va pk vc] 53))
      replace B := Lib.hid (below_more (below_more B.out hb) HN.out)
      clear hb q3 q4 HN
      go_wp2
      refine bodyPost_ret (results_tmp3 rfl _ _ _) rfl ?_
      exact ⟨[], none, 0, rfl, SO.nil _, B.out⟩

end

end Go.Proofs.YtnbpfbmhheimbaaGreatDoor
