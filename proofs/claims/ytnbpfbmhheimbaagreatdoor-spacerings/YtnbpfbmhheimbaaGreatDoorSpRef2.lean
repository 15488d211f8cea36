/- The document's Same; kept. -/
import Derived.Test.YtnbpfbmhheimbaaGreatDoorSpRef
import Derived.Test.YtnbpfbmhheimbaaGreatDoorSwBack
namespace Go.Proofs.YtnbpfbmhheimbaaGreatDoor
open Go.RowKit Go.Proofs.Fld Go.Proofs.Rng Go.Proofs.Spc Go.Shelf Go.Sort

set_option maxRecDepth 100000 in
set_option maxHeartbeats 4000000 in
theorem refSame_any (a1 a2 : Option Addr) (len1 len2 c1 c2 : Nat) (l m : List Ov) (hr1 : len1 ≤ 1000000) (hr2 : len2 ≤ 1000000) (hbl : ∀ x ∈ l, Bd x.o) (hbm : ∀ x ∈ m, Bd x.o) (w : World) (h1 : Objs w a1 len1 c1 l) (h2 : Objs w a2 len2 c2 m) :
    Calls Tryz.prog 27 #[.slice a1 len1 c1, .slice a2 len2 c2] w (BoolP (sameL (obs l) (obs m)) w) := by
  have e1 := h1.hlen
  have e2 := h2.hlen
  by_cases hne : len1 = len2
  · subst hne
    have HH := Lib.hid (And.intro h1 (And.intro h2 (And.intro e1 e2)))
    have HD := Lib.hid (And.intro hbl hbm)
    clear h1 h2 e1 e2 hbl hbm
    go_enter Tryz.func27, Tryz.ntmps27
    go_wp2
    go_loopw [5] (fun v wr => ∃ k : Nat, k ≤ len1 ∧ v = .int .i64 k ∧ Hid (EqO l m k) ∧ Below w.heap.size w wr) (fun v _ => len1 - (intOf v).toNat)
    case atStart => exact ⟨0, Nat.zero_le _, rfl, (fun j x y hj => absurd hj (by omega)), Below.refl _ _⟩
    case round =>
      obtain ⟨k, hk, rfl, HI, hB⟩ := hrel
      by_cases hlt : k < len1
      · obtain ⟨x, hx⟩ : ∃ x, l[k]? = some x := ⟨_, List.getElem?_eq_getElem (by rw [HH.out.2.2.1]; exact hlt)⟩
        obtain ⟨y, hy⟩ : ∃ y, m[k]? = some y := ⟨_, List.getElem?_eq_getElem (by rw [HH.out.2.2.2]; exact hlt)⟩
        obtain ⟨b1, o1, rfl, hb1, hc1⟩ := HH.out.1.at (by omega)
        obtain ⟨b2, o2, rfl, hb2, hc2⟩ := HH.out.2.1.at (by omega)
        have hd1 : decide ((k : Int) < (len1 : Int)) = true := decide_eq_true (by omega)
        obtain ⟨q0, q1, q2, q3, q4⟩ := (hc1 k x hx).of_block (hB.block b1 hb1)
        obtain ⟨p0, p1, p2, p3, p4⟩ := (hc2 k y hy).of_block (hB.block b2 hb2)
        have HC := Lib.hid (refOne_any x y (HD.out.1 x (List.mem_of_getElem? hx)) (HD.out.2 y (List.mem_of_getElem? hy)) rfl wr.drew (((HH.out.1.row hx).more (hB.mono (Nat.le_refl _))).more (Below.refl _ wr).drew) (((HH.out.2.1.row hy).more (hB.mono (Nat.le_refl _))).more (Below.refl _ wr).drew))
        have HX := Lib.hid (And.intro hx hy)
        clear hx hy hc1 hc2
        have hD : Below wr.heap.size wr wr.drew := (Below.refl _ _).drew
        have dq0 := cell_later hD q0
        have dq1 := cell_later hD q1
        have dq2 := cell_later hD q2
        have dq3 := cell_later hD q3
        have dq4 := cell_later hD q4
        have dp0 := cell_later hD p0
        have dp1 := cell_later hD p1
        have dp2 := cell_later hD p2
        have dp3 := cell_later hD p3
        have dp4 := cell_later hD p4
        clear hD
        go_wp2
        go_region_held3 (fun w' => w'.cell? ⟨b1, o1 + k * 5, none⟩ = some (.string (bs x.o.n)) ∧ w'.cell? ⟨b1, o1 + k * 5 + 1, none⟩ = some (.int .i64 x.o.k) ∧ w'.cell? ⟨b1, o1 + k * 5 + 2, none⟩ = some (.string (bs x.o.d)) ∧ w'.cell? ⟨b1, o1 + k * 5 + 3, none⟩ = some (.int .i64 x.o.m) ∧ w'.cell? ⟨b1, o1 + k * 5 + 4, none⟩ = some (.slice x.a x.o.l.length x.c) ∧ w'.cell? ⟨b2, o2 + k * 5, none⟩ = some (.string (bs y.o.n)) ∧ w'.cell? ⟨b2, o2 + k * 5 + 1, none⟩ = some (.int .i64 y.o.k) ∧ w'.cell? ⟨b2, o2 + k * 5 + 2, none⟩ = some (.string (bs y.o.d)) ∧ w'.cell? ⟨b2, o2 + k * 5 + 3, none⟩ = some (.int .i64 y.o.m) ∧ w'.cell? ⟨b2, o2 + k * 5 + 4, none⟩ = some (.slice y.a y.o.l.length y.c))
          (first | (with_reducible exact ⟨dq0, dq1, dq2, dq3, dq4, dp0, dp1, dp2, dp3, dp4⟩) | (with_reducible exact ⟨eq0, eq1, eq2, eq3, eq4, ep0, ep1, ep2, ep3, ep4⟩))
          (first | (go_at_call 53; ((with_reducible refine HC.out.mono ?_); rintro e we ⟨rfl, hb3⟩; have eq0 := cell_later hb3 dq0; have eq1 := cell_later hb3 dq1; have eq2 := cell_later hb3 dq2; have eq3 := cell_later hb3 dq3; have eq4 := cell_later hb3 dq4; have ep0 := cell_later hb3 dp0; have ep1 := cell_later hb3 dp1; have ep2 := cell_later hb3 dp2; have ep3 := cell_later hb3 dp3; have ep4 := cell_later hb3 dp4)))
        have HB3 := Lib.hid ((hB.trans ((Below.refl _ wr).drew.mono hB.size)).trans (hb3.mono hB.size))
        clear hb3 dq0 dq1 dq2 dq3 dq4 dp0 dp1 dp2 dp3 dp4 eq0 eq1 eq2 eq3 eq4 ep0 ep1 ep2 ep3 ep4
        cases hs : sameO x.o y.o with
        | true =>
          have HN := Lib.hid (HI.out.next HX.out.1 HX.out.2 hs)
          clear hs
          go_wp2
          go_roundw
          case rel => exact ⟨k + 1, by omega, by simp, HN.out, HB3.out⟩
          case measure => simp [intOf]; omega
        | false =>
          have HN := Lib.hid (sameL_at (obs_get HX.out.1) (obs_get HX.out.2) hs)
          clear hs
          go_wp2
          go_ret
          exact ⟨by rw [HN.out]; rfl, HB3.out⟩
      · obtain rfl : k = len1 := by omega
        have hd1 : decide ((k : Int) < (k : Int)) = false := decide_eq_false (by omega)
        have HN := Lib.hid (HI.out.all HH.out.2.2.1 HH.out.2.2.2)
        go_wp2
        go_ret
        exact ⟨by rw [HN.out]; rfl, hB⟩
  · have HN := Lib.hid (sameL_len (l := obs l) (m := obs m) (by rw [obs_length, obs_length]; omega))
    have hd : (((len1 : Nat) : Int) != ((len2 : Nat) : Int)) = true := by simp; omega
    clear h1 h2 e1 e2 hbl hbm
    go_enter Tryz.func27, Tryz.ntmps27
    go_wp2
    go_ret
    exact ⟨by rw [HN.out]; rfl, Below.refl _ _⟩
theorem RSame_w {w : World} {ao bo : Option Addr} {k0 cap k1 cap1 : Nat} {zs ys : List Ov} {l m : List Ob} {b : Bool} (hb : sameL l m = b) (hL : SO w ao k0 cap zs l) (hM : SO w bo k1 cap1 ys m) : Calls Tryz.prog 27 #[.slice ao k0 cap, .slice bo k1 cap1] w (BoolP b w) := by
  obtain rfl := hL.e
  obtain rfl := hM.e
  exact hb ▸ refSame_any _ _ _ _ _ _ _ _ hL.le2 hM.le2 hL.bd hM.bd w hL.o hM.o
theorem RFind_w {w : World} {ao : Option Addr} {k0 cap : Nat} {zs : List Ov} {l : List Ob} {nm : It} {c : Int} (hc : findI l nm = c) (hL : SO w ao k0 cap zs l) : Calls Tryz.prog 22 #[.slice ao k0 cap, .string (bs nm)] w (IntP c w) := by
  obtain rfl := hL.e
  exact refFind_any _ _ _ _ _ hc hL.le2 w hL.o

set_option maxRecDepth 100000 in
set_option maxHeartbeats 4000000 in
theorem kept_w {w : World} {ao bo : Option Addr} {k0 cap k1 cap1 : Nat} {zs ys : List Ov} {l m : List Ob} {nm : It} (hg : getO m nm = getO l nm) (hL : SO w ao k0 cap zs l) (hM : SO w bo k1 cap1 ys m) : Calls Tryz.prog 43 #[.slice ao k0 cap, .slice bo k1 cap1, .string (bs nm)] w (BoolP true w) := by
  have L := Lib.hid hL
  have M := Lib.hid hM
  have B := Lib.hid (Below.refl w.heap.size w)
  clear hL hM
  cases ho : getO l nm with
  | none =>
    have h1 := findI_no ho
    have h2 := findI_no (hg.trans ho)
    have H := Lib.hid (And.intro h1 h2)
    clear h1 h2 hg ho
    go_enter Tryz.func43, Tryz.ntmps43
    go_wp2_with (go_at_call 22; refine (RFind_w H.out.1 L.out).mono ?_)
    rintro e w1 ⟨rfl, hb⟩
    replace B := Lib.hid (below_more B.out hb)
    replace M := Lib.hid (M.out.more hb)
    clear hb
    go_wp2_with (go_at_call 22; refine (RFind_w H.out.2 M.out).mono ?_)
    rintro e w2 ⟨rfl, hb⟩
    replace B := Lib.hid (below_more B.out hb)
    clear hb
    go_wp2
    go_ret
    exact ⟨rfl, B.out⟩
  | some o =>
    obtain ⟨i, hi, hil, hia⟩ := findI_of ho
    obtain ⟨k, hk, hkl, hka⟩ := findI_of (hg.trans ho)
    rw [L.out.len] at hil
    rw [M.out.len] at hkl
    have H := Lib.hid (And.intro hi (And.intro hk (And.intro hia hka)))
    have h1 : decide ((i : Int) < 0) = false := decide_eq_false (by omega)
    have h2 : decide ((k : Int) < 0) = false := decide_eq_false (by omega)
    clear hi hk hia hka hg ho
    go_enter Tryz.func43, Tryz.ntmps43
    go_wp2_with (go_at_call 22; refine (RFind_w H.out.1 L.out).mono ?_)
    rintro e w1 ⟨rfl, hb⟩
    replace B := Lib.hid (below_more B.out hb)
    replace L := Lib.hid (L.out.more hb)
    replace M := Lib.hid (M.out.more hb)
    clear hb
    go_wp2_with (go_at_call 22; refine (RFind_w H.out.2.1 M.out).mono ?_)
    rintro e w2 ⟨rfl, hb⟩
    replace B := Lib.hid (below_more B.out hb)
    replace L := Lib.hid (L.out.more hb)
    replace M := Lib.hid (M.out.more hb)
    clear hb
    obtain ⟨b1, o1, x, rfl, hx, hlx, hc1⟩ := L.out.cell H.out.2.2.1
    obtain ⟨b2, o2, y, rfl, hy, hly, hc2⟩ := M.out.cell H.out.2.2.2
    have hbo : Bd o := L.out.s.b o (List.mem_of_getElem? H.out.2.2.1)
    obtain ⟨q0, q1, q2, q3, q4⟩ := hc1
    obtain ⟨p0, p1, p2, p3, p4⟩ := hc2
    have HC := Lib.hid (refOne_any x y (hx ▸ hbo) (hy ▸ hbo) (sameO_iff.2 (hx.trans hy.symm)) w2.drew (hlx.more (Below.refl _ w2).drew) (hly.more (Below.refl _ w2).drew))
    clear hx hy hlx hly hbo
    have hD : Below w2.heap.size w2 w2.drew := (Below.refl _ _).drew
    have dq0 := cell_later hD q0
    have dq1 := cell_later hD q1
    have dq2 := cell_later hD q2
    have dq3 := cell_later hD q3
    have dq4 := cell_later hD q4
    have dp0 := cell_later hD p0
    have dp1 := cell_later hD p1
    have dp2 := cell_later hD p2
    have dp3 := cell_later hD p3
    have dp4 := cell_later hD p4
    clear hD
    go_wp2
    go_region_held3 (fun w' => w'.cell? ⟨b1, o1 + i * 5, none⟩ = some (.string (bs x.o.n)) ∧ w'.cell? ⟨b1, o1 + i * 5 + 1, none⟩ = some (.int .i64 x.o.k) ∧ w'.cell? ⟨b1, o1 + i * 5 + 2, none⟩ = some (.string (bs x.o.d)) ∧ w'.cell? ⟨b1, o1 + i * 5 + 3, none⟩ = some (.int .i64 x.o.m) ∧ w'.cell? ⟨b1, o1 + i * 5 + 4, none⟩ = some (.slice x.a x.o.l.length x.c) ∧ w'.cell? ⟨b2, o2 + k * 5, none⟩ = some (.string (bs y.o.n)) ∧ w'.cell? ⟨b2, o2 + k * 5 + 1, none⟩ = some (.int .i64 y.o.k) ∧ w'.cell? ⟨b2, o2 + k * 5 + 2, none⟩ = some (.string (bs y.o.d)) ∧ w'.cell? ⟨b2, o2 + k * 5 + 3, none⟩ = some (.int .i64 y.o.m) ∧ w'.cell? ⟨b2, o2 + k * 5 + 4, none⟩ = some (.slice y.a y.o.l.length y.c))
      (first | (with_reducible exact ⟨dq0, dq1, dq2, dq3, dq4, dp0, dp1, dp2, dp3, dp4⟩) | (with_reducible exact ⟨eq0, eq1, eq2, eq3, eq4, ep0, ep1, ep2, ep3, ep4⟩))
      (first | (go_at_call 53; ((with_reducible refine HC.out.mono ?_); rintro e we ⟨rfl, hb3⟩; have eq0 := cell_later hb3 dq0; have eq1 := cell_later hb3 dq1; have eq2 := cell_later hb3 dq2; have eq3 := cell_later hb3 dq3; have eq4 := cell_later hb3 dq4; have ep0 := cell_later hb3 dp0; have ep1 := cell_later hb3 dp1; have ep2 := cell_later hb3 dp2; have ep3 := cell_later hb3 dp3; have ep4 := cell_later hb3 dp4)))
    replace B := Lib.hid (below_more (below_more B.out (Below.refl _ w2).drew) hb3)
    clear hb3
    go_wp2
    go_ret
    exact ⟨rfl, B.out⟩

end Go.Proofs.YtnbpfbmhheimbaaGreatDoor
