/- WorldBounds: the walk. -/
import Derived.Test.YtlafcplcjpcikaaGreatDoorWdE
import Derived.Test.YtlafcplcjpcikaaGreatDoorSpF
namespace Go.Proofs.YtlafcplcjpcikaaGreatDoor
open Go.RowKit Go.Proofs.Fld Go.Proofs.Rng Go.Proofs.Spc Go.Proofs.Cats Go.Proofs.Wld Go.Shelf Go.Sort

/-- The parts so far are within a quota. -/
def bndK (l : List Pt) (q : Int) (k : Nat) : Bool := rightW l && (l.take k).all fun x => decide (costR x.l ≤ q)
theorem bndK_zero (l : List Pt) (q : Int) : bndK l q 0 = rightW l := by simp [bndK]
theorem bndK_next {l : List Pt} {q : Int} {k : Nat} {x : Pt} (h : l[k]? = some x) : bndK l q (k + 1) = (bndK l q k && decide (costR x.l ≤ q)) := by
  unfold bndK
  rw [List.take_add_one, h, List.all_append, Bool.and_assoc]
  simp
theorem bndK_all {l : List Pt} {q : Int} {k : Nat} (h : l.length = k) : bndK l q k = withinW l q := by
  unfold bndK withinW
  rw [List.take_of_length_le (by omega), Bool.and_comm]
theorem bndK_get {l : List Pt} {q : Int} {k : Nat} {x : Pt} (h : bndK l q k = true) (hx : l[k]? = some x) : getW l x.a = x.l := by
  have hr : rightW l = true := by
    unfold bndK at h
    rw [Bool.and_eq_true] at h
    exact h.1
  unfold getW
  rw [if_pos hr]
  exact look_mem hr x (List.mem_of_getElem? hx)

set_option maxRecDepth 100000 in
set_option maxHeartbeats 4000000 in
theorem wbounds_walk {s : Sn} (ao : Option Addr) (len cap : Nat) (zs : List Pv) (q r : Int) (w : World) (hg : Ev s w) (hL : Parts w ao len cap zs) :
    Calls Tryz.prog 9 #[.slice ao len cap, .int .i64 q, .int .i64 r] w (BoolP true w) := by
  obtain ⟨l, hl⟩ : ∃ l, fewW (pts zs) = l := ⟨_, rfl⟩
  obtain ⟨k0, hk0⟩ : ∃ k0, l.length = k0 := ⟨_, rfl⟩
  have HL0 := Lib.hid (show l.length ≤ 8 from hl ▸ fewW_length _)
  have HLe := Lib.hid (And.intro hl hk0)
  obtain ⟨rb, hrb⟩ : ∃ b, rightW l = b := ⟨_, rfl⟩
  obtain ⟨b0, hb0⟩ : ∃ b, withinW l q = b := ⟨_, rfl⟩
  obtain ⟨b1, hb1⟩ : ∃ b, withinW l (min q r) = b := ⟨_, rfl⟩
  obtain ⟨b2, hb2⟩ : ∃ b, withinW l (max q r) = b := ⟨_, rfl⟩
  have Y := Lib.hid (And.intro hrb (And.intro hb0 (And.intro hb1 hb2)))
  have T := Lib.hid (show b1 = true → b2 = true from fun h => hb2 ▸ within_mono (hb1.trans h) (by omega))
  have HK := Lib.hid (show l.length = k0 from hk0)
  clear hrb hb0 hb1 hb2
  have HB := Lib.hid (Below.refl w.heap.size w)
  have hb := HB.out
  have D := Lib.hid ((WE.of hg).more hb)
  have IhL := Lib.hid (hL.more hb)
  clear HB hb hg hl hk0  hL 
  go_enter Tryz.func9, Tryz.ntmps9
  go_wp2_with (go_at_call 10; refine (shown_w s _ D.out.ev).mono ?_)
  rintro e wn ⟨rfl, hb⟩
  replace D := Lib.hid (D.out.more hb)
  replace IhL := Lib.hid (IhL.out.more hb)
  clear hb
  go_wp2_with (go_at_call 11; refine (FewW_g HLe.out.1 HLe.out.2 IhL.out).mono ?_)
  rintro e wn ⟨vL, aL, cL, rfl, hA, hO2⟩
  have hb := hO2.below
  replace D := Lib.hid (D.out.more hb)
  have L := Lib.hid hA
  clear hA hO2 IhL
  clear hb
  go_wp2_with (go_at_call 12; refine (GRight_w Y.out.1 L.out D.out).mono ?_)
  rintro e wn ⟨rfl, hb⟩
  replace D := Lib.hid (D.out.more hb)
  replace L := Lib.hid (L.out.more hb)
  clear hb
  have hk10 := L.out.le
  obtain ⟨wb, hwb⟩ : ∃ wb, wn = wb := ⟨_, rfl⟩
  rw [hwb] at D L
  rw [hwb]
  clear hwb
  go_wp2
  go_loopw [8, 9] (fun u v wr => ∃ (k : Nat) (b : Bool), k ≤ k0 ∧ u = .bool b ∧ v = .int .i64 k ∧ Hid (bndK l q k = b) ∧ Hid (WE s w wr) ∧ Hid (SP wr aL k0 cL vL l)) (fun _ v _ => k0 - (intOf v).toNat)
  case atStart => exact ⟨0, rb, Nat.zero_le _, rfl, rfl, (bndK_zero l q).trans Y.out.1, D.out, L.out⟩
  case round =>
    clear D L
    obtain ⟨k, b, hk, rfl, rfl, HQ, D, L⟩ := hrel
    by_cases hlt : k < k0
    · obtain ⟨y, hy⟩ : ∃ y, l[k]? = some y := ⟨_, List.getElem?_eq_getElem (by rw [HK.out]; exact hlt)⟩
      have hd1 : decide ((k : Int) < (k0 : Int)) = true := decide_eq_true (by omega)
      have HN := Lib.hid (bndK_next (q := q) hy)
      have HY := Lib.hid hy
      clear hy
      cases b with
      | false =>
        go_wp2
        go_roundw
        case rel => exact ⟨k + 1, false, by omega, rfl, by simp, by rw [HN.out, HQ.out]; rfl, D.out, L.out⟩
        case measure => simp [intOf]; omega
      | true =>
        obtain ⟨os, hos⟩ : ∃ os, getW l y.a = os := ⟨_, rfl⟩
        obtain ⟨ko, hko⟩ : ∃ ko, os.length = ko := ⟨_, rfl⟩
        obtain ⟨cc, hcc⟩ : ∃ cc, costR os = cc := ⟨_, rfl⟩
        have HG := Lib.hid (And.intro hos (And.intro hko hcc))
        have HC := Lib.hid (show costR y.l = cc from by rw [← hcc, ← hos, bndK_get HQ.out HY.out])
        clear hos hko hcc
        obtain ⟨bb, off, x, rfl, hx, hpl, hpa, _⟩ := L.out.cell HY.out
        subst hx
        obtain ⟨q0, q1, q2, _⟩ := hpa
        have HF := Lib.hid hpl.f
        have i2 : (k : Int) < (k0 : Int) := by omega
        clear hpl
        go_wp2_with (go_at_call 15; refine (GGet_w (a := x.a) HF.out HG.out.1 HG.out.2.1 L.out D.out).mono ?_)
        rintro e wn ⟨vU, aU, cU, rfl, hA, _, hb⟩
        replace D := Lib.hid (D.out.more hb)
        replace L := Lib.hid (L.out.more hb)
        have U := Lib.hid hA
        clear hA hb q0 q1 q2
        go_wp2_with (go_at_call 29; refine (RCost_w HG.out.2.2 U.out).mono ?_)
        rintro e wn2 ⟨rfl, hb⟩
        replace D := Lib.hid (D.out.more hb)
        replace L := Lib.hid (L.out.more hb)
        clear hb
        go_wp2
        go_roundw
        case rel => exact ⟨k + 1, decide (cc ≤ q), by omega, by simp, by simp, by rw [HN.out, HQ.out, HC.out]; rfl, D.out, L.out⟩
        case measure => simp [intOf]; omega
    · obtain rfl : k = k0 := by omega
      have hd1 : decide ((k : Int) < (k : Int)) = false := decide_eq_false (by omega)
      obtain rfl : b0 = b := by rw [← HQ.out, ← Y.out.2.1, bndK_all HK.out]
      have hbb : (b0 == b0) = true := by simp
      go_wp2_with (go_at_call 20; refine (GWithin_w Y.out.2.1 L.out D.out).mono ?_)
      rintro e wn ⟨rfl, hb⟩
      replace D := Lib.hid (D.out.more hb)
      replace L := Lib.hid (L.out.more hb)
      clear hb
      go_wp2_with (go_at_call 20; refine (GWithin_w Y.out.2.2.1 L.out D.out).mono ?_)
      rintro e wn ⟨rfl, hb⟩
      replace D := Lib.hid (D.out.more hb)
      replace L := Lib.hid (L.out.more hb)
      clear hb
      cases b1 with
      | false =>
        go_wp2
        go_ret
        exact ⟨rfl, D.out.below⟩
      | true =>
        obtain rfl : b2 = true := T.out rfl
        go_wp2_with (go_at_call 20; refine (GWithin_w Y.out.2.2.2 L.out D.out).mono ?_)
        rintro e wn ⟨rfl, hb⟩
        replace D := Lib.hid (D.out.more hb)
        clear hb
        go_wp2
        go_ret
        exact ⟨rfl, D.out.below⟩

end Go.Proofs.YtlafcplcjpcikaaGreatDoor
