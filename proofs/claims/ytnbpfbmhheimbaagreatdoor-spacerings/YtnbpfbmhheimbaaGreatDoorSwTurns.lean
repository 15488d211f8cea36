/- SpaceTurns: the walk. -/
import Derived.Test.YtnbpfbmhheimbaaGreatDoorSpHead
namespace Go.Proofs.YtnbpfbmhheimbaaGreatDoor
open Go.RowKit Go.Proofs.Fld Go.Proofs.Rng Go.Proofs.Spc Go.Shelf Go.Sort

theorem mk_pair (l : List Ob) (q : Int) (n : It) (k m : Int) : ∃ c a kr, mkR l q n k m = (c, a) ∧ a.length = kr := ⟨_, _, _, rfl, rfl⟩
/-- A name that is cut is short. -/
theorem cut_len (x : It) : (x.take 50).length ≤ 100000 := by rw [List.length_take]; omega

set_option maxRecDepth 100000 in
set_option maxHeartbeats 4000000 in
theorem turns_walk {s : Sn} (ao : Option Addr) (len cap : Nat) (zs : List Ov) (x1 x2 : It) (k n j m : Int) (z1 : x1.length ≤ 9223372036854775807) (z2 : x2.length ≤ 9223372036854775807) (w : World) (hg : Ev s w) (hL : Objs w ao len cap zs) :
    Calls Tryz.prog 10 #[.slice ao len cap, .string (bs x1), .string (bs x2), .int .i64 k, .int .i64 n, .int .i64 j, .int .i64 m] w (BoolP true w) := by
  have D := Lib.hid (WE.of hg)
  obtain ⟨y1, hy1⟩ : ∃ y, x1.take 50 = y := ⟨_, rfl⟩
  obtain ⟨y2, hy2⟩ : ∃ y, x2.take 50 = y := ⟨_, rfl⟩
  have HY := Lib.hid (And.intro (hy1 ▸ cut_len x1) (hy2 ▸ cut_len x2))
  have HC1 := Lib.hid (fun W => cutN_any x1 z1 W)
  have HC2 := Lib.hid (fun W => cutN_any x2 z2 W)
  rw [hy1] at HC1
  rw [hy2] at HC2
  obtain ⟨l, hl⟩ : ∃ l, fewL (obs zs) = l := ⟨_, rfl⟩
  obtain ⟨k0, hk0⟩ : ∃ k0, l.length = k0 := ⟨_, rfl⟩
  have HL := Lib.hid (And.intro hL (And.intro hl (And.intro hk0 (show Small l from hl ▸ small_few _))))
  obtain ⟨ec, al, ka, ha, hka⟩ := mk_pair l 100000 y1 k n
  obtain ⟨fc, bl, kb, hb, hkb⟩ := mk_pair al 100000 y2 j m
  obtain ⟨gc, cl, kc, hc, hkc⟩ := mk_pair l 100000 y2 j m
  obtain ⟨hc', dl, kd, hd, hkd⟩ := mk_pair cl 100000 y1 k n
  have M := Lib.hid (And.intro ha (And.intro hb (And.intro hc hd)))
  have K := Lib.hid (And.intro hka (And.intro hkb (And.intro hkc hkd)))
  clear hg hL z1 z2 hy1 hy2 hl hk0 ha hb hc hd hka hkb hkc hkd
  go_enter Tryz.func10, Tryz.ntmps10
  go_wp2_with (go_at_call 12; refine (shown_e s _ D.out.ev).mono ?_)
  rintro e w1 ⟨rfl, hb⟩
  replace D := Lib.hid (D.out.more hb)
  have HF := Lib.hid (FewO_p HL.out.2.1 HL.out.2.2.1 (HL.out.1.more hb))
  clear hb
  go_wp2_with (go_at_call 13; refine HF.out.mono ?_)
  rintro e w2 ⟨vs, va, vc, rfl, hvs, hO, hb⟩
  replace D := Lib.hid (D.out.more hb)
  have L := Lib.hid (SO.mk hvs hO HL.out.2.2.2)
  clear hvs hO hb HF
  go_wp2_with (go_at_call 15; refine (HC1.out _).mono ?_)
  rintro e w3 ⟨rfl, rfl⟩
  go_wp2_with (go_at_call 15; refine (HC2.out _).mono ?_)
  rintro e w3 ⟨rfl, rfl⟩
  go_wp2_with (go_at_call 28; refine (Make_w M.out.1 K.out.1 HY.out.1 L.out D.out).mono ?_)
  rintro e w4 ⟨avs, aa, ac, rfl, hA, hb⟩
  replace D := Lib.hid (D.out.more hb)
  replace L := Lib.hid (L.out.more hb)
  have A := Lib.hid hA
  clear hA hb
  go_wp2_with (go_at_call 28; refine (Make_w M.out.2.1 K.out.2.1 HY.out.2 A.out D.out).mono ?_)
  rintro e w5 ⟨bvs, ba, bc, rfl, hA, hb⟩
  replace D := Lib.hid (D.out.more hb)
  replace L := Lib.hid (L.out.more hb)
  have B := Lib.hid hA
  clear hA hb A
  go_wp2_with (go_at_call 28; refine (Make_w M.out.2.2.1 K.out.2.2.1 HY.out.2 L.out D.out).mono ?_)
  rintro e w6 ⟨cvs, ca, cc, rfl, hA, hb⟩
  replace D := Lib.hid (D.out.more hb)
  replace L := Lib.hid (L.out.more hb)
  replace B := Lib.hid (B.out.more hb)
  have C := Lib.hid hA
  clear hA hb
  go_wp2_with (go_at_call 28; refine (Make_w M.out.2.2.2 K.out.2.2.2 HY.out.1 C.out D.out).mono ?_)
  rintro e w7 ⟨dvs, da, dc, rfl, hA, hb⟩
  replace D := Lib.hid (D.out.more hb)
  replace B := Lib.hid (B.out.more hb)
  have E := Lib.hid hA
  clear hA hb C
  have hkl : k0 ≤ 22 := L.out.le
  clear L
  obtain ⟨ha, hb, hc, hd⟩ := M.out
  by_cases he : ec = 0
  · by_cases hf : fc = 0
    · subst he hf
      obtain ⟨c', q1, q2, q3⟩ := mk_turns ha hb
      rw [hc] at q1
      obtain ⟨rfl, rfl⟩ := Prod.mk.inj q1
      rw [hd] at q2
      obtain ⟨rfl, rfl⟩ := Prod.mk.inj q2
      have hkk : kb = k0 + 2 := by rw [← K.out.2.1, q3, HL.out.2.2.1]
      subst hkk
      clear q1 q2 q3 ha hb hc hd
      have HS := Lib.hid (Same_w (sameL_self _) B.out E.out)
      go_wp2_with (go_at_call 26; refine HS.out.mono ?_)
      rintro e w8 ⟨rfl, hb⟩
      replace D := Lib.hid (D.out.more hb)
      clear hb
      have hw : IntKind.i64.wrap ((k0 : Int) + 2) = ((k0 + 2 : Nat) : Int) := by rw [IntKind.wrap_i64]; omega
      have hq : (((k0 + 2 : Nat) : Int) == ((k0 + 2 : Nat) : Int)) = true := by simp
      go_wp2
      go_ret
      exact ⟨rfl, D.out.below⟩
    · have h1 : (ec != 0) = false := by simp [he]
      have h2 : (fc != 0) = true := by simp [hf]
      have hng : ¬ (gc = 0 ∧ hc' = 0) := by
        rintro ⟨rfl, rfl⟩
        obtain ⟨c'', q1, q2, _⟩ := mk_turns hc hd
        rw [ha] at q1
        obtain ⟨e1, rfl⟩ := Prod.mk.inj q1
        rw [hb] at q2
        obtain ⟨e2, _⟩ := Prod.mk.inj q2
        first | exact he e1 | exact hf e2
      clear ha hb hc hd
      by_cases hgz : gc = 0
      · have h3 : (gc != 0) = false := by simp [hgz]
        have h4 : (hc' != 0) = true := by simpa using fun e => hng ⟨hgz, e⟩
        clear hng
        go_wp2
        go_ret
        exact ⟨rfl, D.out.below⟩
      · have h3 : (gc != 0) = true := by simp [hgz]
        clear hng
        go_wp2
        go_ret
        exact ⟨rfl, D.out.below⟩
  · have h1 : (ec != 0) = true := by simp [he]
    have hng : ¬ (gc = 0 ∧ hc' = 0) := by
      rintro ⟨rfl, rfl⟩
      obtain ⟨c'', q1, q2, _⟩ := mk_turns hc hd
      rw [ha] at q1
      obtain ⟨e1, rfl⟩ := Prod.mk.inj q1
      rw [hb] at q2
      obtain ⟨e2, _⟩ := Prod.mk.inj q2
      first | exact he e1 | exact hf e2
    clear ha hb hc hd
    by_cases hgz : gc = 0
    · have h3 : (gc != 0) = false := by simp [hgz]
      have h4 : (hc' != 0) = true := by simpa using fun e => hng ⟨hgz, e⟩
      clear hng
      go_wp2
      go_ret
      exact ⟨rfl, D.out.below⟩
    · have h3 : (gc != 0) = true := by simp [hgz]
      clear hng
      go_wp2
      go_ret
      exact ⟨rfl, D.out.below⟩

end Go.Proofs.YtnbpfbmhheimbaaGreatDoor
