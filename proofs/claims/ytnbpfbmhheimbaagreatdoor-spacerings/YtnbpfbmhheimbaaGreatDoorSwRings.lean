/- SpaceRings: the walk. -/
import Derived.Test.YtnbpfbmhheimbaaGreatDoorSpPairs
import Derived.Test.YtnbpfbmhheimbaaGreatDoorSpRefW
import Derived.Test.YtnbpfbmhheimbaaGreatDoorSpRefQ
import Derived.Test.YtnbpfbmhheimbaaGreatDoorSpRefMk
import Derived.Test.YtnbpfbmhheimbaaGreatDoorSpNames
namespace Go.Proofs.YtnbpfbmhheimbaaGreatDoor
open Go.RowKit Go.Proofs.Fld Go.Proofs.Rng Go.Proofs.Spc Go.Shelf Go.Sort

theorem tk_pair (l : List Ob) (n : It) : ∃ c b kr, tkR l n = (c, b) ∧ b.length = kr := ⟨_, _, _, rfl, rfl⟩

set_option maxRecDepth 100000 in
set_option maxHeartbeats 4000000 in
theorem rings_walk {s : Sn} (ao : Option Addr) (len cap : Nat) (zs : List Ov) (x0 x1 : It) (z : x0.length ≤ 9223372036854775807) (z1 : x1.length ≤ 9223372036854775807) (w : World) (hg : Ev s w) (hL : Objs w ao len cap zs) :
    Calls Tryz.prog 6 #[.slice ao len cap, .string (bs x0), .string (bs x1)] w (BoolP true w) := by
  have D := Lib.hid (WE.of hg)
  obtain ⟨y0, hy0⟩ : ∃ y, x0.take 50 = y := ⟨_, rfl⟩
  have HC0 := Lib.hid (fun W => cutN_any x0 z W)
  rw [hy0] at HC0
  have HY0 := Lib.hid (hy0 ▸ cut_len x0)
  clear hy0
  obtain ⟨t, ht⟩ : ∃ y, x1.take 1010 = y := ⟨_, rfl⟩
  have HC1 := Lib.hid (fun W => long_any x1 z1 W)
  rw [ht] at HC1
  have HY1 := Lib.hid (ht ▸ long_len x1)
  clear ht
  obtain ⟨l, hl⟩ : ∃ l, fewL (obs zs) = l := ⟨_, rfl⟩
  obtain ⟨k0, hk0⟩ : ∃ k0, l.length = k0 := ⟨_, rfl⟩
  have HL := Lib.hid (And.intro hL (And.intro hl (And.intro hk0 (show Small l from hl ▸ small_few _))))
  obtain ⟨ec, al, ka, ha, hka⟩ := pu_pair l y0 t
  obtain ⟨gc, cl, kc, hc, hkc⟩ := tk_pair l y0
  obtain ⟨it, hit⟩ : ∃ it, tkX l y0 = it := ⟨_, rfl⟩
  have M := Lib.hid (And.intro ha (And.intro hka (And.intro hc (And.intro hkc hit))))
  clear hg hL z z1 hl hk0 ha hka hc hkc hit
  go_enter Tryz.func6, Tryz.ntmps6
  go_wp2_with (go_at_call 12; refine (shown_e s _ D.out.ev).mono ?_)
  rintro e w1 ⟨rfl, hb⟩
  replace D := Lib.hid (D.out.more hb)
  have HF := Lib.hid (FewO_p HL.out.2.1 HL.out.2.2.1 (HL.out.1.more hb))
  clear hb
  go_wp2_with (go_at_call 13; refine HF.out.mono ?_)
  rintro e w2 ⟨vs, va, vc, rfl, hvs, hO, hb⟩
  replace D := Lib.hid (D.out.more hb)
  have L := Lib.hid (SO.mk hvs hO HL.out.2.2.2)
  clear hvs hO hb HF
  go_wp2_with (go_at_call 15; refine (HC0.out _).mono ?_)
  rintro e w3 ⟨rfl, rfl⟩
  go_wp2_with (go_at_call 33; refine (HC1.out _).mono ?_)
  rintro e w3 ⟨rfl, rfl⟩
  go_wp2_with (go_at_call 39; refine (Put_w HY1.out M.out.1 M.out.2.1 L.out D.out).mono ?_)
  rintro e wn ⟨vA, aA, cA, rfl, hA, hb⟩
  replace D := Lib.hid (D.out.more hb)
  replace L := Lib.hid (L.out.more hb)
  have A := Lib.hid hA
  clear hA hb
  go_wp2_with (go_at_call 15; refine (HC0.out _).mono ?_)
  rintro e w3 ⟨rfl, rfl⟩
  go_wp2_with (go_at_call 33; refine (HC1.out _).mono ?_)
  rintro e w3 ⟨rfl, rfl⟩
  go_wp2_with (go_at_call 40; refine (RPut_w HY1.out M.out.1 M.out.2.1 L.out).mono ?_)
  rintro e wn ⟨vB, aB, cB, rfl, hA, hb⟩
  replace D := Lib.hid (D.out.more hb)
  replace L := Lib.hid (L.out.more hb)
  replace A := Lib.hid (A.out.more hb)
  have B := Lib.hid hA
  clear hA hb
  go_wp2_with (go_at_call 15; refine (HC0.out _).mono ?_)
  rintro e w3 ⟨rfl, rfl⟩
  go_wp2_with (go_at_call 41; refine (Take_w M.out.2.2.2.2 M.out.2.2.1 M.out.2.2.2.1 L.out D.out).mono ?_)
  rintro e wn ⟨vC, aC, cC, rfl, hA, hb⟩
  replace D := Lib.hid (D.out.more hb)
  replace L := Lib.hid (L.out.more hb)
  replace A := Lib.hid (A.out.more hb)
  replace B := Lib.hid (B.out.more hb)
  have C := Lib.hid hA
  clear hA hb
  go_wp2_with (go_at_call 15; refine (HC0.out _).mono ?_)
  rintro e w3 ⟨rfl, rfl⟩
  go_wp2_with (go_at_call 42; refine (RTake_w M.out.2.2.2.2 M.out.2.2.1 M.out.2.2.2.1 L.out).mono ?_)
  rintro e wn ⟨vF, aF, cF, rfl, hA, hb⟩
  replace D := Lib.hid (D.out.more hb)
  replace A := Lib.hid (A.out.more hb)
  replace B := Lib.hid (B.out.more hb)
  replace C := Lib.hid (C.out.more hb)
  have F := Lib.hid hA
  clear hA hb
  go_wp2_with (go_at_call 27; refine (RSame_w (sameL_self al) A.out B.out).mono ?_)
  rintro e wn ⟨rfl, hb⟩
  replace D := Lib.hid (D.out.more hb)
  replace C := Lib.hid (C.out.more hb)
  replace F := Lib.hid (F.out.more hb)
  clear hb
  go_wp2_with (go_at_call 27; refine (RSame_w (sameL_self cl) C.out F.out).mono ?_)
  rintro e wn ⟨rfl, hb⟩
  replace D := Lib.hid (D.out.more hb)
  clear hb
  go_wp2
  go_ret
  exact ⟨rfl, D.out.below⟩

end Go.Proofs.YtnbpfbmhheimbaaGreatDoor
