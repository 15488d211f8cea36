/- SpaceTells: the walk. -/
import Derived.Test.YtnbpfbmhheimbaaGreatDoorSpPairs
import Derived.Test.YtnbpfbmhheimbaaGreatDoorSpRefW
import Derived.Test.YtnbpfbmhheimbaaGreatDoorSpRefQ
import Derived.Test.YtnbpfbmhheimbaaGreatDoorSpRefMk
import Derived.Test.YtnbpfbmhheimbaaGreatDoorSpNames
namespace Go.Proofs.YtnbpfbmhheimbaaGreatDoor
open Go.RowKit Go.Proofs.Fld Go.Proofs.Rng Go.Proofs.Spc Go.Shelf Go.Sort


set_option maxRecDepth 100000 in
set_option maxHeartbeats 4000000 in
theorem tells_walk {s : Sn} (ao : Option Addr) (len cap : Nat) (zs : List Ov) (x0 : It) (ao2 : Option Addr) (len2 cap2 : Nat) (zs2 : List Ov) (z : x0.length ≤ 9223372036854775807) (w : World) (hg : Ev s w) (hL : Objs w ao len cap zs) (hM : Objs w ao2 len2 cap2 zs2) :
    Calls Tryz.prog 3 #[.slice ao len cap, .string (bs x0), .slice ao2 len2 cap2] w (BoolP true w) := by
  have D := Lib.hid (WE.of hg)
  obtain ⟨y0, hy0⟩ : ∃ y, x0.take 50 = y := ⟨_, rfl⟩
  have HC0 := Lib.hid (fun W => cutN_any x0 z W)
  rw [hy0] at HC0
  have HY0 := Lib.hid (hy0 ▸ cut_len x0)
  clear hy0
  obtain ⟨l, hl⟩ : ∃ l, fewL (obs zs) = l := ⟨_, rfl⟩
  obtain ⟨k0, hk0⟩ : ∃ k0, l.length = k0 := ⟨_, rfl⟩
  have HL := Lib.hid (And.intro hL (And.intro hl (And.intro hk0 (show Small l from hl ▸ small_few _))))
  obtain ⟨m, hm⟩ : ∃ m, fewL (obs zs2) = m := ⟨_, rfl⟩
  obtain ⟨k1, hk1⟩ : ∃ k1, m.length = k1 := ⟨_, rfl⟩
  have HM := Lib.hid (And.intro hM (And.intro hm (And.intro hk1 (show Small m from hm ▸ small_few _))))
  obtain ⟨nb, hnb⟩ : ∃ b, nameB y0 = b := ⟨_, rfl⟩
  obtain ⟨rb, hrb⟩ : ∃ b, rightB l = b := ⟨_, rfl⟩
  obtain ⟨cc, hcc⟩ : ∃ c, costR l = c := ⟨_, rfl⟩
  obtain ⟨fi, hfi⟩ : ∃ c, findI l y0 = c := ⟨_, rfl⟩
  obtain ⟨sb, hsb⟩ : ∃ b, sameL l m = b := ⟨_, rfl⟩
  have M := Lib.hid (And.intro hrb (And.intro hcc (And.intro hfi hsb)))
  have HN1 := Lib.hid (fun W => isName_any y0 (Nat.le_trans HY0.out (by omega)) W)
  have HN2 := Lib.hid (fun W => refName_any y0 (Nat.le_trans HY0.out (by omega)) W)
  rw [hnb] at HN1 HN2
  clear hg hL hM z hl hk0 hm hk1 hnb hrb hcc hfi hsb
  go_enter Tryz.func3, Tryz.ntmps3
  go_wp2_with (go_at_call 12; refine (shown_e s _ D.out.ev).mono ?_)
  rintro e w1 ⟨rfl, hb⟩
  replace D := Lib.hid (D.out.more hb)
  have HF := Lib.hid (FewO_p HL.out.2.1 HL.out.2.2.1 (HL.out.1.more hb))
  have HM1 := Lib.hid (HM.out.1.more hb)
  clear hb
  go_wp2_with (go_at_call 13; refine HF.out.mono ?_)
  rintro e w2 ⟨vs, va, vc, rfl, hvs, hO, hb⟩
  replace D := Lib.hid (D.out.more hb)
  have L := Lib.hid (SO.mk hvs hO HL.out.2.2.2)
  have HF2 := Lib.hid (FewO_p HM.out.2.1 HM.out.2.2.1 (HM1.out.more hb))
  clear hvs hO hb HF HM1
  go_wp2_with (go_at_call 13; refine HF2.out.mono ?_)
  rintro e w4 ⟨us, ua, uc, rfl, hvs, hO, hb⟩
  replace D := Lib.hid (D.out.more hb)
  replace L := Lib.hid (L.out.more hb)
  have S := Lib.hid (SO.mk hvs hO HM.out.2.2.2)
  clear hvs hO hb HF2
  go_wp2_with (go_at_call 15; refine (HC0.out _).mono ?_)
  rintro e w3 ⟨rfl, rfl⟩
  go_wp2_with (go_at_call 14; refine (HN1.out _).mono ?_)
  rintro e wn ⟨rfl, hb⟩
  replace D := Lib.hid (D.out.more hb)
  replace L := Lib.hid (L.out.more hb)
  replace S := Lib.hid (S.out.more hb)
  clear hb
  go_wp2_with (go_at_call 15; refine (HC0.out _).mono ?_)
  rintro e w3 ⟨rfl, rfl⟩
  go_wp2_with (go_at_call 16; refine (HN2.out _).mono ?_)
  rintro e wn ⟨rfl, hb⟩
  replace D := Lib.hid (D.out.more hb)
  replace L := Lib.hid (L.out.more hb)
  replace S := Lib.hid (S.out.more hb)
  clear hb
  go_wp2_with (go_at_call 17; refine (Right_w M.out.1 L.out D.out).mono ?_)
  rintro e wn ⟨rfl, hb⟩
  replace D := Lib.hid (D.out.more hb)
  replace L := Lib.hid (L.out.more hb)
  replace S := Lib.hid (S.out.more hb)
  clear hb
  go_wp2_with (go_at_call 18; refine (RRight_w M.out.1 L.out).mono ?_)
  rintro e wn ⟨rfl, hb⟩
  replace D := Lib.hid (D.out.more hb)
  replace L := Lib.hid (L.out.more hb)
  replace S := Lib.hid (S.out.more hb)
  clear hb
  go_wp2_with (go_at_call 19; refine (Cost_w M.out.2.1 L.out D.out).mono ?_)
  rintro e wn ⟨rfl, hb⟩
  replace D := Lib.hid (D.out.more hb)
  replace L := Lib.hid (L.out.more hb)
  replace S := Lib.hid (S.out.more hb)
  clear hb
  go_wp2_with (go_at_call 20; refine (RCost_w M.out.2.1 L.out).mono ?_)
  rintro e wn ⟨rfl, hb⟩
  replace D := Lib.hid (D.out.more hb)
  replace L := Lib.hid (L.out.more hb)
  replace S := Lib.hid (S.out.more hb)
  clear hb
  go_wp2_with (go_at_call 15; refine (HC0.out _).mono ?_)
  rintro e w3 ⟨rfl, rfl⟩
  go_wp2_with (go_at_call 21; refine (Find_w M.out.2.2.1 L.out).mono ?_)
  rintro e wn ⟨rfl, hb⟩
  replace D := Lib.hid (D.out.more hb)
  replace L := Lib.hid (L.out.more hb)
  replace S := Lib.hid (S.out.more hb)
  clear hb
  go_wp2_with (go_at_call 15; refine (HC0.out _).mono ?_)
  rintro e w3 ⟨rfl, rfl⟩
  go_wp2_with (go_at_call 22; refine (RFind_w M.out.2.2.1 L.out).mono ?_)
  rintro e wn ⟨rfl, hb⟩
  replace D := Lib.hid (D.out.more hb)
  replace L := Lib.hid (L.out.more hb)
  replace S := Lib.hid (S.out.more hb)
  clear hb
  go_wp2_with (go_at_call 24; refine (Names_w L.out).mono ?_)
  rintro e wn ⟨aN1, cN1, rfl, hT, hb⟩
  replace D := Lib.hid (D.out.more hb)
  replace L := Lib.hid (L.out.more hb)
  replace S := Lib.hid (S.out.more hb)
  have N1 := Lib.hid hT
  clear hT hb
  go_wp2_with (go_at_call 25; refine (RNames_w L.out).mono ?_)
  rintro e wn ⟨aN2, cN2, rfl, hT, hb⟩
  replace D := Lib.hid (D.out.more hb)
  replace L := Lib.hid (L.out.more hb)
  replace S := Lib.hid (S.out.more hb)
  replace N1 := Lib.hid (N1.out.more hb)
  have N2 := Lib.hid hT
  clear hT hb
  have hk22 := L.out.le
  have HTX := Lib.hid (texts_any aN1 aN2 k0 k0 cN1 cN2 (nmsL l) (nmsL l) (by omega) (by omega) wn N1.out N2.out)
  rw [sameT_iff.2 rfl] at HTX
  clear hk22
  go_wp2_with (go_at_call 23; refine (HTX.out).mono ?_)
  rintro e wt ⟨rfl, hb⟩
  replace D := Lib.hid (D.out.more hb)
  replace L := Lib.hid (L.out.more hb)
  replace S := Lib.hid (S.out.more hb)
  clear hb
  go_wp2_with (go_at_call 26; refine (Same_w M.out.2.2.2 L.out S.out).mono ?_)
  rintro e wn ⟨rfl, hb⟩
  replace D := Lib.hid (D.out.more hb)
  replace L := Lib.hid (L.out.more hb)
  replace S := Lib.hid (S.out.more hb)
  clear hb
  go_wp2_with (go_at_call 27; refine (RSame_w M.out.2.2.2 L.out S.out).mono ?_)
  rintro e wn ⟨rfl, hb⟩
  replace D := Lib.hid (D.out.more hb)
  replace L := Lib.hid (L.out.more hb)
  replace S := Lib.hid (S.out.more hb)
  clear hb
  go_wp2_with (go_at_call 26; refine (Same_w (sameL_self l) L.out L.out).mono ?_)
  rintro e wn ⟨rfl, hb⟩
  replace D := Lib.hid (D.out.more hb)
  clear hb
  go_wp2
  go_ret
  exact ⟨rfl, D.out.below⟩

end Go.Proofs.YtnbpfbmhheimbaaGreatDoor
