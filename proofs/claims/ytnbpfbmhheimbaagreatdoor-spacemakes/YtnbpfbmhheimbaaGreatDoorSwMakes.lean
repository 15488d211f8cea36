/- SpaceMakes: the walk. -/
import Derived.Test.YtnbpfbmhheimbaaGreatDoorSpPairs
import Derived.Test.YtnbpfbmhheimbaaGreatDoorSpRefW
import Derived.Test.YtnbpfbmhheimbaaGreatDoorSpRefQ
import Derived.Test.YtnbpfbmhheimbaaGreatDoorSpRefMk
import Derived.Test.YtnbpfbmhheimbaaGreatDoorSpNames
namespace Go.Proofs.YtnbpfbmhheimbaaGreatDoor
open Go.RowKit Go.Proofs.Fld Go.Proofs.Rng Go.Proofs.Spc Go.Shelf Go.Sort


set_option maxRecDepth 100000 in
set_option maxHeartbeats 4000000 in
theorem makes_walk {s : Sn} (ao : Option Addr) (len cap : Nat) (zs : List Ov) (q : Int) (x0 : It) (k n : Int) (z : x0.length ≤ 9223372036854775807) (w : World) (hg : Ev s w) (hL : Objs w ao len cap zs) :
    Calls Tryz.prog 4 #[.slice ao len cap, .int .i64 q, .string (bs x0), .int .i64 k, .int .i64 n] w (BoolP true w) := by
  have D := Lib.hid (WE.of hg)
  obtain ⟨y0, hy0⟩ : ∃ y, x0.take 50 = y := ⟨_, rfl⟩
  have HC0 := Lib.hid (fun W => cutN_any x0 z W)
  rw [hy0] at HC0
  have HY0 := Lib.hid (hy0 ▸ cut_len x0)
  clear hy0
  obtain ⟨l, hl⟩ : ∃ l, fewL (obs zs) = l := ⟨_, rfl⟩
  obtain ⟨k0, hk0⟩ : ∃ k0, l.length = k0 := ⟨_, rfl⟩
  have HL := Lib.hid (And.intro hL (And.intro hl (And.intro hk0 (show Small l from hl ▸ small_few _))))
  obtain ⟨ec, al, ka, ha, hka⟩ := mk_pair l q y0 k n
  obtain ⟨gc, cl, kc, hc, hkc⟩ := dr_pair l y0
  have M := Lib.hid (And.intro ha (And.intro hka (And.intro hc hkc)))
  clear hg hL z hl hk0 ha hka hc hkc
  go_enter Tryz.func4, Tryz.ntmps4
  go_wp2_with (go_at_call 12; refine (shown_e s _ D.out.ev).mono ?_)
  rintro e w1 ⟨rfl, hb⟩
  replace D := Lib.hid (D.out.more hb)
  have HF := Lib.hid (FewO_p HL.out.2.1 HL.out.2.2.1 (HL.out.1.more hb))
  clear hb
  go_wp2_with (go_at_call 13; refine HF.out.mono ?_)
  rintro e w2 ⟨vs, va, vc, rfl, hvs, hO, hb⟩
  replace D := Lib.hid (D.out.more hb)
  have L := Lib.hid (SO.mk hvs hO HL.out.2.2.2)
  clear hvs hO hb HF
  go_wp2_with (go_at_call 15; refine (HC0.out _).mono ?_)
  rintro e w3 ⟨rfl, rfl⟩
  go_wp2_with (go_at_call 28; refine (Make_w M.out.1 M.out.2.1 HY0.out L.out D.out).mono ?_)
  rintro e wn ⟨vA, aA, cA, rfl, hA, hb⟩
  replace D := Lib.hid (D.out.more hb)
  replace L := Lib.hid (L.out.more hb)
  have A := Lib.hid hA
  clear hA hb
  go_wp2_with (go_at_call 15; refine (HC0.out _).mono ?_)
  rintro e w3 ⟨rfl, rfl⟩
  go_wp2_with (go_at_call 29; refine (RMake_w M.out.1 M.out.2.1 HY0.out L.out).mono ?_)
  rintro e wn ⟨vB, aB, cB, rfl, hA, hb⟩
  replace D := Lib.hid (D.out.more hb)
  replace L := Lib.hid (L.out.more hb)
  replace A := Lib.hid (A.out.more hb)
  have B := Lib.hid hA
  clear hA hb
  go_wp2_with (go_at_call 15; refine (HC0.out _).mono ?_)
  rintro e w3 ⟨rfl, rfl⟩
  go_wp2_with (go_at_call 30; refine (Drop_w M.out.2.2.1 M.out.2.2.2 L.out D.out).mono ?_)
  rintro e wn ⟨vC, aC, cC, rfl, hA, hb⟩
  replace D := Lib.hid (D.out.more hb)
  replace L := Lib.hid (L.out.more hb)
  replace A := Lib.hid (A.out.more hb)
  replace B := Lib.hid (B.out.more hb)
  have C := Lib.hid hA
  clear hA hb
  go_wp2_with (go_at_call 15; refine (HC0.out _).mono ?_)
  rintro e w3 ⟨rfl, rfl⟩
  go_wp2_with (go_at_call 31; refine (RDrop_w M.out.2.2.1 M.out.2.2.2 L.out).mono ?_)
  rintro e wn ⟨vF, aF, cF, rfl, hA, hb⟩
  replace D := Lib.hid (D.out.more hb)
  replace A := Lib.hid (A.out.more hb)
  replace B := Lib.hid (B.out.more hb)
  replace C := Lib.hid (C.out.more hb)
  have F := Lib.hid hA
  clear hA hb
  go_wp2_with (go_at_call 27; refine (RSame_w (sameL_self al) A.out B.out).mono ?_)
  rintro e wn ⟨rfl, hb⟩
  replace D := Lib.hid (D.out.more hb)
  replace C := Lib.hid (C.out.more hb)
  replace F := Lib.hid (F.out.more hb)
  clear hb
  go_wp2_with (go_at_call 27; refine (RSame_w (sameL_self cl) C.out F.out).mono ?_)
  rintro e wn ⟨rfl, hb⟩
  replace D := Lib.hid (D.out.more hb)
  clear hb
  go_wp2
  go_ret
  exact ⟨rfl, D.out.below⟩

end Go.Proofs.YtnbpfbmhheimbaaGreatDoor
