/- WorldSets: the walk. -/
import Derived.Test.YtlafcplcjpcikaaGreatDoorWdE
import Derived.Test.YtlafcplcjpcikaaGreatDoorWdSet
import Derived.Test.YtlafcplcjpcikaaGreatDoorWdSame
namespace Go.Proofs.YtlafcplcjpcikaaGreatDoor
open Go.RowKit Go.Proofs.Fld Go.Proofs.Rng Go.Proofs.Spc Go.Proofs.Cats Go.Proofs.Wld Go.Shelf Go.Sort

theorem st_pair (l : List Pt) (a : Lab) (m : List Ob) : ∃ c y k, setW l a m = (c, y) ∧ y.length = k := ⟨_, _, _, rfl, rfl⟩

set_option maxRecDepth 100000 in
set_option maxHeartbeats 4000000 in
theorem wsets_walk {s : Sn} (ao : Option Addr) (len cap : Nat) (zs : List Pv) (a : Lab) (ha : a.fits) (ao2 : Option Addr) (len2 cap2 : Nat) (zs2 : List Ov) (w : World) (hg : Ev s w) (hL : Parts w ao len cap zs) (hM : Objs w ao2 len2 cap2 zs2) :
    Calls Tryz.prog 4 #[.slice ao len cap, .agg #[.int .i64 a.l, .int .u64 a.c, .int .i64 a.i], .slice ao2 len2 cap2] w (BoolP true w) := by
  obtain ⟨l, hl⟩ : ∃ l, fewW (pts zs) = l := ⟨_, rfl⟩
  obtain ⟨k0, hk0⟩ : ∃ k0, l.length = k0 := ⟨_, rfl⟩
  have HL0 := Lib.hid (show l.length ≤ 8 from hl ▸ fewW_length _)
  have HLe := Lib.hid (And.intro hl hk0)
  obtain ⟨m, hm⟩ : ∃ l, fewL (obs zs2) = l := ⟨_, rfl⟩
  obtain ⟨km, hkm⟩ : ∃ k0, m.length = k0 := ⟨_, rfl⟩
  have EhM := Lib.hid (And.intro hm hkm)
  have ShM := Lib.hid (show Small m from hm ▸ small_few _)
  obtain ⟨ec, y, ky, hy, hky⟩ := st_pair l a m
  have Y := Lib.hid (And.intro hy hky)
  have HA := Lib.hid ha
  clear hy hky ha
  have HB := Lib.hid (Below.refl w.heap.size w)
  have N0 := Below.new w (.cells #[.int .i64 a.l, .int .u64 a.c, .int .i64 a.i] 25)
  have hb := N0
  have A := Lib.hid (LabAt.new w a 25)
  have D := Lib.hid ((WE.of hg).more hb)
  have IhL := Lib.hid (hL.more hb)
  have IhM := Lib.hid (hM.more hb)
  clear HB hb hg hl hk0 N0 hL hM hm hkm
  go_enter Tryz.func4, Tryz.ntmps4
  go_wp2_with (go_at_call 10; refine (shown_w s _ D.out.ev).mono ?_)
  rintro e wn ⟨rfl, hb⟩
  replace D := Lib.hid (D.out.more hb)
  replace A := Lib.hid (A.out.more hb)
  replace IhL := Lib.hid (IhL.out.more hb)
  replace IhM := Lib.hid (IhM.out.more hb)
  clear hb
  go_wp2_with (go_at_call 11; refine (FewW_g HLe.out.1 HLe.out.2 IhL.out).mono ?_)
  rintro e wn ⟨vL, aL, cL, rfl, hA, hO2⟩
  have hb := hO2.below
  replace D := Lib.hid (D.out.more hb)
  replace A := Lib.hid (A.out.more hb)
  replace IhM := Lib.hid (IhM.out.more hb)
  have L := Lib.hid hA
  clear hA hO2 IhL
  clear hb
  go_wp2_with (go_at_call 23; refine (FewO_g EhM.out.1 EhM.out.2 IhM.out).mono ?_)
  rintro e wn ⟨vM, aM, cM, rfl, hvs, hO, _, _, hb⟩
  replace D := Lib.hid (D.out.more hb)
  replace A := Lib.hid (A.out.more hb)
  replace L := Lib.hid (L.out.more hb)
  have M := Lib.hid (SO.mk hvs hO ShM.out)
  clear hvs hO IhM
  clear hb
  obtain ⟨q00, q01, q02⟩ := A.out
  go_wp2_with (go_at_call 24; refine (GSet_w (Nat.le_trans HL0.out (by omega)) HA.out Y.out.1 Y.out.2 L.out M.out D.out).mono ?_)
  rintro e wn ⟨vX, aX, cX, rfl, hA, _, hb⟩
  replace D := Lib.hid (D.out.more hb)
  replace A := Lib.hid (A.out.more hb)
  replace L := Lib.hid (L.out.more hb)
  replace M := Lib.hid (M.out.more hb)
  have X := Lib.hid hA
  clear hA
  clear hb q00 q01 q02
  obtain ⟨q00, q01, q02⟩ := A.out
  go_wp2_with (go_at_call 25; refine (RWSet_w (Nat.le_trans HL0.out (by omega)) HA.out Y.out.1 Y.out.2 L.out M.out).mono ?_)
  rintro e wn ⟨vZ, aZ, cZ, rfl, hA, hb⟩
  replace D := Lib.hid (D.out.more hb)
  replace X := Lib.hid (X.out.more hb)
  have Z := Lib.hid hA
  clear hA
  clear hb q00 q01 q02
  go_wp2_with (go_at_call 17; refine (RWSame_w (sameW_self y) X.out Z.out).mono ?_)
  rintro e wn ⟨rfl, hb⟩
  replace D := Lib.hid (D.out.more hb)
  clear hb
  go_wp2
  go_ret
  exact ⟨rfl, D.out.below⟩

end Go.Proofs.YtlafcplcjpcikaaGreatDoor
