/- WorldTells: the walk. -/
import Derived.Test.YtlafcplcjpcikaaGreatDoorWdE
import Derived.Test.YtlafcplcjpcikaaGreatDoorWdF
import Derived.Test.YtlafcplcjpcikaaGreatDoorWdSame
import Derived.Test.YtlafcplcjpcikaaGreatDoorSpF
import Derived.Deep.RegionHeld3
namespace Go.Proofs.YtlafcplcjpcikaaGreatDoor
open Go.RowKit Go.Proofs.Fld Go.Proofs.Rng Go.Proofs.Spc Go.Proofs.Cats Go.Proofs.Wld Go.Shelf Go.Sort

/-- What lives on through the region. -/
structure TlS (s : Sn) (w0 : World) (ba : Nat) (a : Lab) (aL : Option Addr) (k0 cL : Nat) (vL : List Pv) (l : List Pt) (aV : Option Addr) (kv cV : Nat) (vV : List Pv) (v : List Pt) (W : World) : Prop where
  D : WE s w0 W
  A : LabAt W ba a
  L : SP W aL k0 cL vL l
  V : SP W aV kv cV vV v
theorem TlS.more {s : Sn} {w0 : World} {ba : Nat} {a : Lab} {aL : Option Addr} {k0 cL : Nat} {vL : List Pv} {l : List Pt} {aV : Option Addr} {kv cV : Nat} {vV : List Pv} {v : List Pt} {W W' : World} (h : TlS s w0 ba a aL k0 cL vL l aV kv cV vV v W) (hb : Below W.heap.size W W') : TlS s w0 ba a aL k0 cL vL l aV kv cV vV v W' :=
  ⟨h.D.more hb, h.A.more hb, h.L.more hb, h.V.more hb⟩

set_option maxRecDepth 100000 in
set_option maxHeartbeats 4000000 in
theorem wtells_walk {s : Sn} (ao : Option Addr) (len cap : Nat) (zs : List Pv) (a : Lab) (ha : a.fits) (q : Int) (ao2 : Option Addr) (len2 cap2 : Nat) (zs2 : List Pv) (w : World) (hg : Ev s w) (hL : Parts w ao len cap zs) (hV : Parts w ao2 len2 cap2 zs2) :
    Calls Tryz.prog 3 #[.slice ao len cap, .agg #[.int .i64 a.l, .int .u64 a.c, .int .i64 a.i], .int .i64 q, .slice ao2 len2 cap2] w (BoolP true w) := by
  obtain ⟨l, hl⟩ : ∃ l, fewW (pts zs) = l := ⟨_, rfl⟩
  obtain ⟨k0, hk0⟩ : ∃ k0, l.length = k0 := ⟨_, rfl⟩
  have HL0 := Lib.hid (show l.length ≤ 8 from hl ▸ fewW_length _)
  have HLe := Lib.hid (And.intro hl hk0)
  obtain ⟨v, hv⟩ : ∃ l, fewW (pts zs2) = l := ⟨_, rfl⟩
  obtain ⟨kv, hkv⟩ : ∃ k0, v.length = k0 := ⟨_, rfl⟩
  have EhV := Lib.hid (And.intro hv hkv)
  obtain ⟨os, hos⟩ : ∃ os, getW l a = os := ⟨_, rfl⟩
  obtain ⟨ko, hko⟩ : ∃ k, os.length = k := ⟨_, rfl⟩
  obtain ⟨se, hse⟩ : ∃ s, seenW l a = s := ⟨_, rfl⟩
  obtain ⟨ks, hks⟩ : ∃ k, se.length = k := ⟨_, rfl⟩
  obtain ⟨rb, hrb⟩ : ∃ b, rightW l = b := ⟨_, rfl⟩
  obtain ⟨wi, hwi⟩ : ∃ b, withinW l q = b := ⟨_, rfl⟩
  obtain ⟨sb, hsb⟩ : ∃ b, sameW l v = b := ⟨_, rfl⟩
  have Y := Lib.hid (And.intro hos (And.intro hko (And.intro hse hks)))
  have G := Lib.hid (And.intro hrb (And.intro hwi hsb))
  have HA := Lib.hid ha
  clear hos hko hse hks hrb hwi hsb ha
  have HB := Lib.hid (Below.refl w.heap.size w)
  have N0 := Below.new w (.cells #[.int .i64 a.l, .int .u64 a.c, .int .i64 a.i] 25)
  have hb := N0
  have A := Lib.hid (LabAt.new w a 25)
  have D := Lib.hid ((WE.of hg).more hb)
  have IhL := Lib.hid (hL.more hb)
  have IhV := Lib.hid (hV.more hb)
  clear HB hb hg hl hk0 N0 hL hV hv hkv
  go_enter Tryz.func3, Tryz.ntmps3
  go_wp2_with (go_at_call 10; refine (shown_w s _ D.out.ev).mono ?_)
  rintro e wn ⟨rfl, hb⟩
  replace D := Lib.hid (D.out.more hb)
  replace A := Lib.hid (A.out.more hb)
  replace IhL := Lib.hid (IhL.out.more hb)
  replace IhV := Lib.hid (IhV.out.more hb)
  clear hb
  go_wp2_with (go_at_call 11; refine (FewW_g HLe.out.1 HLe.out.2 IhL.out).mono ?_)
  rintro e wn ⟨vL, aL, cL, rfl, hA, hO2⟩
  have hb := hO2.below
  replace D := Lib.hid (D.out.more hb)
  replace A := Lib.hid (A.out.more hb)
  replace IhV := Lib.hid (IhV.out.more hb)
  have L := Lib.hid hA
  clear hA hO2 IhL
  clear hb
  go_wp2_with (go_at_call 11; refine (FewW_g EhV.out.1 EhV.out.2 IhV.out).mono ?_)
  rintro e wn ⟨vV, aV, cV, rfl, hA, hO2⟩
  have hb := hO2.below
  replace D := Lib.hid (D.out.more hb)
  replace A := Lib.hid (A.out.more hb)
  replace L := Lib.hid (L.out.more hb)
  have V := Lib.hid hA
  clear hA hO2 IhV
  clear hb
  obtain ⟨wr, hwr⟩ : ∃ wr, wn = wr := ⟨_, rfl⟩
  rw [hwr] at D A L V
  rw [hwr]
  clear hwr
  have S0 := Lib.hid (TlS.more ⟨D.out, A.out, L.out, V.out⟩ (Below.refl _ wr).drew)
  clear D A L V
  obtain ⟨x00, x01, x02⟩ := S0.out.A
  have H0 := Lib.hid (GRight_w G.out.1 S0.out.L S0.out.D)
  go_wp2
  go_region_held3 (fun w' => w'.cell? ⟨w.heap.size, 0, none⟩ = some (.int .i64 a.l) ∧ w'.cell? ⟨w.heap.size, 1, none⟩ = some (.int .u64 a.c) ∧ w'.cell? ⟨w.heap.size, 2, none⟩ = some (.int .i64 a.i))
    (first | (with_reducible exact ⟨x00, x01, x02⟩) | (with_reducible exact ⟨x10, x11, x12⟩) | (with_reducible exact ⟨x20, x21, x22⟩) | (with_reducible exact ⟨x30, x31, x32⟩) | (with_reducible exact ⟨x40, x41, x42⟩) | (with_reducible exact ⟨x50, x51, x52⟩) | (with_reducible exact ⟨x60, x61, x62⟩) | (with_reducible exact ⟨x70, x71, x72⟩) | (with_reducible exact ⟨x80, x81, x82⟩) | (with_reducible exact ⟨x90, x91, x92⟩) | (with_reducible exact ⟨x100, x101, x102⟩) | (with_reducible exact ⟨x110, x111, x112⟩) | (with_reducible exact ⟨x120, x121, x122⟩) | (with_reducible exact ⟨x130, x131, x132⟩))
    (first
      | (go_at_call 12; ((with_reducible refine H0.out.mono ?_); rintro e wx ⟨rfl, hb1⟩; have S1 := Lib.hid (S0.out.more hb1); obtain ⟨x10, x11, x12⟩ := S1.out.A; have H1 := Lib.hid (RWRight_w G.out.1 S1.out.L)))
      | (go_at_call 13; ((with_reducible refine H1.out.mono ?_); rintro e wx ⟨rfl, hb2⟩; have S2 := Lib.hid (S1.out.more hb2); obtain ⟨x20, x21, x22⟩ := S2.out.A; have H2 := Lib.hid (GGet_w HA.out Y.out.1 Y.out.2.1 S2.out.L S2.out.D)))
      | (go_at_call 15; ((with_reducible refine H2.out.mono ?_); rintro e wx ⟨vG, aG, cG, rfl, hG, _, hb3⟩; have S3 := Lib.hid (S2.out.more hb3); obtain ⟨x30, x31, x32⟩ := S3.out.A; have H3 := Lib.hid (RWGet_w Y.out.1 Y.out.2.1 S3.out.L)))
      | (go_at_call 16; ((with_reducible refine H3.out.mono ?_); rintro e wx ⟨vP, aP, cP, rfl, hP, hb4⟩; have S4 := Lib.hid (S3.out.more hb4); obtain ⟨x40, x41, x42⟩ := S4.out.A; have H4 := Lib.hid (RSame_w (sameL_self os) (hG.more hb4) hP)))
      | (go_at_call 14; ((with_reducible refine H4.out.mono ?_); rintro e wx ⟨rfl, hb5⟩; have S5 := Lib.hid (S4.out.more hb5); obtain ⟨x50, x51, x52⟩ := S5.out.A; have H5 := Lib.hid (GSeen_w HA.out Y.out.2.2.1 Y.out.2.2.2 S5.out.L S5.out.D)))
      | (go_at_call 18; ((with_reducible refine H5.out.mono ?_); rintro e wx ⟨vX, aX, cX, rfl, hX, _, hb6⟩; have S6 := Lib.hid (S5.out.more hb6); obtain ⟨x60, x61, x62⟩ := S6.out.A; have H6 := Lib.hid (RWSeen_w HA.out Y.out.2.2.1 Y.out.2.2.2 (show Lb.ErrT _ from S6.out.D.ev.et) S6.out.L)))
      | (go_at_call 19; ((with_reducible refine H6.out.mono ?_); rintro e wx ⟨vZ, aZ, cZ, rfl, hZ, hb7⟩; have S7 := Lib.hid (S6.out.more hb7); obtain ⟨x70, x71, x72⟩ := S7.out.A; have H7 := Lib.hid (RWSame_w (sameW_self se) (hX.more hb7) hZ)))
      | (go_at_call 17; ((with_reducible refine H7.out.mono ?_); rintro e wx ⟨rfl, hb8⟩; have S8 := Lib.hid (S7.out.more hb8); obtain ⟨x80, x81, x82⟩ := S8.out.A; have H8 := Lib.hid (GWithin_w G.out.2.1 S8.out.L S8.out.D)))
      | (go_at_call 20; ((with_reducible refine H8.out.mono ?_); rintro e wx ⟨rfl, hb9⟩; have S9 := Lib.hid (S8.out.more hb9); obtain ⟨x90, x91, x92⟩ := S9.out.A; have H9 := Lib.hid (RWWithin_w G.out.2.1 S9.out.L)))
      | (go_at_call 21; ((with_reducible refine H9.out.mono ?_); rintro e wx ⟨rfl, hb10⟩; have S10 := Lib.hid (S9.out.more hb10); obtain ⟨x100, x101, x102⟩ := S10.out.A; have H10 := Lib.hid (GSame_w G.out.2.2 S10.out.L S10.out.V S10.out.D)))
      | (go_at_call 22; ((with_reducible refine H10.out.mono ?_); rintro e wx ⟨rfl, hb11⟩; have S11 := Lib.hid (S10.out.more hb11); obtain ⟨x110, x111, x112⟩ := S11.out.A; have H11 := Lib.hid (RWSame_w G.out.2.2 S11.out.L S11.out.V)))
      | (go_at_call 17; ((with_reducible refine H11.out.mono ?_); rintro e wx ⟨rfl, hb12⟩; have S12 := Lib.hid (S11.out.more hb12); obtain ⟨x120, x121, x122⟩ := S12.out.A; have H12 := Lib.hid (GSame_w (sameW_self l) S12.out.L S12.out.L S12.out.D)))
      | (go_at_call 22; ((with_reducible refine H12.out.mono ?_); rintro e wx ⟨rfl, hb13⟩; have S13 := Lib.hid (S12.out.more hb13); obtain ⟨x130, x131, x132⟩ := S13.out.A)))
  all_goals
    go_wp2
    go_ret
    exact ⟨rfl, S13.out.D.below⟩

end Go.Proofs.YtlafcplcjpcikaaGreatDoor
