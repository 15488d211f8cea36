/- WorldSeen: the walk. -/
import Derived.Test.YtlafcplcjpcikaaGreatDoorWdE
import Derived.Test.YtlafcplcjpcikaaGreatDoorLbA
import Derived.Test.YtlafcplcjpcikaaGreatDoorWdA
import Derived.Deep.RegionHeld3
namespace Go.Proofs.YtlafcplcjpcikaaGreatDoor
open Go.RowKit Go.Proofs.Fld Go.Proofs.Rng Go.Proofs.Spc Go.Proofs.Cats Go.Proofs.Wld Go.Shelf Go.Sort

theorem st_pairS (l : List Pt) (a : Lab) (m : List Ob) : ∃ c y k, setW l a m = (c, y) ∧ y.length = k := ⟨_, _, _, rfl, rfl⟩

set_option maxRecDepth 100000 in
set_option maxHeartbeats 4000000 in
theorem wseen_walk {s : Sn} (ao : Option Addr) (len cap : Nat) (zs : List Pv) (a b : Lab) (ha : a.fits) (hb0 : b.fits) (ao2 : Option Addr) (len2 cap2 : Nat) (zs2 : List Ov) (w : World) (hg : Ev s w) (hL : Parts w ao len cap zs) (hM : Objs w ao2 len2 cap2 zs2) :
    Calls Tryz.prog 6 #[.slice ao len cap, .agg #[.int .i64 a.l, .int .u64 a.c, .int .i64 a.i], .agg #[.int .i64 b.l, .int .u64 b.c, .int .i64 b.i], .slice ao2 len2 cap2] w (BoolP true w) := by
  obtain ⟨l, hl⟩ : ∃ l, fewW (pts zs) = l := ⟨_, rfl⟩
  obtain ⟨k0, hk0⟩ : ∃ k0, l.length = k0 := ⟨_, rfl⟩
  have HL0 := Lib.hid (show l.length ≤ 8 from hl ▸ fewW_length _)
  have HLe := Lib.hid (And.intro hl hk0)
  obtain ⟨m, hm⟩ : ∃ l, fewL (obs zs2) = l := ⟨_, rfl⟩
  obtain ⟨km, hkm⟩ : ∃ k0, m.length = k0 := ⟨_, rfl⟩
  have EhM := Lib.hid (And.intro hm hkm)
  have ShM := Lib.hid (show Small m from hm ▸ small_few _)
  obtain ⟨ec, y, ky, hy, hky⟩ := st_pairS l a m
  obtain ⟨s1, hs1⟩ : ∃ s, seenW y b = s := ⟨_, rfl⟩
  obtain ⟨k1, hk1⟩ : ∃ k, s1.length = k := ⟨_, rfl⟩
  obtain ⟨s2, hs2⟩ : ∃ s, seenW l b = s := ⟨_, rfl⟩
  obtain ⟨k2, hk2⟩ : ∃ k, s2.length = k := ⟨_, rfl⟩
  have Y := Lib.hid (And.intro hy (And.intro hky (And.intro hs1 (And.intro hk1 (And.intro hs2 hk2)))))
  have T := Lib.hid (show ec = 0 → a.under b = false → sameW s1 s2 = true from fun h h2 => by
    subst h
    rw [← hs1, ← hs2, (set_some hy).2.2.2, seen_put _ _ h2]
    exact sameW_self _)
  have U := Lib.hid (show ∀ (j : Nat) (z : Pt), s1[j]? = some z → z.a.under b = true from fun j z hz => seen_under z (hs1 ▸ List.mem_of_getElem? hz))
  have HA := Lib.hid (And.intro ha hb0)
  clear hy hky hs1 hk1 hs2 hk2 ha hb0
  have HB := Lib.hid (Below.refl w.heap.size w)
  have N0 := Below.new w (.cells #[.int .i64 a.l, .int .u64 a.c, .int .i64 a.i] 25)
  have N1 := Below.new (w.alloc (.cells #[.int .i64 a.l, .int .u64 a.c, .int .i64 a.i] 25)) (.cells #[.int .i64 b.l, .int .u64 b.c, .int .i64 b.i] 25)
  have hb := below_more N0 N1
  have A := Lib.hid (LabAt.new w a 25)
  replace A := Lib.hid (A.out.more N1)
  have hB1 := LabAt.new (w.alloc (.cells #[.int .i64 a.l, .int .u64 a.c, .int .i64 a.i] 25)) b 25
  have hz1 : (w.alloc (.cells #[.int .i64 a.l, .int .u64 a.c, .int .i64 a.i] 25)).heap.size = w.heap.size + 1 := by simp
  have B := Lib.hid (show LabAt ((w.alloc (.cells #[.int .i64 a.l, .int .u64 a.c, .int .i64 a.i] 25)).alloc (.cells #[.int .i64 b.l, .int .u64 b.c, .int .i64 b.i] 25)) (w.heap.size + 1) b from hz1 ▸ hB1)
  clear hB1 hz1
  have D := Lib.hid ((WE.of hg).more hb)
  have IhL := Lib.hid (hL.more hb)
  have IhM := Lib.hid (hM.more hb)
  clear HB hb hg hl hk0 N0 N1 hL hM hm hkm
  go_enter Tryz.func6, Tryz.ntmps6
  go_wp2_with (go_at_call 10; refine (shown_w s _ D.out.ev).mono ?_)
  rintro e wn ⟨rfl, hb⟩
  replace D := Lib.hid (D.out.more hb)
  replace A := Lib.hid (A.out.more hb)
  replace B := Lib.hid (B.out.more hb)
  replace IhL := Lib.hid (IhL.out.more hb)
  replace IhM := Lib.hid (IhM.out.more hb)
  clear hb
  go_wp2_with (go_at_call 11; refine (FewW_g HLe.out.1 HLe.out.2 IhL.out).mono ?_)
  rintro e wn ⟨vL, aL, cL, rfl, hA, hO2⟩
  have hb := hO2.below
  replace D := Lib.hid (D.out.more hb)
  replace A := Lib.hid (A.out.more hb)
  replace B := Lib.hid (B.out.more hb)
  replace IhM := Lib.hid (IhM.out.more hb)
  have L := Lib.hid hA
  clear hA hO2 IhL
  clear hb
  obtain ⟨wr, hwr⟩ : ∃ wr, wn = wr := ⟨_, rfl⟩
  rw [hwr] at D A B L IhM
  rw [hwr]
  clear hwr
  have hD : Below wr.heap.size wr wr.drew := (Below.refl _ _).drew
  have A2 := A.out.more hD
  obtain ⟨d0, d1, d2⟩ := A2
  have HM := Lib.hid (FewO_g EhM.out.1 EhM.out.2 (IhM.out.more hD))
  replace L := Lib.hid (L.out.more hD)
  replace D := Lib.hid (D.out.more hD)
  replace A := Lib.hid (A.out.more hD)
  replace B := Lib.hid (B.out.more hD)
  clear hD IhM
  go_wp2
  go_region_held3 (fun w' => w'.cell? ⟨w.heap.size, 0, none⟩ = some (.int .i64 a.l) ∧ w'.cell? ⟨w.heap.size, 1, none⟩ = some (.int .u64 a.c) ∧ w'.cell? ⟨w.heap.size, 2, none⟩ = some (.int .i64 a.i))
    (first | (with_reducible exact ⟨d0, d1, d2⟩) | (with_reducible exact ⟨e0, e1, e2⟩) | (with_reducible exact ⟨f0, f1, f2⟩))
    (first
      | (go_at_call 23; ((with_reducible refine HM.out.mono ?_); rintro e w3 ⟨vM, aM, cM, rfl, hvs, hO, _, _, hb3⟩; have e0 := cell_later hb3 d0; have e1 := cell_later hb3 d1; have e2 := cell_later hb3 d2; have HX := Lib.hid (GSet_w (Nat.le_trans HL0.out (by omega)) HA.out.1 Y.out.1 Y.out.2.1 (L.out.more hb3) (SO.mk hvs hO ShM.out) (D.out.more hb3))))
      | (go_at_call 24; ((with_reducible refine HX.out.mono ?_); rintro e w4 ⟨vX, aX, cX, rfl, hA, _, hb4⟩; have f0 := cell_later hb4 e0; have f1 := cell_later hb4 e1; have f2 := cell_later hb4 e2)))
  all_goals
    have X := Lib.hid hA
    replace D := Lib.hid ((D.out.more hb3).more hb4)
    replace A := Lib.hid ((A.out.more hb3).more hb4)
    replace B := Lib.hid ((B.out.more hb3).more hb4)
    replace L := Lib.hid ((L.out.more hb3).more hb4)
    clear hA hb3 hb4 hvs hO d0 d1 d2 e0 e1 e2 f0 f1 f2 HX HM
    by_cases he : ec = 0
    · subst he
      obtain ⟨q00, q01, q02⟩ := B.out
      go_wp2_with (go_at_call 18; refine (GSeen_w HA.out.2 Y.out.2.2.1 Y.out.2.2.2.1 X.out D.out).mono ?_)
      rintro e wn ⟨vS, aS, cS, rfl, hA, _, hb⟩
      replace D := Lib.hid (D.out.more hb)
      replace A := Lib.hid (A.out.more hb)
      replace B := Lib.hid (B.out.more hb)
      replace L := Lib.hid (L.out.more hb)
      have S := Lib.hid hA
      clear hA hb q00 q01 q02 X
      have hk10 := S.out.le
      have hkl := Lib.hid S.out.len
      obtain ⟨wb, hwb⟩ : ∃ wb, wn = wb := ⟨_, rfl⟩
      rw [hwb] at D A B L S
      rw [hwb]
      clear hwb
      go_wp2
      go_loopw [13] (fun v wr => ∃ k : Nat, k ≤ k1 ∧ v = .int .i64 k ∧ Hid (WE s w wr) ∧ Hid (LabAt wr w.heap.size a) ∧ Hid (LabAt wr (w.heap.size + 1) b) ∧ Hid (SP wr aL k0 cL vL l) ∧ Hid (SP wr aS k1 cS vS s1)) (fun v _ => k1 - (intOf v).toNat)
      case atStart => exact ⟨0, Nat.zero_le _, rfl, D.out, A.out, B.out, L.out, S.out⟩
      case round =>
        clear D A B L S
        obtain ⟨k, hk, rfl, D, A, B, L, S⟩ := hrel
        by_cases hlt : k < k1
        · obtain ⟨y2, hy2⟩ : ∃ y, s1[k]? = some y := ⟨_, List.getElem?_eq_getElem (by rw [hkl.out]; exact hlt)⟩
          have hd1 : decide ((k : Int) < (k1 : Int)) = true := decide_eq_true (by omega)
          have hu := U.out k y2 hy2
          have hD : Below wr.heap.size wr wr.drew := (Below.refl _ _).drew
          replace L := Lib.hid (L.out.more hD)
          replace D := Lib.hid (D.out.more hD)
          replace A := Lib.hid (A.out.more hD)
          replace B := Lib.hid (B.out.more hD)
          obtain ⟨bb, off, x, rfl, hx, hpl, hpa, _⟩ := (S.out.more hD).cell hy2
          replace S := Lib.hid (S.out.more hD)
          subst hx
          obtain ⟨d0, d1, d2, _⟩ := hpa
          obtain ⟨d3, d4, d5⟩ := B.out
          have HU := Lib.hid (Lb.Under_any x.a b hpl.f HA.out.2 wr.drew)
          have hu2 : x.a.under b = true := hu
          rw [hu2] at HU
          have i2 : (k : Int) < (k1 : Int) := by omega
          clear hu hu2 hpl hy2 hD
          go_wp2
          go_region_held3 (fun w' => w'.cell? ⟨bb, off + k * 4, none⟩ = some (.int .i64 x.a.l) ∧ w'.cell? ⟨bb, off + k * 4 + 1, none⟩ = some (.int .u64 x.a.c) ∧ w'.cell? ⟨bb, off + k * 4 + 2, none⟩ = some (.int .i64 x.a.i) ∧ w'.cell? ⟨w.heap.size + 1, 0, none⟩ = some (.int .i64 b.l) ∧ w'.cell? ⟨w.heap.size + 1, 1, none⟩ = some (.int .u64 b.c) ∧ w'.cell? ⟨w.heap.size + 1, 2, none⟩ = some (.int .i64 b.i))
            (first | (with_reducible exact ⟨d0, d1, d2, d3, d4, d5⟩) | (with_reducible exact ⟨e0, e1, e2, e3, e4, e5⟩))
            (first | (go_at_call 26; ((with_reducible refine HU.out.mono ?_); rintro e we ⟨rfl, hb3⟩; have e0 := cell_later hb3 d0; have e1 := cell_later hb3 d1; have e2 := cell_later hb3 d2; have e3 := cell_later hb3 d3; have e4 := cell_later hb3 d4; have e5 := cell_later hb3 d5)))
          all_goals
            have D2 := Lib.hid (D.out.more hb3)
            have A2 := Lib.hid (A.out.more hb3)
            have B2 := Lib.hid (B.out.more hb3)
            have L2 := Lib.hid (L.out.more hb3)
            have S2 := Lib.hid (S.out.more hb3)
            clear hb3 d0 d1 d2 d3 d4 d5 e0 e1 e2 e3 e4 e5
            go_wp2
            go_roundw
            case rel => exact ⟨k + 1, by omega, by simp, D2.out, A2.out, B2.out, L2.out, S2.out⟩
            case measure => simp [intOf]; omega
        · obtain rfl : k = k1 := by omega
          have hd1 : decide ((k : Int) < (k : Int)) = false := decide_eq_false (by omega)
          cases hu : a.under b with
          | true =>
            have HU := Lib.hid hu
            obtain ⟨q00, q01, q02⟩ := A.out
            obtain ⟨q10, q11, q12⟩ := B.out
            clear hu
            go_wp2_with (go_at_call 26; refine (Lb.Under_any a b HA.out.1 HA.out.2 _).mono ?_)
            rintro e wn ⟨rfl, hb⟩
            rw [HU.out]
            replace D := Lib.hid (D.out.more hb)
            clear hb q00 q01 q02 q10 q11 q12
            go_wp2
            go_ret
            exact ⟨rfl, D.out.below⟩
          | false =>
            have HU := Lib.hid hu
            have HT := Lib.hid (T.out (by first | rfl | trivial) hu)
            obtain ⟨q00, q01, q02⟩ := A.out
            obtain ⟨q10, q11, q12⟩ := B.out
            clear hu
            go_wp2_with (go_at_call 26; refine (Lb.Under_any a b HA.out.1 HA.out.2 _).mono ?_)
            rintro e wn ⟨rfl, hb⟩
            rw [HU.out]
            replace D := Lib.hid (D.out.more hb)
            replace B := Lib.hid (B.out.more hb)
            replace L := Lib.hid (L.out.more hb)
            replace S := Lib.hid (S.out.more hb)
            clear hb q00 q01 q02 q10 q11 q12
            obtain ⟨q10, q11, q12⟩ := B.out
            go_wp2_with (go_at_call 18; refine (GSeen_w HA.out.2 Y.out.2.2.2.2.1 Y.out.2.2.2.2.2 L.out D.out).mono ?_)
            rintro e wn ⟨vZ, aZ, cZ, rfl, hA, _, hb⟩
            replace D := Lib.hid (D.out.more hb)
            replace S := Lib.hid (S.out.more hb)
            have Z := Lib.hid hA
            clear hA hb q10 q11 q12
            go_wp2_with (go_at_call 22; refine (GSame_w HT.out S.out Z.out D.out).mono ?_)
            rintro e wn ⟨rfl, hb⟩
            replace D := Lib.hid (D.out.more hb)
            clear hb
            go_wp2
            go_ret
            exact ⟨rfl, D.out.below⟩
    · have bh : (ec != 0) = true := by simpa using he
      go_wp2
      go_ret
      exact ⟨rfl, D.out.below⟩

end Go.Proofs.YtlafcplcjpcikaaGreatDoor
