/- WorldOwn: the walk. -/
import Derived.Test.YtlafcplcjpcikaaGreatDoorWdE
import Derived.Test.YtlafcplcjpcikaaGreatDoorWdSame
namespace Go.Proofs.Wld
open Go.Proofs.Cats Go.Proofs.Rng Go.Proofs.Spc
theorem fewI_few2 (l : List It) : fewI (fewI l) = fewI l := by
  have h1 := fewI_length l
  show fewK (fewI l) 40 = fewI l
  unfold fewK
  rw [List.take_of_length_le (by omega)]
  conv => rhs; rw [← List.map_id (fewI l)]
  refine List.map_congr_left fun x hx => ?_
  exact List.take_of_length_le (fewI_item hx)
theorem fewO_few (o : Ob) : fewO (fewO o) = fewO o := by
  unfold fewO
  simp only [List.take_take, Nat.min_self, fewI_few2]
theorem fewL_few (l : List Ob) : fewL (fewL l) = fewL l := by
  unfold fewL fewS
  rw [List.take_of_length_le (by rw [List.length_map, List.length_take]; omega), List.map_map]
  exact List.map_congr_left fun x _ => fewO_few x
theorem fewW_few (l : List Pt) : fewW (fewW l) = fewW l := by
  unfold fewW fewT
  rw [List.take_of_length_le (by rw [List.length_map, List.length_take]; omega), List.map_map]
  refine List.map_congr_left fun x _ => ?_
  exact Pt.ext rfl (fewL_few x.l)
end Go.Proofs.Wld
namespace Go.Proofs.YtlafcplcjpcikaaGreatDoor
open Go.RowKit Go.Proofs.Fld Go.Proofs.Rng Go.Proofs.Spc Go.Proofs.Cats Go.Proofs.Wld Go.Shelf Go.Sort

theorem st_pairO (l : List Pt) (a : Lab) (m : List Ob) : ∃ c y k, setW l a m = (c, y) ∧ y.length = k := ⟨_, _, _, rfl, rfl⟩

set_option maxRecDepth 100000 in
set_option maxHeartbeats 4000000 in
theorem wown_walk {s : Sn} (ao : Option Addr) (len cap : Nat) (zs : List Pv) (a : Lab) (ha : a.fits) (w : World) (hg : Ev s w) (hL : Parts w ao len cap zs) :
    Calls Tryz.prog 8 #[.slice ao len cap, .agg #[.int .i64 a.l, .int .u64 a.c, .int .i64 a.i]] w (BoolP true w) := by
  obtain ⟨l, hl⟩ : ∃ l, fewW (pts zs) = l := ⟨_, rfl⟩
  obtain ⟨k0, hk0⟩ : ∃ k0, l.length = k0 := ⟨_, rfl⟩
  have HL0 := Lib.hid (show l.length ≤ 8 from hl ▸ fewW_length _)
  have HLe := Lib.hid (And.intro hl hk0)
  obtain ⟨os, hos⟩ : ∃ os, getW l a = os := ⟨_, rfl⟩
  obtain ⟨ko, hko⟩ : ∃ k, os.length = k := ⟨_, rfl⟩
  obtain ⟨ec, y, ky, hy, hky⟩ := st_pairO l Lab.top []
  obtain ⟨se, hse⟩ : ∃ se, seenW l Lab.top = se := ⟨_, rfl⟩
  obtain ⟨ks, hks⟩ : ∃ k, se.length = k := ⟨_, rfl⟩
  have Y := Lib.hid (And.intro hos (And.intro hko (And.intro hy (And.intro hky (And.intro hse hks)))))
  have HFF := Lib.hid (show fewW l = l by rw [← hl]; exact fewW_few _)
  have HK := Lib.hid hk0
  have T := Lib.hid (show ¬ ec = 0 → ky = 0 from fun h => by rw [← hky, (set_none hy h).1]; rfl)
  have HA := Lib.hid ha
  clear hos hko hy hky hse hks ha
  have HB := Lib.hid (Below.refl w.heap.size w)
  have N0 := Below.new w (.cells #[.int .i64 a.l, .int .u64 a.c, .int .i64 a.i] 25)
  have hb := N0
  have A := Lib.hid (LabAt.new w a 25)
  have D := Lib.hid ((WE.of hg).more hb)
  have IhL := Lib.hid (hL.more hb)
  clear HB hb hg hl hk0 N0 hL 
  go_enter Tryz.func8, Tryz.ntmps8
  go_wp2_with (go_at_call 10; refine (shown_w s _ D.out.ev).mono ?_)
  rintro e wn ⟨rfl, hb⟩
  replace D := Lib.hid (D.out.more hb)
  replace A := Lib.hid (A.out.more hb)
  replace IhL := Lib.hid (IhL.out.more hb)
  clear hb
  go_wp2_with (go_at_call 11; refine (FewW_g HLe.out.1 HLe.out.2 IhL.out).mono ?_)
  rintro e wn ⟨vL, aL, cL, rfl, hA, hO2⟩
  have hb := hO2.below
  replace D := Lib.hid (D.out.more hb)
  replace A := Lib.hid (A.out.more hb)
  have L := Lib.hid hA
  clear hA hO2 IhL
  clear hb
  go_wp2_with (go_at_call 11; refine (FewW_g (l' := l) (by rw [L.out.e]; exact HFF.out) HK.out L.out.o).mono ?_)
  rintro e wn ⟨vV, aV, cV, rfl, hA, hO2⟩
  have hb := hO2.below
  replace D := Lib.hid (D.out.more hb)
  replace A := Lib.hid (A.out.more hb)
  replace L := Lib.hid (L.out.more hb)
  have V := Lib.hid hA
  clear hA hO2
  clear hb
  have L1 := Lib.hid L.out
  have V1 := Lib.hid V.out
  have D1 := Lib.hid D.out
  obtain ⟨W1, hW1⟩ : ∃ W1, wn = W1 := ⟨_, rfl⟩
  rw [hW1] at L1 V1 D1 D A L
  rw [hW1]
  have LB := Lib.hid (Below.refl W1.heap.size W1)
  clear hW1 V
  obtain ⟨q00, q01, q02⟩ := A.out
  go_wp2_with (go_at_call 15; refine (GGet_w HA.out Y.out.1 Y.out.2.1 L.out D.out).mono ?_)
  rintro e wn ⟨vU, aU, cU, rfl, hA, hS, hb⟩
  replace D := Lib.hid (D.out.more hb)
  replace L := Lib.hid (L.out.more hb)
  have U := Lib.hid (And.intro hA (hS.mono LB.out.size))
  replace LB := Lib.hid (LB.out.trans (hb.mono LB.out.size))
  clear hA hS
  clear hb q00 q01 q02
  go_wp2_with (go_at_call 27; refine (Lb.top_any _).mono ?_)
  rintro e wn ⟨rfl, hb⟩
  replace D := Lib.hid (D.out.more hb)
  replace L := Lib.hid (L.out.more hb)
  replace U := Lib.hid (And.intro (U.out.1.more hb) (U.out.2.more U.out.1.o hb))
  replace LB := Lib.hid (LB.out.trans (hb.mono LB.out.size))
  clear hb
  go_wp2_with (go_at_call 24; refine (GSet_w (a := Lab.top) (Nat.le_trans HL0.out (by omega)) Lab.fits_top Y.out.2.2.1 Y.out.2.2.2.1 L.out (SO.nil _) D.out).mono ?_)
  rintro e wn ⟨vX, aX, cX, rfl, hA, hS, hb⟩
  replace D := Lib.hid (D.out.more hb)
  replace L := Lib.hid (L.out.more hb)
  replace U := Lib.hid (And.intro (U.out.1.more hb) (U.out.2.more U.out.1.o hb))
  have X := Lib.hid (And.intro hA (show ∀ x ∈ vX, softP W1.heap.size _ x from fun x hx => (hS x hx).mono LB.out.size))
  replace LB := Lib.hid (LB.out.trans (hb.mono LB.out.size))
  clear hA hS
  clear hb
  go_wp2_with (go_at_call 27; refine (Lb.top_any _).mono ?_)
  rintro e wn ⟨rfl, hb⟩
  replace D := Lib.hid (D.out.more hb)
  replace L := Lib.hid (L.out.more hb)
  replace U := Lib.hid (And.intro (U.out.1.more hb) (U.out.2.more U.out.1.o hb))
  replace X := Lib.hid (And.intro (X.out.1.more hb) (fun x hx => softP.more (X.out.2 x hx) (X.out.1.o.hrows x hx) hb))
  replace LB := Lib.hid (LB.out.trans (hb.mono LB.out.size))
  clear hb
  go_wp2_with (go_at_call 18; refine (GSeen_w (a := Lab.top) Lab.fits_top Y.out.2.2.2.2.1 Y.out.2.2.2.2.2 L.out D.out).mono ?_)
  rintro e wn ⟨vS, aS, cS, rfl, hA, hS, hb⟩
  replace U := Lib.hid (And.intro (U.out.1.more hb) (U.out.2.more U.out.1.o hb))
  replace X := Lib.hid (And.intro (X.out.1.more hb) (fun x hx => softP.more (X.out.2 x hx) (X.out.1.o.hrows x hx) hb))
  have S := Lib.hid (And.intro hA (show ∀ x ∈ vS, softP W1.heap.size _ x from fun x hx => (hS x hx).mono LB.out.size))
  replace LB := Lib.hid (LB.out.trans (hb.mono LB.out.size))
  clear hA hS D L
  clear hb
  obtain ⟨W0, hW0⟩ : ∃ W0, wn = W0 := ⟨_, rfl⟩
  rw [hW0] at U X S LB
  rw [hW0]
  clear hW0 A
  have hul := U.out.1.o.hle
  have hum : cU ≤ 9223372036854775807 := by have := U.out.1.o.hmax; unfold maxLen at this; exact this
  have hun := U.out.1.o.hlen
  go_wp2
  go_loopw [11] (fun v wr => ∃ k : Nat, k ≤ ko ∧ v = .int .i64 k ∧ Hid (Soft W0 wr) ∧ Hid (Below W1.heap.size W0 wr)) (fun v _ => ko - (intOf v).toNat)
  case atStart => exact ⟨0, Nat.zero_le _, rfl, Soft.refl _, Below.refl _ _⟩
  case round =>
    obtain ⟨k, hk, rfl, HS, HB⟩ := hrel
    by_cases hlt : k < ko
    · have hd1 : decide ((k : Int) < (ko : Int)) = true := decide_eq_true (by omega)
      obtain ⟨z, hz⟩ : ∃ z, vU[k]? = some z := ⟨_, List.getElem?_eq_getElem (by omega)⟩
      obtain ⟨c, o2, rfl, _, hcz⟩ := U.out.1.o.at (by omega)
      obtain ⟨z0, _, _, _, z4⟩ := hcz k z hz
      have hf := (U.out.2.1 _ rfl (fun h => by rw [h] at hun; simp at hun; omega))
      obtain ⟨t0, q0⟩ := HS.out.s _ _ _ z0
      have g0 := HS.out.f _ _ (hf.2 (o2 + k * 5))
      have HS2 := Lib.hid (HS.out.set q0 { data := #[111, 116, 104, 101, 114] })
      have HB2 := Lib.hid (HB.out.setCell (p := ⟨c, o2 + k * 5, none⟩) hf.1 (.string { data := #[111, 116, 104, 101, 114] }))
      have r4 := HS2.out.v _ _ _ z4 ne_sl
      have hle2 := (U.out.1.o.row hz).t.hle
      have hm2 : z.c ≤ 9223372036854775807 := by have := (U.out.1.o.row hz).t.hmax; unfold maxLen at this; exact this
      have HZ := Lib.hid (And.intro (U.out.1.o.row hz) (U.out.2.2 z (List.mem_of_getElem? hz)))
      clear hz hcz z0 z4 hf
      by_cases hz0 : z.o.l.length = 0
      · have hd3 : decide (((z.o.l.length : Nat) : Int) > 0) = false := decide_eq_false (by omega)
        go_wp2
        go_roundw
        case rel => exact ⟨k + 1, by omega, by simp, HS2.out, HB2.out⟩
        case measure => simp [intOf]; omega
      · have hd3 : decide (((z.o.l.length : Nat) : Int) > 0) = true := decide_eq_true (by omega)
        obtain ⟨d, o3, e, _, hcy⟩ := HZ.out.1.t.at (by omega)
        obtain ⟨y2, hy⟩ : ∃ y, z.o.l[0]? = some y := ⟨_, List.getElem?_eq_getElem (by omega)⟩
        have hf := (HZ.out.2 _ e (fun h => hz0 (by rw [h]; rfl)))
        have hp : 0 < z.o.l.length := by omega
        obtain ⟨t3, q3⟩ := HS2.out.s _ o3 _ (hcy 0 y2 hy)
        have g3 := HS2.out.f _ _ (hf.2 o3)
        have HS3 := Lib.hid (HS2.out.set q3 { data := #[111, 116, 104, 101, 114] })
        have HB3 := Lib.hid (HB2.out.setCell (p := ⟨d, o3, none⟩) hf.1 (.string { data := #[111, 116, 104, 101, 114] }))
        rw [e] at r4
        clear hcy hy hf e
        go_wp2
        go_roundw
        case rel => exact ⟨k + 1, by omega, by simp, HS3.out, HB3.out⟩
        case measure => simp [intOf]; omega
    · obtain rfl : k = ko := by omega
      have hd1 : decide ((k : Int) < (k : Int)) = false := decide_eq_false (by omega)
      go_wp2_with (go_at_call 28; refine (Spoil_p X.out.1.o X.out.2 HS.out).mono ?_)
      rintro e wa ⟨rfl, hs, hb⟩
      have HS2 := Lib.hid hs
      have HB2 := Lib.hid (HB.out.trans hb)
      clear hs hb
      go_wp2_with (go_at_call 28; refine (Spoil_p S.out.1.o S.out.2 HS2.out).mono ?_)
      rintro e wb ⟨rfl, _, hb⟩
      have HB3 := Lib.hid (LB.out.trans (HB2.out.trans hb))
      clear hb
      go_wp2_with (go_at_call 17; refine (RWSame_w (sameW_self l) (L1.out.more HB3.out) (V1.out.more HB3.out)).mono ?_)
      rintro e wc ⟨rfl, hb⟩
      have HD := Lib.hid ((D1.out.more HB3.out).more hb)
      clear hb
      by_cases he : ec = 0
      · subst he
        go_wp2
        go_ret
        exact ⟨rfl, HD.out.below⟩
      · obtain rfl := T.out he
        have bh : (ec == 0) = false := by simpa using he
        go_wp2
        go_ret
        exact ⟨rfl, HD.out.below⟩

end Go.Proofs.YtlafcplcjpcikaaGreatDoor
