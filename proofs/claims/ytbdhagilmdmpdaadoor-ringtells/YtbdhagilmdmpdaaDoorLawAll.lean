/- RingAll: the walk. -/
import Derived.Test.YtbdhagilmdmpdaaDoorRgRef3
namespace Go.Proofs.Rng
theorem allL_len (m : Int) (l k : List It) : (allL m l k).length ≤ l.length + k.length := by
  unfold allL
  split
  · rw [List.length_append, List.length_take]; omega
  · simp
end Go.Proofs.Rng
namespace Go.Proofs.YtbdhagilmdmpdaaDoor
open Go.RowKit Go.Proofs.Fld Go.Proofs.Rng Go.Shelf Go.Sort

theorem Rv.set2 {W : World} {b b' : Nat} {m : Int} {ao : Option Addr} {k c : Nat} {l : List It} {u v : Value} (h : Rv W b m ao k c l) (hne : b' ≠ b) (ha : 0 < k → ∀ a, ao = some a → a.block ≠ b') : Rv ((W.setCell ⟨b', 0, none⟩ u).setCell ⟨b', 1, none⟩ v) b m ao k c l := ⟨h.r.other hne, h.t.set2 ha⟩

set_option maxRecDepth 100000 in
set_option maxHeartbeats 8000000 in
theorem all_walk (s : Sn) (m : Int) (ao bo : Option Addr) (len cap kb cb : Nat) (zs us : List It) (w : World) (hL : Txs w ao len cap zs) (hI : Txs w bo kb cb us) (hs : Sent s w) :
    Calls Tryd.prog 4 #[.agg #[.int .i64 m, .slice ao len cap], .slice bo kb cb] w (TruePost w) := by
  have HIB := Lib.hid (show 0 < kb → ∀ a, bo = some a → a.block ≠ w.heap.size from fun hp a e q => by have := hI.below hp a e; omega)
  have R := Rv.new w m ao len cap zs hL
  have hN := Below.new w (.cells #[.int .i64 m, .slice ao len cap] 24)
  have D := (Wd.of hs).more hN
  have I := hI.more hN
  obtain ⟨W0, hW0⟩ : ∃ W0, w.alloc (.cells #[.int .i64 m, .slice ao len cap] 24) = W0 := ⟨_, rfl⟩
  rw [hW0] at R hN D I
  have R := Lib.hid R
  have D := Lib.hid D
  have I := Lib.hid I
  have S0 := Lib.hid hs
  obtain ⟨ys, hys⟩ : ∃ ys, fewI zs = ys := ⟨_, rfl⟩
  have hyl := fewI_length zs
  have hyt := fewI_takes zs
  rw [hys] at hyl hyt
  obtain ⟨k, hk⟩ : ∃ k, ys.length = k := ⟨_, rfl⟩
  have hk40 : k ≤ 40 := hk ▸ hyl
  have HY := Lib.hid (And.intro hys hk)
  clear hL hs hN hys hk hyl hI
  go_enter Tryd.func4, Tryd.ntmps4
  go_wp2_with (go_at_call 9; refine (shown_any s _ D.out.sent).mono ?_)
  rintro e w1 ⟨rfl, hb⟩
  replace D := Lib.hid (D.out.more hb)
  replace R := Lib.hid (R.out.more hb)
  replace I := Lib.hid (I.out.more hb)
  clear hb
  have c0 := R.out.r.c0
  have c1 := R.out.r.c1
  have hlt := R.out.r.lt
  go_wp2_with (go_at_call 10; refine (Few_p HY.out.1 HY.out.2 R.out.t).mono ?_)
  rintro e w2 ⟨va2, vc2, rfl, ⟨ht, ho⟩, hb⟩
  clear c0 c1
  replace D := Lib.hid (D.out.more hb)
  replace R := Lib.hid (R.out.more hb)
  replace I := Lib.hid (I.out.more hb)
  have R' := Rv.set (m := m) R.out.r ht (ho.apart hlt)
  have D' := D.out.set S0.out (b := w.heap.size) (Nat.le_refl _) (.int .i64 m) (.slice va2 k vc2)
  have I' := I.out.set2 (u := .int .i64 m) (v := .slice va2 k vc2) HIB.out
  obtain ⟨c0, c1, f0, f1⟩ := R.out.r
  obtain ⟨V, hV⟩ : ∃ V, ((w2.setCell ⟨w.heap.size, 0, none⟩ (.int .i64 m)).setCell ⟨w.heap.size, 1, none⟩ (.slice va2 k vc2)) = V := ⟨_, rfl⟩
  rw [hV] at R' D' I'
  replace R := Lib.hid R'
  replace D := Lib.hid D'
  replace I := Lib.hid I'
  clear ht ho hb hlt R' D' I'
  obtain ⟨ls, hls⟩ : ∃ ls, fewI us = ls := ⟨_, rfl⟩
  have hll := fewI_length us
  have hlt := fewI_takes us
  rw [hls] at hll hlt
  obtain ⟨kl, hkl⟩ : ∃ kl, ls.length = kl := ⟨_, rfl⟩
  rw [hkl] at hll
  obtain ⟨pm, hpm⟩ : ∃ v, allM m ys = v := ⟨_, rfl⟩
  obtain ⟨pl, hpl⟩ : ∃ v, allL m ys ls = v := ⟨_, rfl⟩
  obtain ⟨pn, hpn⟩ : ∃ v, allN m ys ls = v := ⟨_, rfl⟩
  obtain ⟨ec, hec⟩ : ∃ v, errN (allE m ys) = v := ⟨_, rfl⟩
  obtain ⟨pk, hpk⟩ : ∃ v, pl.length = v := ⟨_, rfl⟩
  have t1 := allL_len m ys ls
  rw [hpl, hpk, hkl, HY.out.2] at t1
  have a1 : pk ≤ 1000000 := by omega
  have a7 : k ≤ 1000000 := by omega
  have a8 : takes ys ≤ 1000000 := by omega
  have b7 : k ≤ 100000 := by omega
  have b8 : takes ys ≤ 100000 := by omega
  have a2 : kl ≤ 1000000 := by omega
  have a3 : takes ls ≤ 900000 := by omega
  have b2 : kl ≤ 100000 := by omega
  have b3 : takes ls ≤ 800000 := by omega
  have HL := Lib.hid (And.intro hls hkl)
  have HW := Lib.hid (And.intro hpm (And.intro hpl (And.intro hpn (And.intro hec hpk))))
  clear hls hkl hpm hpl hpn hec hpk t1 hlt
  have c0A1 := R.out.r.c0
  have c1A1 := R.out.r.c1
  have c0A1a : ∀ o, (V.alloc o).cell? ⟨w.heap.size, 0, none⟩ = some (.int .i64 m) := fun o => cell_later (Below.new _ _) c0A1
  have c1A1a : ∀ o, (V.alloc o).cell? ⟨w.heap.size, 1, none⟩ = some (.slice va2 k vc2) := fun o => cell_later (Below.new _ _) c1A1
  have HFl := Lib.hid (few_p (w := V.drew) HL.out.1 HL.out.2 (I.out.more (Below.refl _ _).drew))
  have HFe := Lib.hid (few_p (w := (V.alloc (.cells #[.int .i64 0, .slice none 0 0] 24)).drew) HL.out.1 HL.out.2 (I.out.more (Below.new _ _).drew))
  have HA := Lib.hid (fun W ia ic (hb : Below V.heap.size V W) (hT : Txs W ia kl ic ls) => All_q a7 a8 a2 a3 HW.out.1 HW.out.2.1 HW.out.2.2.1 HW.out.2.2.2.1 HW.out.2.2.2.2 (R.out.more hb).t hT (D.out.more hb).sent)
  have hVe : Below (V.alloc (.cells #[.int .i64 0, .slice none 0 0] 24)).heap.size (V.alloc (.cells #[.int .i64 0, .slice none 0 0] 24)) (V.alloc (.cells #[.int .i64 0, .slice none 0 0] 24)).drew := (Below.refl _ _).drew
  have HVe := Lib.hid (And.intro hVe (And.intro (Below.new V (.cells #[.int .i64 0, .slice none 0 0] 24)) (And.intro (R2.new V (.int .i64 0) (.slice none 0 0) 24) ((Below.refl V.heap.size V).drew))))
  clear hVe
  go_upto_region 3 with fail
  go_cut [6, 7, 8] from 15 to 22 (fun p n e wx => ∃ (Bn : Nat) (va : Option Addr) (vc : Nat), p = .pointer (some ⟨Bn, 0, none⟩) ∧ n = .int .i64 (pn : Int) ∧ e = .int .i64 ec ∧ Hid (NvJ V wx Bn pm va pk vc pl))
  case first =>
    go_region_with (first
      | (go_at_call 25; (with_reducible refine HFe.out.mono ?_); rintro e w8 ⟨ia, ic, rfl, ⟨T8, _⟩, hb8⟩; have E8 := below_more HVe.out.1 hb8; have B8 := below_more HVe.out.2.1 E8; have Q8 := fun w9 (hb : Below w8.heap.size w8 w9) => HVe.out.2.2.1.more (below_more E8 hb); have p0 := cell_later B8 c0A1; have p1 := cell_later B8 c1A1; have p0a := fun o => cell_later (Below.new w8 o) p0; have p1a := fun o => cell_later (Below.new w8 o) p1)
      | (go_at_call 25; (with_reducible refine HFl.out.mono ?_); rintro e w8 ⟨ia, ic, rfl, ⟨T8, _⟩, hb8⟩; have B8 := below_more HVe.out.2.2.2 hb8; have Q8 := fun w9 (hb : Below w8.heap.size w8 w9) => (R.out.more (below_more B8 hb)).r; have p0 := cell_later B8 c0A1; have p1 := cell_later B8 c1A1; have p0a := fun o => cell_later (Below.new w8 o) p0; have p1a := fun o => cell_later (Below.new w8 o) p1)
      | (go_at_call 24; (with_reducible refine (HA.out (w8.alloc (.cells #[.int .i64 0, .slice none 0 0] 24)) ia ic (below_more B8 (Below.new _ _)) (T8.more (Below.new _ _))).mono ?_); rintro e w9 ⟨va9, vc9, rfl, ⟨ht9, ho9⟩, hb9⟩; obtain ⟨e0, e1, g0, g1⟩ := (R2.new w8 (.int .i64 0) (.slice none 0 0) 24).more hb9)
      | (go_at_call 24; (with_reducible refine (HA.out w8 ia ic B8 T8).mono ?_); rintro e w9 ⟨va9, vc9, rfl, ⟨ht9, ho9⟩, hb9⟩; obtain ⟨e0, e1, g0, g1⟩ := Q8 w9 hb9))
    all_goals go_wp2_with fail
    all_goals go_meet
    all_goals first | exact ⟨_, _, _, rfl, rfl, rfl, NvJ.late B8 ht9 hb9⟩ | exact ⟨_, _, _, rfl, rfl, rfl, NvJ.early B8 (Below.refl _ _) ht9 hb9 (own_apart (Below.refl _ _) ho9)⟩ | exact ⟨_, _, _, rfl, rfl, rfl, NvJ.early (Below.refl _ _) E8 ht9 hb9 (own_apart E8 ho9)⟩
  case rest =>
    obtain ⟨BA1, vaA1, vcA1, rfl, rfl, rfl, HA1⟩ := hcut
    clear c0A1 c1A1 c0A1a c1A1a HFl HFe HA HVe
    obtain ⟨V2, hV2⟩ : ∃ V2, wc = V2 := ⟨_, rfl⟩
    rw [hV2] at HA1
    rw [hV2]
    clear hV2
    replace D := Lib.hid (D.out.more HA1.out.b)
    replace R := Lib.hid (R.out.more HA1.out.b)
    replace I := Lib.hid (I.out.more HA1.out.b)
    have A := Lib.hid HA1.out.v
    clear HA1
    have c0A2 := R.out.r.c0
    have c1A2 := R.out.r.c1
    have c0A2a : ∀ o, (V2.alloc o).cell? ⟨w.heap.size, 0, none⟩ = some (.int .i64 m) := fun o => cell_later (Below.new _ _) c0A2
    have c1A2a : ∀ o, (V2.alloc o).cell? ⟨w.heap.size, 1, none⟩ = some (.slice va2 k vc2) := fun o => cell_later (Below.new _ _) c1A2
    have HFl := Lib.hid (few_p (w := V2.drew) HL.out.1 HL.out.2 (I.out.more (Below.refl _ _).drew))
    have HFe := Lib.hid (few_p (w := (V2.alloc (.cells #[.int .i64 0, .slice none 0 0] 24)).drew) HL.out.1 HL.out.2 (I.out.more (Below.new _ _).drew))
    have HA := Lib.hid (fun W ia ic (hb : Below V2.heap.size V2 W) (hT : Txs W ia kl ic ls) => RAll_q b7 b8 b2 b3 HW.out.1 HW.out.2.1 HW.out.2.2.1 HW.out.2.2.2.1 HW.out.2.2.2.2 (R.out.more hb).t hT)
    have hVe : Below (V2.alloc (.cells #[.int .i64 0, .slice none 0 0] 24)).heap.size (V2.alloc (.cells #[.int .i64 0, .slice none 0 0] 24)) (V2.alloc (.cells #[.int .i64 0, .slice none 0 0] 24)).drew := (Below.refl _ _).drew
    have HVe := Lib.hid (And.intro hVe (And.intro (Below.new V2 (.cells #[.int .i64 0, .slice none 0 0] 24)) (And.intro (R2.new V2 (.int .i64 0) (.slice none 0 0) 24) ((Below.refl V2.heap.size V2).drew))))
    clear hVe
    go_upto_region 4 with fail
    go_cut [9, 10, 11] from 23 to 30 (fun p n e wx => ∃ (Bn : Nat) (va : Option Addr) (vc : Nat), p = .pointer (some ⟨Bn, 0, none⟩) ∧ n = .int .i64 (pn : Int) ∧ e = .int .i64 ec ∧ Hid (NvJ V2 wx Bn pm va pk vc pl))
    case first =>
      go_region_with (first
        | (go_at_call 25; (with_reducible refine HFe.out.mono ?_); rintro e w8 ⟨ia, ic, rfl, ⟨T8, _⟩, hb8⟩; have E8 := below_more HVe.out.1 hb8; have B8 := below_more HVe.out.2.1 E8; have Q8 := fun w9 (hb : Below w8.heap.size w8 w9) => HVe.out.2.2.1.more (below_more E8 hb); have p0 := cell_later B8 c0A2; have p1 := cell_later B8 c1A2; have p0a := fun o => cell_later (Below.new w8 o) p0; have p1a := fun o => cell_later (Below.new w8 o) p1)
        | (go_at_call 25; (with_reducible refine HFl.out.mono ?_); rintro e w8 ⟨ia, ic, rfl, ⟨T8, _⟩, hb8⟩; have B8 := below_more HVe.out.2.2.2 hb8; have Q8 := fun w9 (hb : Below w8.heap.size w8 w9) => (R.out.more (below_more B8 hb)).r; have p0 := cell_later B8 c0A2; have p1 := cell_later B8 c1A2; have p0a := fun o => cell_later (Below.new w8 o) p0; have p1a := fun o => cell_later (Below.new w8 o) p1)
        | (go_at_call 26; (with_reducible refine (HA.out (w8.alloc (.cells #[.int .i64 0, .slice none 0 0] 24)) ia ic (below_more B8 (Below.new _ _)) (T8.more (Below.new _ _))).mono ?_); rintro e w9 ⟨va9, vc9, rfl, ⟨ht9, ho9⟩, hb9⟩; obtain ⟨e0, e1, g0, g1⟩ := (R2.new w8 (.int .i64 0) (.slice none 0 0) 24).more hb9)
        | (go_at_call 26; (with_reducible refine (HA.out w8 ia ic B8 T8).mono ?_); rintro e w9 ⟨va9, vc9, rfl, ⟨ht9, ho9⟩, hb9⟩; obtain ⟨e0, e1, g0, g1⟩ := Q8 w9 hb9))
      all_goals go_wp2_with fail
      all_goals go_meet
      all_goals first | exact ⟨_, _, _, rfl, rfl, rfl, NvJ.late B8 ht9 hb9⟩ | exact ⟨_, _, _, rfl, rfl, rfl, NvJ.early B8 (Below.refl _ _) ht9 hb9 (or_apart B8.size (Below.refl _ _) R.out.t ho9)⟩ | exact ⟨_, _, _, rfl, rfl, rfl, NvJ.early (Below.refl _ _) E8 ht9 hb9 (or_apart (Nat.le_refl _) E8 R.out.t ho9)⟩
    case rest =>
      obtain ⟨BA2, vaA2, vcA2, rfl, rfl, rfl, HA2⟩ := hcut
      clear c0A2 c1A2 c0A2a c1A2a HFl HFe HA HVe
      replace D := Lib.hid (D.out.more HA2.out.b)
      replace A := Lib.hid (A.out.more HA2.out.b)
      have B := Lib.hid HA2.out.v
      clear HA2 R I
      have HSm := Lib.hid (show sameR pm pl pm pl = true from sameR_iff.2 ⟨rfl, rfl⟩)
      have Ac0 := A.out.r.c0
      have Ac1 := A.out.r.c1
      have Bc0 := B.out.r.c0
      have Bc1 := B.out.r.c1
      go_wp2_with (go_at_call 18; refine (RSame_p a1 a1 HSm.out A.out.t B.out.t).mono ?_)
      rintro e w51 ⟨rfl, hb⟩
      clear Ac0 Ac1 Bc0 Bc1
      replace D := Lib.hid (D.out.more hb)
      replace A := Lib.hid (A.out.more hb)
      replace B := Lib.hid (B.out.more hb)
      clear hb
      go_wp2
      go_ret
      exact ⟨rfl, D.out.below⟩

end Go.Proofs.YtbdhagilmdmpdaaDoor
