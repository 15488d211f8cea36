/- SlotsOnce: the walk. -/
import Derived.Test.YtjfooblnpkckfaaDoorSlOnce
namespace Go.Proofs.YtjfooblnpkckfaaDoor
open Go.RowKit Go.Proofs.Slt Go.Shelf

set_option maxRecDepth 100000 in
set_option maxHeartbeats 2000000 in
theorem once_walk_bad (t : Sn) (n : Int) (hn : n < 1 ∨ 64 < n) (a : Option Addr) (len cap : Nat) (w : World) (hc : Ctx t w.heap.size w) : Calls Tryd.prog 4 #[.int .i64 n, .slice a len cap] w (TruePost w) := by
  have HC := Lib.hid hc
  have HN := Lib.hid hn
  clear hc hn
  go_enter Tryd.func4, Tryd.ntmps4
  go_wp2_with (go_at_call 9; refine (shown_any t w.heap.size _ HC.out).mono ?_)
  rintro e w1 ⟨rfl, hb1⟩
  have HB1 := Lib.hid hb1
  clear hb1
  go_wp2_with (go_at_call 10; refine (New_bad n _ HN.out).mono ?_; rintro e w2 ⟨rfl, rfl⟩)
  go_ret
  exact ⟨rfl, HB1.out⟩

set_option maxRecDepth 100000 in
set_option maxHeartbeats 16000000 in
theorem once_walk_ok (t : Sn) (n : Nat) (h1 : 1 ≤ n) (h2 : n ≤ 64) (a : Option Addr) (len cap : Nat) (zs : List Int) (hlen : zs.length = len) (hlc : len ≤ cap) (hcm : cap ≤ maxLen) (w : World) (hc : Ctx t w.heap.size w) (hG : SlI w a zs) : Calls Tryd.prog 4 #[.int .i64 n, .slice a len cap] w (TruePost w) := by
  obtain ⟨i0, hi0, hz0, hz1, hz2⟩ := info_parts infoH
  have HC := Lib.hid hc
  have HG := Lib.hid (And.intro hG (And.intro hlen hcm))
  have hm : cap < 9223372036854775808 := by unfold maxLen at hcm; omega
  have _hu := hlc
  clear _hu
  clear hc hG hlen hcm
  go_enter Tryd.func4, Tryd.ntmps4
  go_wp2_with (go_at_call 9; refine (shown_any t w.heap.size _ HC.out).mono ?_)
  rintro e w1 ⟨rfl, hb1⟩
  have HB1 := Lib.hid hb1
  clear hb1
  go_wp2_with (go_at_call 10; refine (New_ok n w1 h1 h2).mono ?_)
  rintro e w2 ⟨p, rfl, q1, q2⟩
  have R0 := Lib.hid (Run.start (HC.out.more HB1.out) HB1.out q1 q2)
  clear q1 q2
  go_wp2
  go_loopw [8, 9, 10] (fun v8 v9 v wr => ∃ (i : Nat) (st : St) (T G : List Hnd), i ≤ len ∧ i ≤ 100 ∧ v = .int .i64 i ∧ Hid (OW t w.heap.size w w2.heap.size p st v8 v9 T G wr) ∧ Hid (OnceI n i st T G)) (fun _ _ v _ => len - (intOf v).toNat)
  case atStart => exact ⟨0, fresh n, [], [], by omega, by omega, rfl, ⟨R0.out, World.ownsRow_nil _ _ _ _, World.ownsRow_nil _ _ _ _, fun k h => by cases h⟩, OnceI.zero n⟩
  case round =>
    obtain ⟨i, st, T, G, hi, hi2, rfl, HO, HI⟩ := hrel
    obtain ⟨a8, c8, rfl⟩ := HO.out.h8.slice
    obtain ⟨a9, c9, rfl⟩ := HO.out.h9.slice
    obtain ⟨lt, hlt8⟩ : ∃ lt, T.length = lt := ⟨_, rfl⟩
    obtain ⟨lg, hlg9⟩ : ∃ lg, G.length = lg := ⟨_, rfl⟩
    have hsum := HI.out.sum
    have hfew := HI.out.few
    rw [hlt8, hlg9] at hsum
    rw [hlt8] at hfew
    have hlgi : lg ≤ 100 := by omega
    have hlti : lt ≤ 100 := by omega
    rw [hlt8, hlg9] at HO
    rw [hlt8, hlg9]
    have HLT := Lib.hid hlt8
    have HLG0 := Lib.hid hlg9
    have HSUM := Lib.hid hsum
    clear hlt8 hlg9 hsum hfew
    by_cases hlt : i < len ∧ i < 100
    · obtain ⟨hil, hi100⟩ := hlt
      obtain ⟨g, off, rfl, hg, hcz⟩ := HG.out.1 i (by rw [HG.out.2.1]; exact hil)
      obtain ⟨x, hx⟩ : ∃ x, zs[i]'(by rw [HG.out.2.1]; exact hil) = x := ⟨_, rfl⟩
      rw [hx] at hcz
      have HG0 := Lib.hid (And.intro hg hcz)
      clear hg hcz hx
      go_wp2_with (go_at_call 12; refine (Take_run HO.out.run).mono ?_)
      rintro e w3 ⟨he, r3, f3⟩
      obtain ⟨⟨h1', h2'⟩, hh⟩ : ∃ y, takeH st = y := ⟨_, rfl⟩
      have HO3 := Lib.hid ((HO.out.step r3 f3).more (Below.new w3 (.cells #[.int .i64 h1', .int .i64 h2'] 32)))
      obtain ⟨k0, k1⟩ := H2.new w3 h1' h2'
      obtain ⟨W3, hW3⟩ : ∃ W3, w3.alloc (.cells #[.int .i64 h1', .int .i64 h2'] 32) = W3 := ⟨_, rfl⟩
      rw [hW3] at HO3 k0 k1
      have HW3 := Lib.hid hW3
      clear r3 f3 hW3
      by_cases h0 : takeE st = 0
      · rw [hh, h0] at he
        simp only [ihv, toI] at he
        subst he
        obtain ⟨hia, hnm⟩ := HI.out.take h0
        rw [hh] at hia hnm
        have HIa := Lib.hid hia
        have HNM := Lib.hid hnm
        clear hia hnm hh h0
        go_wp2
        rw [HW3.out]
        go_loopw [13] (fun v wx => ∃ k : Nat, k ≤ lt ∧ v = .int .i64 k ∧ Hid (Below W3.heap.size W3 wx)) (fun v _ => lt - (intOf v).toNat)
        case atStart => exact ⟨0, by omega, rfl, Below.refl _ _⟩
        case round =>
          obtain ⟨k, hk, rfl, HBX⟩ := hrel
          by_cases hkl : k < lt
          · obtain ⟨⟨y1, y2⟩, hy⟩ : ∃ y, T[k]? = some y := ⟨_, List.getElem?_eq_getElem (by rw [HLT.out]; exact hkl)⟩
            obtain ⟨g6, c6, e6, _, _, hcap, _, p0, p1⟩ := (HO3.out.more HBX.out).h8.get hy
            rw [HLT.out] at e6 hcap
            cases e6
            have d0 := cell_later HBX.out k0
            have d1 := cell_later HBX.out k1
            have hne : ¬ (y1 = h1' ∧ y2 = h2') := fun ⟨e1, e2⟩ => HNM.out (by rw [← e1, ← e2]; exact List.mem_of_getElem? hy)
            have HNE := Lib.hid hne
            clear hy hne k0 k1
            by_cases e1 : y1 = h1'
            · have e2 : ¬ y2 = h2' := fun e => HNE.out ⟨e1, e⟩
              subst e1
              have q2 : ((y2 : Int) == (h2' : Int)) = false := by simp; omega
              clear e2
              go_wp2
              go_quiet (fail)
              go_wp2
              go_roundw
              case rel => exact ⟨k + 1, by omega, by simp, below_more HBX.out (below_drews _ _)⟩
              case measure => simp [intOf]; omega
            · have q1 : ((y1 : Int) == (h1' : Int)) = false := by simp; omega
              clear e1
              go_wp2
              go_quiet (fail)
              go_wp2
              go_roundw
              case rel => exact ⟨k + 1, by omega, by simp, below_more HBX.out (below_drews _ _)⟩
              case measure => simp [intOf]; omega
          · obtain rfl : k = lt := by omega
            have HO4 := Lib.hid (HO3.out.more HBX.out)
            have d0 := cell_later HBX.out k0
            have d1 := cell_later HBX.out k1
            clear k0 k1
            have HNW := Lib.hid (h_new wr (h1', h2'))
            have hrow : (wr.alloc (.cells #[.int .i64 h1', .int .i64 h2'] 32)).ownsRow w2.heap.size 32 2 (.slice a8 k c8) k (hcl T) := by have := HO4.out.h8.alloc (.cells #[.int .i64 h1', .int .i64 h2'] 32); rw [HLT.out] at this; exact this
            have hzz : w2.heap.size ≤ (wr.alloc (.cells #[.int .i64 h1', .int .i64 h2'] 32)).heap.size := by have := HO4.out.run.z; simp; omega
            have HZ4 := Lib.hid hzz
            clear hzz
            go_wp2_with (at_builtin; go_loud (refine wpList_append_lies _ rfl _ _ 39 rfl w2.heap.size 32 i0 (.agg #[.int .i64 0, .int .i64 0]) 2 16 Tryd.underlying39 hi0 hz0 hz1 hz2 rfl (by decide) (.slice a8 k c8) k (hcl T) rfl hrow ⟨wr.heap.size, 0, none⟩ 1 1 [.int .i64 h1', .int .i64 h2'] rfl rfl HNW.out (by simp [Value.oneCell']) (by decide) (by unfold maxLen; omega) (by omega) HZ4.out (wr.heap.size + 1) (by simp) ?_; intro gt ct W5 hown hgrow hat hlt8; have HA := Lib.hid (HO4.out.told (x := (h1', h2')) (g := gt) (c := ct) (by rw [HLT.out]; exact hown) hgrow hat); clear hown hgrow hat hrow))
            rw [HLT.out] at HA
            go_wp2_with (go_at_call 20; refine (All_run HA.out.run).mono ?_)
            rintro e w5 ⟨a5, c5, he, hs5, r5, hb5⟩
            obtain ⟨L2, hL2⟩ : ∃ L2, (allR (takeS st)).length = L2 := ⟨_, rfl⟩
            have HL2 := Lib.hid hL2
            rw [hL2] at he
            subst he
            have HA5 := Lib.hid (HA.out.more hb5)
            have g5 : w5.cell? ⟨g, off + i, none⟩ = some (.int .i64 x) := (r5.below.cell (p := ⟨g, off + i, none⟩) HG0.out.1).trans HG0.out.2
            have HZ := Lib.hid HA.out.run.z
            have HS5 := Lib.hid (show Hs W5.heap.size w5 (.slice a5 L2 c5) (allR (takeS st)) by rw [← hL2]; exact hs5)
            clear r5 hs5 hb5 hL2
            by_cases hx0 : x < 0
            · have HW := HA5
              have HI2 := HIa
              have HLG := HLG0
              go_wp2
              go_loopw [15] (fun v wx => ∃ kk : Nat, kk ≤ lg ∧ v = .int .i64 kk ∧ Hid (OW t w.heap.size w w2.heap.size p (takeS st) (.slice (some ⟨gt, 0, none⟩) (k + 1) ct) (.slice a9 lg c9) (T ++ [(h1', h2')]) G wx)) (fun v _ => lg - (intOf v).toNat)
              case atStart => exact ⟨0, by omega, rfl, HW.out⟩
              case round =>
                obtain ⟨kk, hkk, rfl, HX⟩ := hrel
                by_cases hkkl : kk < lg
                · obtain ⟨⟨y1, y2⟩, hy⟩ : ∃ y, (G)[kk]? = some y := ⟨_, List.getElem?_eq_getElem (by rw [HLG.out]; exact hkkl)⟩
                  obtain ⟨g6, c6, e6, _, _, hcap, _, p0, p1⟩ := HX.out.h9.get hy
                  rw [HLG.out] at e6 hcap
                  cases e6
                  have HD := Lib.hid (HI2.out.dead (List.mem_of_getElem? hy))
                  clear hy
                  go_wp2_with (go_at_call 14; refine (Live_run HX.out.run y1 y2).mono ?_)
                  rintro e w7 ⟨he, r7, b7⟩
                  rw [HD.out] at he
                  subst he
                  have HX7 := Lib.hid (HX.out.more b7)
                  clear r7 b7 p0 p1
                  go_wp2
                  go_roundw
                  case rel => exact ⟨kk + 1, by omega, by simp, HX7.out⟩
                  case measure => simp [intOf]; omega
                · obtain rfl : kk = lg := by omega
                  go_wp2
                  go_roundw
                  case rel => exact ⟨i + 1, (takeS st), (T ++ [(h1', h2')]), G, by omega, by omega, by simp, HX.out, HI2.out⟩
                  case measure => simp [intOf]; omega
            · obtain ⟨j, rfl⟩ := Int.eq_ofNat_of_zero_le (show 0 ≤ x by omega)
              by_cases hxl : j < L2
              · obtain ⟨⟨y1, y2⟩, hy⟩ : ∃ y, (allR (takeS st))[j]? = some y := ⟨_, List.getElem?_eq_getElem (by rw [HL2.out]; exact hxl)⟩
                obtain ⟨g6, c6, e6, _, _, hcap, _, p0, p1⟩ := HS5.out.get hy
                rw [HL2.out] at e6 hcap
                cases e6
                have HY := Lib.hid (give_all (List.mem_of_getElem? hy))
                have HI2 := Lib.hid (HIa.out.give (List.mem_of_getElem? hy))
                have HYY := Lib.hid hy
                clear hy hx0
                go_wp2_with (go_at_call 16; refine (Give_run HA5.out.run y1 y2).mono ?_)
                rintro e w6 ⟨he, r6, f6⟩
                rw [show giveE (takeS st) ((y1 : Int), (y2 : Int)) = 0 from HY.out] at he
                subst he
                have HA6 := Lib.hid (HA5.out.step r6 f6)
                have g6' : w6.cell? ⟨g, off + i, none⟩ = some (.int .i64 j) := (r6.below.cell (p := ⟨g, off + i, none⟩) HG0.out.1).trans HG0.out.2
                have hs6 := HS5.out.run HZ.out HA5.out.run f6
                obtain ⟨g7, c7, e7, _, _, hcap7, _, p0', p1'⟩ := hs6.get HYY.out
                rw [HL2.out] at e7 hcap7
                cases e7
                have HNW := Lib.hid (h_new w6 (y1, y2))
                have hrow := HA6.out.h9.alloc (.cells #[.int .i64 y1, .int .i64 y2] 32)
                have hzz : w2.heap.size ≤ (w6.alloc (.cells #[.int .i64 y1, .int .i64 y2] 32)).heap.size := by have := HA6.out.run.z; simp; omega
                have hrow2 : (w6.alloc (.cells #[.int .i64 y1, .int .i64 y2] 32)).ownsRow w2.heap.size 32 2 (.slice a9 lg c9) lg (hcl G) := by have := hrow; rw [HLG0.out] at this; exact this
                have HZ6 := Lib.hid hzz
                clear r6 f6 hs6 p0 p1 g5 hrow hzz
                go_wp2_with (at_builtin; go_loud (refine wpList_append_lies _ rfl _ _ 39 rfl w2.heap.size 32 i0 (.agg #[.int .i64 0, .int .i64 0]) 2 16 Tryd.underlying39 hi0 hz0 hz1 hz2 rfl (by decide) (.slice a9 lg c9) lg (hcl G) rfl hrow2 ⟨w6.heap.size, 0, none⟩ 1 1 [.int .i64 y1, .int .i64 y2] rfl rfl HNW.out (by simp [Value.oneCell']) (by decide) (by unfold maxLen; omega) (by omega) HZ6.out (w6.heap.size + 1) (by simp) ?_; intro gg cg w8 hown hgrow hat hlt8; have HW := Lib.hid (HA6.out.gone (x := (y1, y2)) (g := gg) (c := cg) (by rw [HLG0.out]; exact hown) hgrow hat); clear hown hgrow hat))
                have HLG : Hid ((G ++ [(y1, y2)]).length = lg + 1) := by show _ = _; rw [List.length_append, HLG0.out]; rfl
                rw [HLG0.out] at HW
                go_wp2
                go_loopw [15] (fun v wx => ∃ kk : Nat, kk ≤ (lg + 1) ∧ v = .int .i64 kk ∧ Hid (OW t w.heap.size w w2.heap.size p (giveS (takeS st) (toI (y1, y2))) (.slice (some ⟨gt, 0, none⟩) (k + 1) ct) (.slice (some ⟨gg, 0, none⟩) (lg + 1) cg) (T ++ [(h1', h2')]) (G ++ [(y1, y2)]) wx)) (fun v _ => (lg + 1) - (intOf v).toNat)
                case atStart => exact ⟨0, by omega, rfl, HW.out⟩
                case round =>
                  obtain ⟨kk, hkk, rfl, HX⟩ := hrel
                  by_cases hkkl : kk < (lg + 1)
                  · obtain ⟨⟨y1, y2⟩, hy⟩ : ∃ y, ((G ++ [(y1, y2)]))[kk]? = some y := ⟨_, List.getElem?_eq_getElem (by rw [HLG.out]; exact hkkl)⟩
                    obtain ⟨g6, c6, e6, _, _, hcap, _, p0, p1⟩ := HX.out.h9.get hy
                    rw [HLG.out] at e6 hcap
                    cases e6
                    have HD := Lib.hid (HI2.out.dead (List.mem_of_getElem? hy))
                    clear hy
                    go_wp2_with (go_at_call 14; refine (Live_run HX.out.run y1 y2).mono ?_)
                    rintro e w7 ⟨he, r7, b7⟩
                    rw [HD.out] at he
                    subst he
                    have HX7 := Lib.hid (HX.out.more b7)
                    clear r7 b7 p0 p1
                    go_wp2
                    go_roundw
                    case rel => exact ⟨kk + 1, by omega, by simp, HX7.out⟩
                    case measure => simp [intOf]; omega
                  · obtain rfl : kk = (lg + 1) := by omega
                    go_wp2
                    go_roundw
                    case rel => exact ⟨i + 1, (giveS (takeS st) (toI (y1, y2))), (T ++ [(h1', h2')]), (G ++ [(y1, y2)]), by omega, by omega, by simp, HX.out, HI2.out⟩
                    case measure => simp [intOf]; omega
              · have hxb : decide ((j : Int) < (L2 : Int)) = false := by simp; omega
                have hxl2 : ¬ (j : Int) < (L2 : Int) := by omega
                have hxb2 : decide (j < L2) = false := by simp; omega
                have hxl3 : ¬ j < L2 := by omega
                have HW := HA5
                have HI2 := HIa
                have HLG := HLG0
                clear hx0 hxl
                go_wp2
                go_loopw [15] (fun v wx => ∃ kk : Nat, kk ≤ lg ∧ v = .int .i64 kk ∧ Hid (OW t w.heap.size w w2.heap.size p (takeS st) (.slice (some ⟨gt, 0, none⟩) (k + 1) ct) (.slice a9 lg c9) (T ++ [(h1', h2')]) G wx)) (fun v _ => lg - (intOf v).toNat)
                case atStart => exact ⟨0, by omega, rfl, HW.out⟩
                case round =>
                  obtain ⟨kk, hkk, rfl, HX⟩ := hrel
                  by_cases hkkl : kk < lg
                  · obtain ⟨⟨y1, y2⟩, hy⟩ : ∃ y, (G)[kk]? = some y := ⟨_, List.getElem?_eq_getElem (by rw [HLG.out]; exact hkkl)⟩
                    obtain ⟨g6, c6, e6, _, _, hcap, _, p0, p1⟩ := HX.out.h9.get hy
                    rw [HLG.out] at e6 hcap
                    cases e6
                    have HD := Lib.hid (HI2.out.dead (List.mem_of_getElem? hy))
                    clear hy
                    go_wp2_with (go_at_call 14; refine (Live_run HX.out.run y1 y2).mono ?_)
                    rintro e w7 ⟨he, r7, b7⟩
                    rw [HD.out] at he
                    subst he
                    have HX7 := Lib.hid (HX.out.more b7)
                    clear r7 b7 p0 p1
                    go_wp2
                    go_roundw
                    case rel => exact ⟨kk + 1, by omega, by simp, HX7.out⟩
                    case measure => simp [intOf]; omega
                  · obtain rfl : kk = lg := by omega
                    go_wp2
                    go_roundw
                    case rel => exact ⟨i + 1, (takeS st), (T ++ [(h1', h2')]), G, by omega, by omega, by simp, HX.out, HI2.out⟩
                    case measure => simp [intOf]; omega
      · rw [hh, (take_no h0).2] at he
        simp only [ihv, toI] at he
        subst he
        have HIa := Lib.hid (HI.out.skip h0)
        clear hh h0
        go_wp2
        rw [HW3.out]
        go_loopw [13] (fun v wx => ∃ k : Nat, k ≤ lt ∧ v = .int .i64 k ∧ Hid (Below W3.heap.size W3 wx)) (fun v _ => lt - (intOf v).toNat)
        case atStart => exact ⟨0, by omega, rfl, Below.refl _ _⟩
        case round =>
          obtain ⟨k, hk, rfl, HBX⟩ := hrel
          by_cases hkl : k < lt
          · obtain ⟨⟨y1, y2⟩, hy⟩ : ∃ y, T[k]? = some y := ⟨_, List.getElem?_eq_getElem (by rw [HLT.out]; exact hkl)⟩
            obtain ⟨g6, c6, e6, _, _, hcap, _, p0, p1⟩ := (HO3.out.more HBX.out).h8.get hy
            rw [HLT.out] at e6 hcap
            cases e6
            have d0 := cell_later HBX.out k0
            have d1 := cell_later HBX.out k1
            clear hy k0 k1
            go_wp2
            go_quiet (fail)
            go_wp2
            go_roundw
            case rel => exact ⟨k + 1, by omega, by simp, below_more HBX.out (below_drews _ _)⟩
            case measure => simp [intOf]; omega
          · obtain rfl : k = lt := by omega
            have HO4 := Lib.hid (HO3.out.more HBX.out)
            have d0 := cell_later HBX.out k0
            have d1 := cell_later HBX.out k1
            clear k0 k1
            have HA := HO4
            go_wp2_with fail
            go_wp2_with (go_at_call 20; refine (All_run HA.out.run).mono ?_)
            rintro e w5 ⟨a5, c5, he, hs5, r5, hb5⟩
            obtain ⟨L2, hL2⟩ : ∃ L2, (allR (takeS st)).length = L2 := ⟨_, rfl⟩
            have HL2 := Lib.hid hL2
            rw [hL2] at he
            subst he
            have HA5 := Lib.hid (HA.out.more hb5)
            have g5 : w5.cell? ⟨g, off + i, none⟩ = some (.int .i64 x) := (r5.below.cell (p := ⟨g, off + i, none⟩) HG0.out.1).trans HG0.out.2
            have HZ := Lib.hid HA.out.run.z
            have HS5 := Lib.hid (show Hs wr.heap.size w5 (.slice a5 L2 c5) (allR (takeS st)) by rw [← hL2]; exact hs5)
            clear r5 hs5 hb5 hL2
            by_cases hx0 : x < 0
            · have HW := HA5
              have HI2 := HIa
              have HLG := HLG0
              go_wp2
              go_loopw [15] (fun v wx => ∃ kk : Nat, kk ≤ lg ∧ v = .int .i64 kk ∧ Hid (OW t w.heap.size w w2.heap.size p (takeS st) (.slice a8 k c8) (.slice a9 lg c9) T G wx)) (fun v _ => lg - (intOf v).toNat)
              case atStart => exact ⟨0, by omega, rfl, HW.out⟩
              case round =>
                obtain ⟨kk, hkk, rfl, HX⟩ := hrel
                by_cases hkkl : kk < lg
                · obtain ⟨⟨y1, y2⟩, hy⟩ : ∃ y, (G)[kk]? = some y := ⟨_, List.getElem?_eq_getElem (by rw [HLG.out]; exact hkkl)⟩
                  obtain ⟨g6, c6, e6, _, _, hcap, _, p0, p1⟩ := HX.out.h9.get hy
                  rw [HLG.out] at e6 hcap
                  cases e6
                  have HD := Lib.hid (HI2.out.dead (List.mem_of_getElem? hy))
                  clear hy
                  go_wp2_with (go_at_call 14; refine (Live_run HX.out.run y1 y2).mono ?_)
                  rintro e w7 ⟨he, r7, b7⟩
                  rw [HD.out] at he
                  subst he
                  have HX7 := Lib.hid (HX.out.more b7)
                  clear r7 b7 p0 p1
                  go_wp2
                  go_roundw
                  case rel => exact ⟨kk + 1, by omega, by simp, HX7.out⟩
                  case measure => simp [intOf]; omega
                · obtain rfl : kk = lg := by omega
                  go_wp2
                  go_roundw
                  case rel => exact ⟨i + 1, (takeS st), T, G, by omega, by omega, by simp, HX.out, HI2.out⟩
                  case measure => simp [intOf]; omega
            · obtain ⟨j, rfl⟩ := Int.eq_ofNat_of_zero_le (show 0 ≤ x by omega)
              by_cases hxl : j < L2
              · obtain ⟨⟨y1, y2⟩, hy⟩ : ∃ y, (allR (takeS st))[j]? = some y := ⟨_, List.getElem?_eq_getElem (by rw [HL2.out]; exact hxl)⟩
                obtain ⟨g6, c6, e6, _, _, hcap, _, p0, p1⟩ := HS5.out.get hy
                rw [HL2.out] at e6 hcap
                cases e6
                have HY := Lib.hid (give_all (List.mem_of_getElem? hy))
                have HI2 := Lib.hid (HIa.out.give (List.mem_of_getElem? hy))
                have HYY := Lib.hid hy
                clear hy hx0
                go_wp2_with (go_at_call 16; refine (Give_run HA5.out.run y1 y2).mono ?_)
                rintro e w6 ⟨he, r6, f6⟩
                rw [show giveE (takeS st) ((y1 : Int), (y2 : Int)) = 0 from HY.out] at he
                subst he
                have HA6 := Lib.hid (HA5.out.step r6 f6)
                have g6' : w6.cell? ⟨g, off + i, none⟩ = some (.int .i64 j) := (r6.below.cell (p := ⟨g, off + i, none⟩) HG0.out.1).trans HG0.out.2
                have hs6 := HS5.out.run HZ.out HA5.out.run f6
                obtain ⟨g7, c7, e7, _, _, hcap7, _, p0', p1'⟩ := hs6.get HYY.out
                rw [HL2.out] at e7 hcap7
                cases e7
                have HNW := Lib.hid (h_new w6 (y1, y2))
                have hrow := HA6.out.h9.alloc (.cells #[.int .i64 y1, .int .i64 y2] 32)
                have hzz : w2.heap.size ≤ (w6.alloc (.cells #[.int .i64 y1, .int .i64 y2] 32)).heap.size := by have := HA6.out.run.z; simp; omega
                have hrow2 : (w6.alloc (.cells #[.int .i64 y1, .int .i64 y2] 32)).ownsRow w2.heap.size 32 2 (.slice a9 lg c9) lg (hcl G) := by have := hrow; rw [HLG0.out] at this; exact this
                have HZ6 := Lib.hid hzz
                clear r6 f6 hs6 p0 p1 g5 hrow hzz
                go_wp2_with (at_builtin; go_loud (refine wpList_append_lies _ rfl _ _ 39 rfl w2.heap.size 32 i0 (.agg #[.int .i64 0, .int .i64 0]) 2 16 Tryd.underlying39 hi0 hz0 hz1 hz2 rfl (by decide) (.slice a9 lg c9) lg (hcl G) rfl hrow2 ⟨w6.heap.size, 0, none⟩ 1 1 [.int .i64 y1, .int .i64 y2] rfl rfl HNW.out (by simp [Value.oneCell']) (by decide) (by unfold maxLen; omega) (by omega) HZ6.out (w6.heap.size + 1) (by simp) ?_; intro gg cg w8 hown hgrow hat hlt8; have HW := Lib.hid (HA6.out.gone (x := (y1, y2)) (g := gg) (c := cg) (by rw [HLG0.out]; exact hown) hgrow hat); clear hown hgrow hat))
                have HLG : Hid ((G ++ [(y1, y2)]).length = lg + 1) := by show _ = _; rw [List.length_append, HLG0.out]; rfl
                rw [HLG0.out] at HW
                go_wp2
                go_loopw [15] (fun v wx => ∃ kk : Nat, kk ≤ (lg + 1) ∧ v = .int .i64 kk ∧ Hid (OW t w.heap.size w w2.heap.size p (giveS (takeS st) (toI (y1, y2))) (.slice a8 k c8) (.slice (some ⟨gg, 0, none⟩) (lg + 1) cg) T (G ++ [(y1, y2)]) wx)) (fun v _ => (lg + 1) - (intOf v).toNat)
                case atStart => exact ⟨0, by omega, rfl, HW.out⟩
                case round =>
                  obtain ⟨kk, hkk, rfl, HX⟩ := hrel
                  by_cases hkkl : kk < (lg + 1)
                  · obtain ⟨⟨y1, y2⟩, hy⟩ : ∃ y, ((G ++ [(y1, y2)]))[kk]? = some y := ⟨_, List.getElem?_eq_getElem (by rw [HLG.out]; exact hkkl)⟩
                    obtain ⟨g6, c6, e6, _, _, hcap, _, p0, p1⟩ := HX.out.h9.get hy
                    rw [HLG.out] at e6 hcap
                    cases e6
                    have HD := Lib.hid (HI2.out.dead (List.mem_of_getElem? hy))
                    clear hy
                    go_wp2_with (go_at_call 14; refine (Live_run HX.out.run y1 y2).mono ?_)
                    rintro e w7 ⟨he, r7, b7⟩
                    rw [HD.out] at he
                    subst he
                    have HX7 := Lib.hid (HX.out.more b7)
                    clear r7 b7 p0 p1
                    go_wp2
                    go_roundw
                    case rel => exact ⟨kk + 1, by omega, by simp, HX7.out⟩
                    case measure => simp [intOf]; omega
                  · obtain rfl : kk = (lg + 1) := by omega
                    go_wp2
                    go_roundw
                    case rel => exact ⟨i + 1, (giveS (takeS st) (toI (y1, y2))), T, (G ++ [(y1, y2)]), by omega, by omega, by simp, HX.out, HI2.out⟩
                    case measure => simp [intOf]; omega
              · have hxb : decide ((j : Int) < (L2 : Int)) = false := by simp; omega
                have hxl2 : ¬ (j : Int) < (L2 : Int) := by omega
                have hxb2 : decide (j < L2) = false := by simp; omega
                have hxl3 : ¬ j < L2 := by omega
                have HW := HA5
                have HI2 := HIa
                have HLG := HLG0
                clear hx0 hxl
                go_wp2
                go_loopw [15] (fun v wx => ∃ kk : Nat, kk ≤ lg ∧ v = .int .i64 kk ∧ Hid (OW t w.heap.size w w2.heap.size p (takeS st) (.slice a8 k c8) (.slice a9 lg c9) T G wx)) (fun v _ => lg - (intOf v).toNat)
                case atStart => exact ⟨0, by omega, rfl, HW.out⟩
                case round =>
                  obtain ⟨kk, hkk, rfl, HX⟩ := hrel
                  by_cases hkkl : kk < lg
                  · obtain ⟨⟨y1, y2⟩, hy⟩ : ∃ y, (G)[kk]? = some y := ⟨_, List.getElem?_eq_getElem (by rw [HLG.out]; exact hkkl)⟩
                    obtain ⟨g6, c6, e6, _, _, hcap, _, p0, p1⟩ := HX.out.h9.get hy
                    rw [HLG.out] at e6 hcap
                    cases e6
                    have HD := Lib.hid (HI2.out.dead (List.mem_of_getElem? hy))
                    clear hy
                    go_wp2_with (go_at_call 14; refine (Live_run HX.out.run y1 y2).mono ?_)
                    rintro e w7 ⟨he, r7, b7⟩
                    rw [HD.out] at he
                    subst he
                    have HX7 := Lib.hid (HX.out.more b7)
                    clear r7 b7 p0 p1
                    go_wp2
                    go_roundw
                    case rel => exact ⟨kk + 1, by omega, by simp, HX7.out⟩
                    case measure => simp [intOf]; omega
                  · obtain rfl : kk = lg := by omega
                    go_wp2
                    go_roundw
                    case rel => exact ⟨i + 1, (takeS st), T, G, by omega, by omega, by simp, HX.out, HI2.out⟩
                    case measure => simp [intOf]; omega
    · have hal : (allR st).length + lg = lt := by have := HSUM.out; omega
      obtain ⟨u, hu⟩ : ∃ u, (allR st).length = u := ⟨_, rfl⟩
      rw [hu] at hal
      have HU := Lib.hid hu
      have hsub : (lt : Int) - (lg : Int) = (u : Int) := by omega
      clear hu
      by_cases hil : i < len
      · have hi100 : ¬ i < 100 := fun h => hlt ⟨hil, h⟩
        clear hlt
        go_wp2_with (go_at_call 20; refine (All_run HO.out.run).mono ?_)
        rintro e w5 ⟨a5, c5, he, hs5, r5, hb5⟩
        rw [HU.out] at he
        subst he
        have R5 := Lib.hid r5
        have HUS := Lib.hid (Used_run r5)
        rw [HU.out] at HUS
        clear hs5 r5 hb5
        go_wp2_with (go_at_call 21; refine HUS.out.mono ?_; rintro e w' ⟨rfl, rfl⟩)
        go_ret
        exact ⟨rfl, R5.out.below⟩
      · clear hlt
        go_wp2_with (go_at_call 20; refine (All_run HO.out.run).mono ?_)
        rintro e w5 ⟨a5, c5, he, hs5, r5, hb5⟩
        rw [HU.out] at he
        subst he
        have R5 := Lib.hid r5
        have HUS := Lib.hid (Used_run r5)
        rw [HU.out] at HUS
        clear hs5 r5 hb5
        go_wp2_with (go_at_call 21; refine HUS.out.mono ?_; rintro e w' ⟨rfl, rfl⟩)
        go_ret
        exact ⟨rfl, R5.out.below⟩

theorem once_walk (t : Sn) (n : Int) (a : Option Addr) (len cap : Nat) (zs : List Int) (hlen : zs.length = len) (hlc : len ≤ cap) (hcm : cap ≤ maxLen) (w : World) (hc : Ctx t w.heap.size w) (hG : SlI w a zs) : Calls Tryd.prog 4 #[.int .i64 n, .slice a len cap] w (TruePost w) := by
  by_cases h : n < 1 ∨ 64 < n
  · exact once_walk_bad t n h a len cap w hc
  · obtain ⟨k, rfl⟩ := Int.eq_ofNat_of_zero_le (show 0 ≤ n by omega)
    exact once_walk_ok t k (by omega) (by omega) a len cap zs hlen hlc hcm w hc hG

end Go.Proofs.YtjfooblnpkckfaaDoor
