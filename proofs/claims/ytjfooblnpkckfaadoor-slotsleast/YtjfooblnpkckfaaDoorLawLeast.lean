/- SlotsLeast: the walk. -/
import Derived.Test.YtjfooblnpkckfaaDoorSlLaws
namespace Go.Proofs.YtjfooblnpkckfaaDoor
open Go.RowKit Go.Proofs.Slt Go.Shelf

set_option maxRecDepth 100000 in
set_option maxHeartbeats 2000000 in
theorem least_walk_bad (t : Sn) (n : Int) (hn : n < 1 ∨ 64 < n) (a : Option Addr) (len cap : Nat) (w : World) (hc : Ctx t w.heap.size w) : Calls Tryd.prog 8 #[.int .i64 n, .slice a len cap] w (TruePost w) := by
  have HC := Lib.hid hc
  have HN := Lib.hid hn
  clear hc hn
  go_enter Tryd.func8, Tryd.ntmps8
  go_wp2_with (go_at_call 9; refine (shown_any t w.heap.size _ HC.out).mono ?_)
  rintro e w1 ⟨rfl, hb1⟩
  have HB1 := Lib.hid hb1
  clear hb1
  go_wp2_with (go_at_call 10; refine (New_bad n _ HN.out).mono ?_; rintro e w2 ⟨rfl, rfl⟩)
  go_ret
  exact ⟨rfl, HB1.out⟩

set_option maxRecDepth 100000 in
set_option maxHeartbeats 8000000 in
theorem least_walk_ok (t : Sn) (n : Nat) (h1 : 1 ≤ n) (h2 : n ≤ 64) (a : Option Addr) (len cap : Nat) (zs : List Int) (hlen : zs.length = len) (hlc : len ≤ cap) (hcm : cap ≤ maxLen) (w : World) (hc : Ctx t w.heap.size w) (hG : SlI w a zs) : Calls Tryd.prog 8 #[.int .i64 n, .slice a len cap] w (TruePost w) := by
  have HC := Lib.hid hc
  have HG := Lib.hid (And.intro hG (And.intro hlen hcm))
  have hm : cap < 9223372036854775808 := by unfold maxLen at hcm; omega
  have _hu := hlc
  clear _hu
  clear hc hG hlen hcm
  go_enter Tryd.func8, Tryd.ntmps8
  go_wp2_with (go_at_call 9; refine (shown_any t w.heap.size _ HC.out).mono ?_)
  rintro e w1 ⟨rfl, hb1⟩
  have HB1 := Lib.hid hb1
  clear hb1
  go_wp2_with (go_at_call 10; refine (New_ok n w1 h1 h2).mono ?_)
  rintro e w2 ⟨p, rfl, q1, q2⟩
  have R0 := Lib.hid (Run.start (HC.out.more HB1.out) HB1.out q1 q2)
  clear q1 q2
  go_wp2
  go_loopw [8] (fun v wr => ∃ (i : Nat) (st : St), i ≤ len ∧ i ≤ 100 ∧ v = .int .i64 i ∧ Hid (Run t w.heap.size w w2.heap.size p st wr ∧ Okay n i st)) (fun v _ => len - (intOf v).toNat)
  case atStart => exact ⟨0, fresh n, by omega, by omega, rfl, R0.out, okay_fresh n⟩
  case round =>
    obtain ⟨i, st, hi, hi2, rfl, HR⟩ := hrel
    by_cases hlt : i < len ∧ i < 100
    · obtain ⟨hil, hi100⟩ := hlt
      obtain ⟨g, off, rfl, hg, hcz⟩ := HG.out.1 i (by rw [HG.out.2.1]; exact hil)
      obtain ⟨x, hx⟩ : ∃ x, zs[i]'(by rw [HG.out.2.1]; exact hil) = x := ⟨_, rfl⟩
      rw [hx] at hcz
      have HG0 := Lib.hid (And.intro hg hcz)
      clear hg hcz hx
      go_wp2_with (go_at_call 20; refine (All_run HR.out.1).mono ?_)
      rintro e w3 ⟨a3, c3, he, hs3, r3, hb3⟩
      have hFs := least_facts HR.out.2 (by omega)
      obtain ⟨F, hF⟩ : ∃ F, leastOf st = F := ⟨_, rfl⟩
      rw [hF] at hFs
      have HF := Lib.hid hFs
      obtain ⟨L, hL⟩ : ∃ L, (allR st).length = L := ⟨_, rfl⟩
      have hFL : F ≤ L := by have := hFs.1; rw [hL] at this; exact this
      have hL64 : L ≤ 64 := by have := allR_le st; rw [hL, HR.out.2.1] at this; omega
      have HS3 := Lib.hid (show Hs wr.heap.size w3 (.slice a3 L c3) (allR st) by rw [← hL]; exact hs3)
      rw [hL] at he
      subst he
      have R3 := Lib.hid r3
      have HL := Lib.hid hL
      clear hFs hF hs3 r3 hb3 hL
      go_wp2
      go_loopw [10] (fun v wx => ∃ k : Nat, k ≤ F ∧ v = .int .i64 k ∧ wx = w3) (fun v _ => F - (intOf v).toNat)
      case atStart => exact ⟨0, by omega, rfl, rfl⟩
      case round =>
        obtain ⟨k, hk, rfl, rfl⟩ := hrel
        have hL := HL.out
        by_cases hkF : k < F
        · obtain ⟨y2, hy⟩ := HF.out.2.1 k hkF
          obtain ⟨g6, c6, e6, _, _, hcap, _, p0, p1⟩ := HS3.out.get hy
          rw [hL] at e6 hcap
          cases e6
          clear hy hL
          go_wp2
          go_roundw
          case rel => exact ⟨k + 1, by omega, by simp, trivial⟩
          case measure => simp [intOf]; omega
        · obtain rfl : k = F := by omega
          by_cases hlL : k < L
          · obtain ⟨⟨y1, y2⟩, hy⟩ : ∃ y, (allR st)[k]? = some y := ⟨_, List.getElem?_eq_getElem (by rw [hL]; exact hlL)⟩
            obtain ⟨g6, c6, e6, _, _, hcap, _, p0, p1⟩ := HS3.out.get hy
            rw [hL] at e6 hcap
            cases e6
            have hgt := HF.out.2.2.1 _ hy
            have hne : ((y1 : Int) == (k : Int)) = false := by simp; simp at hgt; omega
            clear hy hgt
            go_wp2_with (go_at_call 12; refine (Take_run R3.out).mono ?_)
            rintro e w4 ⟨he, r4, f4⟩
            rcases HF.out.2.2.2.2 with h0 | ⟨h60, hLn⟩
            · obtain ⟨⟨t1, t2⟩, ht⟩ : ∃ y, takeH st = y := ⟨_, rfl⟩
              have ht1 : t1 = k := by have := HF.out.2.2.2.1 h0; rw [ht] at this; exact this
              subst ht1
              rw [ht, h0] at he
              simp only [ihv, toI] at he
              subst he
              have R4 := Lib.hid (r4.alloc (.cells #[.int .i64 t1, .int .i64 t2] 32))
              obtain ⟨W4, hW4⟩ : ∃ W4, w4.alloc (.cells #[.int .i64 t1, .int .i64 t2] 32) = W4 := ⟨_, rfl⟩
              have k0 : W4.cell? ⟨w4.heap.size, 0, none⟩ = some (.int .i64 t1) := by rw [← hW4]; simp
              rw [hW4] at R4
              have HW4 := Lib.hid hW4
              clear r4 f4 ht h0 hW4
              go_wp2_with fail
              rw [HW4.out]
              go_wp2_with (go_at_call 20; refine (All_run R4.out).mono ?_)
              rintro e w5 ⟨a5, c5, he, hs5, r5, hb5⟩
              clear k0
              obtain ⟨L2, hL2⟩ : ∃ L2, (allR (takeS st)).length = L2 := ⟨_, rfl⟩
              have HL2 := Lib.hid hL2
              rw [hL2] at he
              subst he
              have R5 := Lib.hid r5
              have g5 : w5.cell? ⟨g, off + i, none⟩ = some (.int .i64 x) := (r5.below.cell (p := ⟨g, off + i, none⟩) HG0.out.1).trans HG0.out.2
              have HS5 := Lib.hid (show Hs W4.heap.size w5 (.slice a5 L2 c5) (allR (takeS st)) by rw [← hL2]; exact hs5)
              clear r5 hs5 hb5 hL2
              by_cases hx0 : x < 0
              · go_wp2
                go_roundw
                case rel => exact ⟨i + 1, takeS st, by omega, by omega, by simp, R5.out, okay_take HR.out.2⟩
                case measure => simp [intOf]; omega
              · obtain ⟨j, rfl⟩ := Int.eq_ofNat_of_zero_le (show 0 ≤ x by omega)
                by_cases hxl : j < L2
                · obtain ⟨⟨y1, y2⟩, hy⟩ : ∃ y, (allR (takeS st))[j]? = some y := ⟨_, List.getElem?_eq_getElem (by rw [HL2.out]; exact hxl)⟩
                  obtain ⟨g6, c6, e6, _, _, hcap, _, p0, p1⟩ := HS5.out.get hy
                  rw [HL2.out] at e6 hcap
                  cases e6
                  have HY := Lib.hid (give_all (List.mem_of_getElem? hy))
                  clear hy hx0
                  go_wp2_with (go_at_call 16; refine (Give_run R5.out y1 y2).mono ?_)
                  rintro e w6 ⟨he, r6, f6⟩
                  rw [show giveE (takeS st) ((y1 : Int), (y2 : Int)) = 0 from HY.out] at he
                  subst he
                  have R6 := Lib.hid r6
                  clear r6 f6
                  go_wp2
                  go_roundw
                  case rel => exact ⟨i + 1, _, by omega, by omega, by simp, R6.out, okay_give (okay_take HR.out.2) _⟩
                  case measure => simp [intOf]; omega
                · have hxl2 : L2 ≤ j := by omega
                  clear hx0 hxl
                  go_wp2
                  go_roundw
                  case rel => exact ⟨i + 1, takeS st, by omega, by omega, by simp, R5.out, okay_take HR.out.2⟩
                  case measure => simp [intOf]; omega
            · obtain ⟨⟨t1, t2⟩, ht⟩ : ∃ y, takeH st = y := ⟨_, rfl⟩
              rw [ht, h60] at he
              simp only [ihv, toI] at he
              subst he
              have R4 := Lib.hid (r4.alloc (.cells #[.int .i64 t1, .int .i64 t2] 32))
              obtain ⟨W4, hW4⟩ : ∃ W4, w4.alloc (.cells #[.int .i64 t1, .int .i64 t2] 32) = W4 := ⟨_, rfl⟩
              rw [hW4] at R4
              have HW4 := Lib.hid hW4
              rw [hL] at hLn
              have eLn : ((L : Int) == (n : Int)) = true := by rw [hLn]; simp
              subst hLn
              clear r4 f4 ht h60 hW4 eLn
              go_wp2_with fail
              rw [HW4.out]
              go_wp2_with (go_at_call 20; refine (All_run R4.out).mono ?_)
              rintro e w5 ⟨a5, c5, he, hs5, r5, hb5⟩
              obtain ⟨L2, hL2⟩ : ∃ L2, (allR (takeS st)).length = L2 := ⟨_, rfl⟩
              have HL2 := Lib.hid hL2
              rw [hL2] at he
              subst he
              have R5 := Lib.hid r5
              have g5 : w5.cell? ⟨g, off + i, none⟩ = some (.int .i64 x) := (r5.below.cell (p := ⟨g, off + i, none⟩) HG0.out.1).trans HG0.out.2
              have HS5 := Lib.hid (show Hs W4.heap.size w5 (.slice a5 L2 c5) (allR (takeS st)) by rw [← hL2]; exact hs5)
              clear r5 hs5 hb5 hL2
              by_cases hx0 : x < 0
              · go_wp2
                go_roundw
                case rel => exact ⟨i + 1, takeS st, by omega, by omega, by simp, R5.out, okay_take HR.out.2⟩
                case measure => simp [intOf]; omega
              · obtain ⟨j, rfl⟩ := Int.eq_ofNat_of_zero_le (show 0 ≤ x by omega)
                by_cases hxl : j < L2
                · obtain ⟨⟨y1, y2⟩, hy⟩ : ∃ y, (allR (takeS st))[j]? = some y := ⟨_, List.getElem?_eq_getElem (by rw [HL2.out]; exact hxl)⟩
                  obtain ⟨g6, c6, e6, _, _, hcap, _, p0, p1⟩ := HS5.out.get hy
                  rw [HL2.out] at e6 hcap
                  cases e6
                  have HY := Lib.hid (give_all (List.mem_of_getElem? hy))
                  clear hy hx0
                  go_wp2_with (go_at_call 16; refine (Give_run R5.out y1 y2).mono ?_)
                  rintro e w6 ⟨he, r6, f6⟩
                  rw [show giveE (takeS st) ((y1 : Int), (y2 : Int)) = 0 from HY.out] at he
                  subst he
                  have R6 := Lib.hid r6
                  clear r6 f6
                  go_wp2
                  go_roundw
                  case rel => exact ⟨i + 1, _, by omega, by omega, by simp, R6.out, okay_give (okay_take HR.out.2) _⟩
                  case measure => simp [intOf]; omega
                · have hxl2 : L2 ≤ j := by omega
                  clear hx0 hxl
                  go_wp2
                  go_roundw
                  case rel => exact ⟨i + 1, takeS st, by omega, by omega, by simp, R5.out, okay_take HR.out.2⟩
                  case measure => simp [intOf]; omega
          · have hlL2 : L ≤ k := by omega
            go_wp2_with (go_at_call 12; refine (Take_run R3.out).mono ?_)
            rintro e w4 ⟨he, r4, f4⟩
            rcases HF.out.2.2.2.2 with h0 | ⟨h60, hLn⟩
            · obtain ⟨⟨t1, t2⟩, ht⟩ : ∃ y, takeH st = y := ⟨_, rfl⟩
              have ht1 : t1 = k := by have := HF.out.2.2.2.1 h0; rw [ht] at this; exact this
              subst ht1
              rw [ht, h0] at he
              simp only [ihv, toI] at he
              subst he
              have R4 := Lib.hid (r4.alloc (.cells #[.int .i64 t1, .int .i64 t2] 32))
              obtain ⟨W4, hW4⟩ : ∃ W4, w4.alloc (.cells #[.int .i64 t1, .int .i64 t2] 32) = W4 := ⟨_, rfl⟩
              have k0 : W4.cell? ⟨w4.heap.size, 0, none⟩ = some (.int .i64 t1) := by rw [← hW4]; simp
              rw [hW4] at R4
              have HW4 := Lib.hid hW4
              clear r4 f4 ht h0 hW4
              go_wp2_with fail
              rw [HW4.out]
              go_wp2_with (go_at_call 20; refine (All_run R4.out).mono ?_)
              rintro e w5 ⟨a5, c5, he, hs5, r5, hb5⟩
              clear k0
              obtain ⟨L2, hL2⟩ : ∃ L2, (allR (takeS st)).length = L2 := ⟨_, rfl⟩
              have HL2 := Lib.hid hL2
              rw [hL2] at he
              subst he
              have R5 := Lib.hid r5
              have g5 : w5.cell? ⟨g, off + i, none⟩ = some (.int .i64 x) := (r5.below.cell (p := ⟨g, off + i, none⟩) HG0.out.1).trans HG0.out.2
              have HS5 := Lib.hid (show Hs W4.heap.size w5 (.slice a5 L2 c5) (allR (takeS st)) by rw [← hL2]; exact hs5)
              clear r5 hs5 hb5 hL2
              by_cases hx0 : x < 0
              · go_wp2
                go_roundw
                case rel => exact ⟨i + 1, takeS st, by omega, by omega, by simp, R5.out, okay_take HR.out.2⟩
                case measure => simp [intOf]; omega
              · obtain ⟨j, rfl⟩ := Int.eq_ofNat_of_zero_le (show 0 ≤ x by omega)
                by_cases hxl : j < L2
                · obtain ⟨⟨y1, y2⟩, hy⟩ : ∃ y, (allR (takeS st))[j]? = some y := ⟨_, List.getElem?_eq_getElem (by rw [HL2.out]; exact hxl)⟩
                  obtain ⟨g6, c6, e6, _, _, hcap, _, p0, p1⟩ := HS5.out.get hy
                  rw [HL2.out] at e6 hcap
                  cases e6
                  have HY := Lib.hid (give_all (List.mem_of_getElem? hy))
                  clear hy hx0
                  go_wp2_with (go_at_call 16; refine (Give_run R5.out y1 y2).mono ?_)
                  rintro e w6 ⟨he, r6, f6⟩
                  rw [show giveE (takeS st) ((y1 : Int), (y2 : Int)) = 0 from HY.out] at he
                  subst he
                  have R6 := Lib.hid r6
                  clear r6 f6
                  go_wp2
                  go_roundw
                  case rel => exact ⟨i + 1, _, by omega, by omega, by simp, R6.out, okay_give (okay_take HR.out.2) _⟩
                  case measure => simp [intOf]; omega
                · have hxl2 : L2 ≤ j := by omega
                  clear hx0 hxl
                  go_wp2
                  go_roundw
                  case rel => exact ⟨i + 1, takeS st, by omega, by omega, by simp, R5.out, okay_take HR.out.2⟩
                  case measure => simp [intOf]; omega
            · obtain ⟨⟨t1, t2⟩, ht⟩ : ∃ y, takeH st = y := ⟨_, rfl⟩
              rw [ht, h60] at he
              simp only [ihv, toI] at he
              subst he
              have R4 := Lib.hid (r4.alloc (.cells #[.int .i64 t1, .int .i64 t2] 32))
              obtain ⟨W4, hW4⟩ : ∃ W4, w4.alloc (.cells #[.int .i64 t1, .int .i64 t2] 32) = W4 := ⟨_, rfl⟩
              rw [hW4] at R4
              have HW4 := Lib.hid hW4
              rw [hL] at hLn
              have eLn : ((L : Int) == (n : Int)) = true := by rw [hLn]; simp
              subst hLn
              clear r4 f4 ht h60 hW4 eLn
              go_wp2_with fail
              rw [HW4.out]
              go_wp2_with (go_at_call 20; refine (All_run R4.out).mono ?_)
              rintro e w5 ⟨a5, c5, he, hs5, r5, hb5⟩
              obtain ⟨L2, hL2⟩ : ∃ L2, (allR (takeS st)).length = L2 := ⟨_, rfl⟩
              have HL2 := Lib.hid hL2
              rw [hL2] at he
              subst he
              have R5 := Lib.hid r5
              have g5 : w5.cell? ⟨g, off + i, none⟩ = some (.int .i64 x) := (r5.below.cell (p := ⟨g, off + i, none⟩) HG0.out.1).trans HG0.out.2
              have HS5 := Lib.hid (show Hs W4.heap.size w5 (.slice a5 L2 c5) (allR (takeS st)) by rw [← hL2]; exact hs5)
              clear r5 hs5 hb5 hL2
              by_cases hx0 : x < 0
              · go_wp2
                go_roundw
                case rel => exact ⟨i + 1, takeS st, by omega, by omega, by simp, R5.out, okay_take HR.out.2⟩
                case measure => simp [intOf]; omega
              · obtain ⟨j, rfl⟩ := Int.eq_ofNat_of_zero_le (show 0 ≤ x by omega)
                by_cases hxl : j < L2
                · obtain ⟨⟨y1, y2⟩, hy⟩ : ∃ y, (allR (takeS st))[j]? = some y := ⟨_, List.getElem?_eq_getElem (by rw [HL2.out]; exact hxl)⟩
                  obtain ⟨g6, c6, e6, _, _, hcap, _, p0, p1⟩ := HS5.out.get hy
                  rw [HL2.out] at e6 hcap
                  cases e6
                  have HY := Lib.hid (give_all (List.mem_of_getElem? hy))
                  clear hy hx0
                  go_wp2_with (go_at_call 16; refine (Give_run R5.out y1 y2).mono ?_)
                  rintro e w6 ⟨he, r6, f6⟩
                  rw [show giveE (takeS st) ((y1 : Int), (y2 : Int)) = 0 from HY.out] at he
                  subst he
                  have R6 := Lib.hid r6
                  clear r6 f6
                  go_wp2
                  go_roundw
                  case rel => exact ⟨i + 1, _, by omega, by omega, by simp, R6.out, okay_give (okay_take HR.out.2) _⟩
                  case measure => simp [intOf]; omega
                · have hxl2 : L2 ≤ j := by omega
                  clear hx0 hxl
                  go_wp2
                  go_roundw
                  case rel => exact ⟨i + 1, takeS st, by omega, by omega, by simp, R5.out, okay_take HR.out.2⟩
                  case measure => simp [intOf]; omega
    · by_cases hil : i < len
      · have hi100 : ¬ i < 100 := fun h => hlt ⟨hil, h⟩
        clear hlt
        go_wp2
        go_ret
        exact ⟨rfl, HR.out.1.below⟩
      · clear hlt
        go_wp2
        go_ret
        exact ⟨rfl, HR.out.1.below⟩

theorem least_walk (t : Sn) (n : Int) (a : Option Addr) (len cap : Nat) (zs : List Int) (hlen : zs.length = len) (hlc : len ≤ cap) (hcm : cap ≤ maxLen) (w : World) (hc : Ctx t w.heap.size w) (hG : SlI w a zs) : Calls Tryd.prog 8 #[.int .i64 n, .slice a len cap] w (TruePost w) := by
  by_cases h : n < 1 ∨ 64 < n
  · exact least_walk_bad t n h a len cap w hc
  · obtain ⟨k, rfl⟩ := Int.eq_ofNat_of_zero_le (show 0 ≤ n by omega)
    exact least_walk_ok t k (by omega) (by omega) a len cap zs hlen hlc hcm w hc hG

end Go.Proofs.YtjfooblnpkckfaaDoor
