/- FileSizes: the walk. -/
import Derived.Test.YtmaolhaddgecpaaDoorLawBack
namespace Go.Proofs.YtmaolhaddgecpaaDoor
open Go.RowKit Go.Proofs.Fld Go.Proofs.Fil Go.Shelf Go.Sort

set_option maxRecDepth 100000 in
set_option maxHeartbeats 8000000 in
theorem sizes_walk (s : It) (n : Int) (hs : s.length ≤ 9223372036854775807) (w : World) (hg : ErrT w) :
    Calls Tryd.prog 7 #[.string (bs s), .int .i64 n] w (TruePost w) := by
  obtain ⟨y, hy⟩ : ∃ v, s.take 1010 = v := ⟨_, rfl⟩
  have ly : y.length ≤ 1010 := by rw [← hy, List.length_take]; omega
  have Cy := Lib.hid (fun W => hy ▸ lcut_any s hs W)
  clear hy
  have hn := bs_nil
  have zy := bs_size y
  obtain ⟨SL, hSL⟩ : ∃ v, y.length = v := ⟨_, rfl⟩
  have HG := Lib.hid (And.intro hg (Below.refl w.heap.size w))
  clear hg
  cases hr1 : cutR y n with
  | none =>
    have hno := cutR_none hr1
    rw [hSL] at hno zy
    have HX := Lib.hid hr1
    clear hr1
    by_cases h1 : 1000 < SL
    · have d1 : decide ((SL : Int) > 1000) = true := decide_eq_true (by omega)
      clear hno h1 hSL
      go_enter Tryd.func7, Tryd.ntmps7
      go_wp2_with (go_at_call 10; refine (shown_any _ HG.out.1).mono ?_)
      rintro e w1 ⟨rfl, hb⟩
      replace HG := Lib.hid (And.intro (HG.out.1.more hb) (below_more HG.out.2 hb))
      clear hb
      go_wp2_with (go_at_call 11; refine (Cy.out _).mono ?_)
      rintro e w2 ⟨rfl, rfl⟩
      go_wp2_with (go_at_call 18; refine (Cut_p HX.out txt_none errR_none HG.out.1).mono ?_)
      rintro e w3 ⟨rfl, hb⟩
      replace HG := Lib.hid (And.intro (HG.out.1.more hb) (below_more HG.out.2 hb))
      clear hb
      go_wp2
      go_ret
      exact ⟨rfl, HG.out.2⟩
    · have d1 : decide ((SL : Int) > 1000) = false := decide_eq_false (by omega)
      by_cases h2 : n < 0
      · have d2 : decide (n < 0) = true := decide_eq_true h2
        clear hno h1 h2 hSL
        go_enter Tryd.func7, Tryd.ntmps7
        go_wp2_with (go_at_call 10; refine (shown_any _ HG.out.1).mono ?_)
        rintro e w4 ⟨rfl, hb⟩
        replace HG := Lib.hid (And.intro (HG.out.1.more hb) (below_more HG.out.2 hb))
        clear hb
        go_wp2_with (go_at_call 11; refine (Cy.out _).mono ?_)
        rintro e w5 ⟨rfl, rfl⟩
        go_wp2_with (go_at_call 18; refine (Cut_p HX.out txt_none errR_none HG.out.1).mono ?_)
        rintro e w6 ⟨rfl, hb⟩
        replace HG := Lib.hid (And.intro (HG.out.1.more hb) (below_more HG.out.2 hb))
        clear hb
        go_wp2
        go_ret
        exact ⟨rfl, HG.out.2⟩
      · have d2 : decide (n < 0) = false := decide_eq_false h2
        have d3 : decide (n > 1000) = true := decide_eq_true (by omega)
        clear hno h1 h2 hSL
        go_enter Tryd.func7, Tryd.ntmps7
        go_wp2_with (go_at_call 10; refine (shown_any _ HG.out.1).mono ?_)
        rintro e w7 ⟨rfl, hb⟩
        replace HG := Lib.hid (And.intro (HG.out.1.more hb) (below_more HG.out.2 hb))
        clear hb
        go_wp2_with (go_at_call 11; refine (Cy.out _).mono ?_)
        rintro e w8 ⟨rfl, rfl⟩
        go_wp2_with (go_at_call 18; refine (Cut_p HX.out txt_none errR_none HG.out.1).mono ?_)
        rintro e w9 ⟨rfl, hb⟩
        replace HG := Lib.hid (And.intro (HG.out.1.more hb) (below_more HG.out.2 hb))
        clear hb
        go_wp2
        go_ret
        exact ⟨rfl, HG.out.2⟩
  | some a =>
    obtain ⟨m, rfl, hm1, hy1, he, hal⟩ := cutR_some hr1
    have hget := fun i hi => cut_get (i := i) hr1 hi
    have za := bs_size a
    rw [hal] at za
    have HX := Lib.hid (And.intro hr1 (And.intro hget hSL))
    have HM := Lib.hid hm1
    rw [hSL] at zy
    clear hr1 hget he hal hy1 hSL hm1
    go_enter Tryd.func7, Tryd.ntmps7
    go_wp2_with (go_at_call 10; refine (shown_any _ HG.out.1).mono ?_)
    rintro e w10 ⟨rfl, hb⟩
    replace HG := Lib.hid (And.intro (HG.out.1.more hb) (below_more HG.out.2 hb))
    clear hb
    go_wp2_with (go_at_call 11; refine (Cy.out _).mono ?_)
    rintro e w11 ⟨rfl, rfl⟩
    go_wp2_with (go_at_call 18; refine (Cut_p HX.out.1 (txt_some a) (errR_some a) HG.out.1).mono ?_)
    rintro e w12 ⟨rfl, hb⟩
    replace HG := Lib.hid (And.intro (HG.out.1.more hb) (below_more HG.out.2 hb))
    clear hb
    go_wp2
    go_loopw [8] (fun v wr => ∃ i : Nat, i ≤ m ∧ v = .int .i64 (i : Int) ∧ Hid (Below w.heap.size w wr)) (fun v _ => m - (intOf v).toNat)
    case atStart => exact ⟨0, Nat.zero_le _, rfl, HG.out.2⟩
    case round =>
      obtain ⟨i, hi, rfl, HB⟩ := hrel
      by_cases hlt : i < m
      · have d1 : decide ((i : Int) < (m : Int)) = true := decide_eq_true (by omega)
        have d2 : decide (i < m) = true := decide_eq_true hlt
        have HWI := Lib.hid (show IntKind.i64.wrap ((i : Int) + 1) = ((i + 1 : Nat) : Int) by have := HM.out; rw [IntKind.wrap_i64]; omega)
        have HI := Lib.hid hlt
        have hg := HX.out.2.1 i hlt
        rw [HX.out.2.2] at hg
        by_cases hik : i < SL
        · have d3 : decide ((i : Int) < (SL : Int)) = true := decide_eq_true (by omega)
          have d4 : decide (i < SL) = true := decide_eq_true hik
          have d5 : decide ((i : Int) ≥ (SL : Int)) = false := decide_eq_false (by omega)
          have d6 : decide (SL ≤ i) = false := decide_eq_false (by omega)
          rw [if_pos hik] at hg
          obtain ⟨b, hb⟩ : ∃ b, y[i]? = some b := ⟨_, List.getElem?_eq_getElem (by rw [HX.out.2.2]; exact hik)⟩
          obtain ⟨V, hV⟩ : ∃ V : Int, (b.toNat : Int) = V := ⟨_, rfl⟩
          have i1 := str_idx y i b hb V hV
          have i2 := str_idx a i b (hg.trans hb) V hV
          clear hb hV hik hlt hg
          have hwi := HWI.out
          go_wp2
          go_quiet (fail)
          go_wp2
          go_roundw
          case rel => exact ⟨i + 1, HI.out, by simp, below_drewN HB.out _⟩
          case measure => have := HI.out; clear hwi; simp [intOf]; omega
        · have d3 : decide ((i : Int) < (SL : Int)) = false := decide_eq_false (by omega)
          have d4 : decide (i < SL) = false := decide_eq_false hik
          have d5 : decide ((i : Int) ≥ (SL : Int)) = true := decide_eq_true (by omega)
          have d6 : decide (SL ≤ i) = true := decide_eq_true (by omega)
          rw [if_neg hik] at hg
          have i2 := str_idx a i 0 hg 0 rfl
          clear hik hlt hg
          have hwi := HWI.out
          go_wp2
          go_quiet (fail)
          go_wp2
          go_roundw
          case rel => exact ⟨i + 1, HI.out, by simp, below_drewN HB.out _⟩
          case measure => have := HI.out; clear hwi; simp [intOf]; omega
      · obtain rfl : i = m := by omega
        have d1 : decide ((i : Int) < (i : Int)) = false := decide_eq_false (by omega)
        go_wp2
        go_ret
        exact ⟨rfl, HB.out⟩
end Go.Proofs.YtmaolhaddgecpaaDoor
