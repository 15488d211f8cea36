/- FileReads: the walk. -/
import Derived.Test.YtmaolhaddgecpaaDoorFlRef
namespace Go.Proofs.YtmaolhaddgecpaaDoor
open Go.RowKit Go.Proofs.Fld Go.Proofs.Fil Go.Shelf Go.Sort

set_option maxRecDepth 100000 in
set_option maxHeartbeats 8000000 in
theorem reads_walk (s : It) (o n m : Int) (hs : s.length ≤ 9223372036854775807) (w : World) (hg : ErrT w) :
    Calls Tryd.prog 9 #[.string (bs s), .int .i64 o, .int .i64 n, .int .i64 m] w (TruePost w) := by
  obtain ⟨y, hy⟩ : ∃ v, s.take 1010 = v := ⟨_, rfl⟩
  have ly : y.length ≤ 1010 := by rw [← hy, List.length_take]; omega
  have Cy := Lib.hid (fun W => hy ▸ lcut_any s hs W)
  clear hy
  have hn := bs_nil
  have zy := bs_size y
  have HG := Lib.hid (And.intro hg (Below.refl w.heap.size w))
  clear hg
  by_cases h1 : n < 0
  · skip
    have hd1 : decide (n < 0) = true := decide_eq_true h1
    go_enter Tryd.func9, Tryd.ntmps9
    go_wp2_with (go_at_call 10; refine (shown_any _ HG.out.1).mono ?_)
    rintro e w1 ⟨rfl, hb⟩
    replace HG := Lib.hid (And.intro (HG.out.1.more hb) (below_more HG.out.2 hb))
    clear hb
    go_wp2_with (go_at_call 11; refine (Cy.out _).mono ?_)
    rintro e w2 ⟨rfl, rfl⟩
    go_wp2
    go_ret
    exact ⟨rfl, HG.out.2⟩
  · have hd1 : decide (n < 0) = false := decide_eq_false h1
    by_cases h2 : m < 0
    · skip
      have hd2 : decide (m < 0) = true := decide_eq_true h2
      go_enter Tryd.func9, Tryd.ntmps9
      go_wp2_with (go_at_call 10; refine (shown_any _ HG.out.1).mono ?_)
      rintro e w3 ⟨rfl, hb⟩
      replace HG := Lib.hid (And.intro (HG.out.1.more hb) (below_more HG.out.2 hb))
      clear hb
      go_wp2_with (go_at_call 11; refine (Cy.out _).mono ?_)
      rintro e w4 ⟨rfl, rfl⟩
      go_wp2
      go_ret
      exact ⟨rfl, HG.out.2⟩
    · have hd2 : decide (m < 0) = false := decide_eq_false h2
      by_cases h3 : 2000 < n
      · skip
        have hd3 : decide (n > 2000) = true := decide_eq_true h3
        go_enter Tryd.func9, Tryd.ntmps9
        go_wp2_with (go_at_call 10; refine (shown_any _ HG.out.1).mono ?_)
        rintro e w5 ⟨rfl, hb⟩
        replace HG := Lib.hid (And.intro (HG.out.1.more hb) (below_more HG.out.2 hb))
        clear hb
        go_wp2_with (go_at_call 11; refine (Cy.out _).mono ?_)
        rintro e w6 ⟨rfl, rfl⟩
        go_wp2
        go_ret
        exact ⟨rfl, HG.out.2⟩
      · have hd3 : decide (n > 2000) = false := decide_eq_false h3
        by_cases h4 : 2000 < m
        · skip
          have hd4 : decide (m > 2000) = true := decide_eq_true h4
          go_enter Tryd.func9, Tryd.ntmps9
          go_wp2_with (go_at_call 10; refine (shown_any _ HG.out.1).mono ?_)
          rintro e w7 ⟨rfl, hb⟩
          replace HG := Lib.hid (And.intro (HG.out.1.more hb) (below_more HG.out.2 hb))
          clear hb
          go_wp2_with (go_at_call 11; refine (Cy.out _).mono ?_)
          rintro e w8 ⟨rfl, rfl⟩
          go_wp2
          go_ret
          exact ⟨rfl, HG.out.2⟩
        · have hd4 : decide (m > 2000) = false := decide_eq_false h4
          obtain ⟨n, rfl⟩ := Int.eq_ofNat_of_zero_le (by omega : 0 ≤ n)
          obtain ⟨m, rfl⟩ := Int.eq_ofNat_of_zero_le (by omega : 0 ≤ m)
          obtain ⟨q, hq⟩ : ∃ q, n + m = q := ⟨_, rfl⟩
          have hw1 : IntKind.i64.wrap ((n : Int) + (m : Int)) = (q : Int) := by rw [IntKind.wrap_i64]; omega
          have hqq : (n : Int) + (m : Int) = (q : Int) := by omega
          cases hr1 : readR y o (q : Int) with
          | none =>
            have hr2 : readR y o (n : Int) = none := reads_none (m := m) (by rw [hqq]; exact hr1)
            have HX := Lib.hid (And.intro hr1 hr2)
            obtain ⟨v, hv⟩ : ∃ v, IntKind.i64.wrap (o + 0) = v := ⟨_, rfl⟩
            obtain ⟨v2, hv2⟩ : ∃ v, IntKind.i64.wrap o = v := ⟨_, rfl⟩
            clear hr1 hr2 hqq hq h1 h2 h3 h4
            go_enter Tryd.func9, Tryd.ntmps9
            go_wp2_with (go_at_call 10; refine (shown_any _ HG.out.1).mono ?_)
            rintro e w9 ⟨rfl, hb⟩
            replace HG := Lib.hid (And.intro (HG.out.1.more hb) (below_more HG.out.2 hb))
            clear hb
            go_wp2_with (go_at_call 11; refine (Cy.out _).mono ?_)
            rintro e w10 ⟨rfl, rfl⟩
            go_wp2_with (go_at_call 14; refine (Read_p HX.out.1 txt_none errR_none HG.out.1).mono ?_)
            rintro e w11 ⟨rfl, hb⟩
            replace HG := Lib.hid (And.intro (HG.out.1.more hb) (below_more HG.out.2 hb))
            clear hb
            go_wp2_with (go_at_call 14; refine (Read_p HX.out.2 txt_none errR_none HG.out.1).mono ?_)
            rintro e w12 ⟨rfl, hb⟩
            replace HG := Lib.hid (And.intro (HG.out.1.more hb) (below_more HG.out.2 hb))
            clear hb
            go_wp2_with (go_at_call 14; refine (Read_p rfl rfl rfl HG.out.1).mono ?_)
            rintro e w13 ⟨rfl, hb⟩
            replace HG := Lib.hid (And.intro (HG.out.1.more hb) (below_more HG.out.2 hb))
            clear hb
            go_wp2
            go_ret
            exact ⟨rfl, HG.out.2⟩
          | some a =>
            obtain ⟨b, c, e1, e2, rfl, el, eo, eb⟩ := reads_some (n := n) (m := m) (by rw [hqq]; exact hr1)
            have zb := bs_size b
            have za := bs_size (b ++ c)
            obtain ⟨BL, hBL⟩ : ∃ v, b.length = v := ⟨_, rfl⟩
            obtain ⟨AL, hAL⟩ : ∃ v, (b ++ c).length = v := ⟨_, rfl⟩
            rw [hBL] at zb e2 eb
            rw [hAL] at za el
            obtain ⟨O, hO⟩ : ∃ v, o + (BL : Int) = v := ⟨_, rfl⟩
            have hw2 : IntKind.i64.wrap (o + (BL : Int)) = O := by rw [IntKind.wrap_i64]; omega
            rw [hO] at e2
            have hd5 : decide ((AL : Int) ≤ (q : Int)) = true := decide_eq_true (by omega)
            have hd6 : decide (AL ≤ q) = true := decide_eq_true (by omega)
            have ha := str_add b c (by rw [← List.length_append, hAL]; omega)
            obtain ⟨a, hab⟩ : ∃ a, b ++ c = a := ⟨_, rfl⟩
            rw [hab] at ha za hr1
            have HX := Lib.hid (And.intro hr1 (And.intro e1 e2))
            clear hr1 e1 e2 el eo eb hBL hAL hab hqq hq h1 h2 h3 h4 hO
            go_enter Tryd.func9, Tryd.ntmps9
            go_wp2_with (go_at_call 10; refine (shown_any _ HG.out.1).mono ?_)
            rintro e w14 ⟨rfl, hb⟩
            replace HG := Lib.hid (And.intro (HG.out.1.more hb) (below_more HG.out.2 hb))
            clear hb
            go_wp2_with (go_at_call 11; refine (Cy.out _).mono ?_)
            rintro e w15 ⟨rfl, rfl⟩
            go_wp2_with (go_at_call 14; refine (Read_p HX.out.1 (txt_some a) (errR_some a) HG.out.1).mono ?_)
            rintro e w16 ⟨rfl, hb⟩
            replace HG := Lib.hid (And.intro (HG.out.1.more hb) (below_more HG.out.2 hb))
            clear hb
            go_wp2_with (go_at_call 14; refine (Read_p HX.out.2.1 (txt_some b) (errR_some b) HG.out.1).mono ?_)
            rintro e w17 ⟨rfl, hb⟩
            replace HG := Lib.hid (And.intro (HG.out.1.more hb) (below_more HG.out.2 hb))
            clear hb
            go_wp2_with (go_at_call 14; refine (Read_p HX.out.2.2 (txt_some c) (errR_some c) HG.out.1).mono ?_)
            rintro e w18 ⟨rfl, hb⟩
            replace HG := Lib.hid (And.intro (HG.out.1.more hb) (below_more HG.out.2 hb))
            clear hb
            go_wp2
            go_ret
            exact ⟨rfl, HG.out.2⟩
end Go.Proofs.YtmaolhaddgecpaaDoor
