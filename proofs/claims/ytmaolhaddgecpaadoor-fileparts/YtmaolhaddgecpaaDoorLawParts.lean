/- FileParts: the walk. -/
import Derived.Test.YtmaolhaddgecpaaDoorFlRef
namespace Go.Proofs.YtmaolhaddgecpaaDoor
open Go.RowKit Go.Proofs.Fld Go.Proofs.Fil Go.Shelf Go.Sort

set_option maxRecDepth 100000 in
set_option maxHeartbeats 8000000 in
theorem parts_walk (s t x : It) (o : Int) (hs : s.length ≤ 9223372036854775807) (ht : t.length ≤ 9223372036854775807) (hx : x.length ≤ 9223372036854775807) (w : World) (hg : ErrT w) :
    Calls Tryd.prog 6 #[.string (bs s), .string (bs t), .string (bs x), .int .i64 o] w (TruePost w) := by
  obtain ⟨y, hy⟩ : ∃ v, s.take 1010 = v := ⟨_, rfl⟩
  have ly : y.length ≤ 1010 := by rw [← hy, List.length_take]; omega
  have Cy := Lib.hid (fun W => hy ▸ lcut_any s hs W)
  clear hy
  obtain ⟨z, hz⟩ : ∃ v, t.take 1010 = v := ⟨_, rfl⟩
  have lz : z.length ≤ 1010 := by rw [← hz, List.length_take]; omega
  have Cz := Lib.hid (fun W => hz ▸ lcut_any t ht W)
  clear hz
  obtain ⟨u, hu⟩ : ∃ v, x.take 1010 = v := ⟨_, rfl⟩
  have lu : u.length ≤ 1010 := by rw [← hu, List.length_take]; omega
  have Cu := Lib.hid (fun W => hu ▸ lcut_any x hx W)
  clear hu
  have hn := bs_nil
  have zz := bs_size z
  have HG := Lib.hid (And.intro hg (Below.refl w.heap.size w))
  clear hg
  have ha := str_add z u (by omega)
  obtain ⟨zu, hzu⟩ : ∃ q, z ++ u = q := ⟨_, rfl⟩
  rw [hzu] at ha
  have lzu : zu.length ≤ 2020 := by rw [← hzu, List.length_append]; omega
  obtain ⟨ZL, hZL⟩ : ∃ v, z.length = v := ⟨_, rfl⟩
  rw [hZL] at zz
  obtain ⟨O, hO⟩ : ∃ q, IntKind.i64.wrap (o + (ZL : Int)) = q := ⟨_, rfl⟩
  cases hr1 : writeR y o zu with
  | some a =>
    obtain ⟨b, e1, e2, eo, ez⟩ := parts_some (by rw [hzu]; exact hr1)
    have hO2 : o + (z.length : Int) = O := by rw [← hO, IntKind.wrap_i64, hZL] at *; omega
    rw [hO2] at e2
    have HX := Lib.hid (And.intro hr1 (And.intro e1 e2))
    clear hr1 e1 e2 eo ez hO2 hzu hZL
    go_enter Tryd.func6, Tryd.ntmps6
    go_wp2_with (go_at_call 10; refine (shown_any _ HG.out.1).mono ?_)
    rintro e w1 ⟨rfl, hb⟩
    replace HG := Lib.hid (And.intro (HG.out.1.more hb) (below_more HG.out.2 hb))
    clear hb
    go_wp2_with (go_at_call 11; refine (Cy.out _).mono ?_)
    rintro e w2 ⟨rfl, rfl⟩
    go_wp2_with (go_at_call 11; refine (Cz.out _).mono ?_)
    rintro e w3 ⟨rfl, rfl⟩
    go_wp2_with (go_at_call 11; refine (Cu.out _).mono ?_)
    rintro e w4 ⟨rfl, rfl⟩
    go_wp2_with (go_at_call 12; refine (Write_p (by omega) HX.out.1 (txt_some a) (errR_some a) HG.out.1).mono ?_)
    rintro e w5 ⟨rfl, hb⟩
    replace HG := Lib.hid (And.intro (HG.out.1.more hb) (below_more HG.out.2 hb))
    clear hb
    go_wp2_with (go_at_call 12; refine (Write_p (by omega) HX.out.2.1 (txt_some b) (errR_some b) HG.out.1).mono ?_)
    rintro e w6 ⟨rfl, hb⟩
    replace HG := Lib.hid (And.intro (HG.out.1.more hb) (below_more HG.out.2 hb))
    clear hb
    go_wp2_with (go_at_call 12; refine (Write_p (by omega) HX.out.2.2 (txt_some a) (errR_some a) HG.out.1).mono ?_)
    rintro e w7 ⟨rfl, hb⟩
    replace HG := Lib.hid (And.intro (HG.out.1.more hb) (below_more HG.out.2 hb))
    clear hb
    go_wp2
    go_ret
    exact ⟨rfl, HG.out.2⟩
  | none =>
    cases hr2 : writeR y o z with
    | none =>
      have HX := Lib.hid (And.intro hr1 hr2)
      clear hr1 hr2 hzu hZL
      go_enter Tryd.func6, Tryd.ntmps6
      go_wp2_with (go_at_call 10; refine (shown_any _ HG.out.1).mono ?_)
      rintro e w8 ⟨rfl, hb⟩
      replace HG := Lib.hid (And.intro (HG.out.1.more hb) (below_more HG.out.2 hb))
      clear hb
      go_wp2_with (go_at_call 11; refine (Cy.out _).mono ?_)
      rintro e w9 ⟨rfl, rfl⟩
      go_wp2_with (go_at_call 11; refine (Cz.out _).mono ?_)
      rintro e w10 ⟨rfl, rfl⟩
      go_wp2_with (go_at_call 11; refine (Cu.out _).mono ?_)
      rintro e w11 ⟨rfl, rfl⟩
      go_wp2_with (go_at_call 12; refine (Write_p (by omega) HX.out.1 txt_none errR_none HG.out.1).mono ?_)
      rintro e w12 ⟨rfl, hb⟩
      replace HG := Lib.hid (And.intro (HG.out.1.more hb) (below_more HG.out.2 hb))
      clear hb
      go_wp2_with (go_at_call 12; refine (Write_p (by omega) HX.out.2 txt_none errR_none HG.out.1).mono ?_)
      rintro e w13 ⟨rfl, hb⟩
      replace HG := Lib.hid (And.intro (HG.out.1.more hb) (below_more HG.out.2 hb))
      clear hb
      go_wp2_with (go_at_call 12; refine (Write_p (by omega) rfl rfl rfl HG.out.1).mono ?_)
      rintro e w14 ⟨rfl, hb⟩
      replace HG := Lib.hid (And.intro (HG.out.1.more hb) (below_more HG.out.2 hb))
      clear hb
      go_wp2
      go_ret
      exact ⟨rfl, HG.out.2⟩
    | some b =>
      have hO2 : o + (z.length : Int) = O := by obtain ⟨k, rfl, hk, hk2, hk3, _⟩ := writeR_some hr2; rw [← hO, IntKind.wrap_i64, hZL] at *; omega
      have hr3 : writeR b O u = none := by
        cases h : writeR b O u with
        | none => rfl
        | some c => exact absurd (by rw [hO2]; exact h) (parts_none (u := u) (c := c) (by rw [hzu]; exact hr1) hr2)
      have HX := Lib.hid (And.intro hr1 (And.intro hr2 hr3))
      clear hr1 hr2 hr3 hO2 hzu hZL
      go_enter Tryd.func6, Tryd.ntmps6
      go_wp2_with (go_at_call 10; refine (shown_any _ HG.out.1).mono ?_)
      rintro e w15 ⟨rfl, hb⟩
      replace HG := Lib.hid (And.intro (HG.out.1.more hb) (below_more HG.out.2 hb))
      clear hb
      go_wp2_with (go_at_call 11; refine (Cy.out _).mono ?_)
      rintro e w16 ⟨rfl, rfl⟩
      go_wp2_with (go_at_call 11; refine (Cz.out _).mono ?_)
      rintro e w17 ⟨rfl, rfl⟩
      go_wp2_with (go_at_call 11; refine (Cu.out _).mono ?_)
      rintro e w18 ⟨rfl, rfl⟩
      go_wp2_with (go_at_call 12; refine (Write_p (by omega) HX.out.1 txt_none errR_none HG.out.1).mono ?_)
      rintro e w19 ⟨rfl, hb⟩
      replace HG := Lib.hid (And.intro (HG.out.1.more hb) (below_more HG.out.2 hb))
      clear hb
      go_wp2_with (go_at_call 12; refine (Write_p (by omega) HX.out.2.1 (txt_some b) (errR_some b) HG.out.1).mono ?_)
      rintro e w20 ⟨rfl, hb⟩
      replace HG := Lib.hid (And.intro (HG.out.1.more hb) (below_more HG.out.2 hb))
      clear hb
      go_wp2_with (go_at_call 12; refine (Write_p (by omega) HX.out.2.2 txt_none errR_none HG.out.1).mono ?_)
      rintro e w21 ⟨rfl, hb⟩
      replace HG := Lib.hid (And.intro (HG.out.1.more hb) (below_more HG.out.2 hb))
      clear hb
      go_wp2
      go_ret
      exact ⟨rfl, HG.out.2⟩
end Go.Proofs.YtmaolhaddgecpaaDoor
