/- FileSplices: the walk. -/
import Derived.Test.YtmaolhaddgecpaaDoorFlShown
namespace Go.Proofs.YtmaolhaddgecpaaDoor
open Go.RowKit Go.Proofs.Fld Go.Proofs.Fil Go.Shelf Go.Sort

theorem wrap_sub (a b c : Nat) (h : a = b + c) (hb : a ≤ 1000000) : IntKind.i64.wrap ((a : Int) - (b : Int)) = (c : Int) := by
  rw [IntKind.wrap_i64]
  omega
theorem wrap_add (a b c : Nat) (h : a + b = c) (hb : c ≤ 1000000) : IntKind.i64.wrap ((a : Int) + (b : Int)) = (c : Int) := by
  rw [IntKind.wrap_i64]
  omega
set_option maxRecDepth 100000 in
set_option maxHeartbeats 8000000 in
theorem splices_walk (s t : It) (o n : Int) (hs : s.length ≤ 9223372036854775807) (ht : t.length ≤ 9223372036854775807) (w : World) (hg : ErrT w) :
    Calls Tryd.prog 8 #[.string (bs s), .string (bs t), .int .i64 o, .int .i64 n] w (TruePost w) := by
  obtain ⟨y, hy⟩ : ∃ v, s.take 1010 = v := ⟨_, rfl⟩
  have ly : y.length ≤ 1010 := by rw [← hy, List.length_take]; omega
  have Cy := Lib.hid (fun W => hy ▸ lcut_any s hs W)
  clear hy
  obtain ⟨z, hz⟩ : ∃ v, t.take 1010 = v := ⟨_, rfl⟩
  have lz : z.length ≤ 1010 := by rw [← hz, List.length_take]; omega
  have Cz := Lib.hid (fun W => hz ▸ lcut_any t ht W)
  clear hz
  have hn := bs_nil
  have zz := bs_size z
  have zy := bs_size y
  have HG := Lib.hid (And.intro hg (Below.refl w.heap.size w))
  clear hg
  cases hr1 : splR y o n z with
  | none =>
    go_enter Tryd.func8, Tryd.ntmps8
    go_wp2_with (go_at_call 10; refine (shown_any _ HG.out.1).mono ?_)
    rintro e w1 ⟨rfl, hb⟩
    replace HG := Lib.hid (And.intro (HG.out.1.more hb) (below_more HG.out.2 hb))
    clear hb
    go_wp2_with (go_at_call 11; refine (Cy.out _).mono ?_)
    rintro e w2 ⟨rfl, rfl⟩
    go_wp2_with (go_at_call 11; refine (Cz.out _).mono ?_)
    rintro e w3 ⟨rfl, rfl⟩
    go_wp2_with (go_at_call 20; refine (Splice_p (by omega) hr1 txt_none errR_none HG.out.1).mono ?_)
    rintro e w4 ⟨rfl, hb⟩
    replace HG := Lib.hid (And.intro (HG.out.1.more hb) (below_more HG.out.2 hb))
    clear hb
    go_wp2
    go_ret
    exact ⟨rfl, HG.out.2⟩
  | some a =>
    obtain ⟨x, hx, hs2, hl⟩ := spl_back hr1
    obtain ⟨k, m, rfl, rfl, hkm, hy1, he, hal, ha1⟩ := splR_some hr1
    have za := bs_size a
    obtain ⟨SL, hSL⟩ : ∃ v, y.length = v := ⟨_, rfl⟩
    obtain ⟨TL, hTL⟩ : ∃ v, z.length = v := ⟨_, rfl⟩
    obtain ⟨AL, hAL⟩ : ∃ v, a.length = v := ⟨_, rfl⟩
    have hxl : x.length ≤ 1000 := by obtain ⟨k', m', _, _, _, _, e⟩ := readR_some hx; rw [e, List.length_take, List.length_drop]; omega
    obtain ⟨D, hD⟩ : ∃ v, SL - m = v := ⟨_, rfl⟩
    have hw1 := wrap_sub SL m D (by omega) (by omega)
    have hw2 := wrap_add D TL AL (by clear hw1; omega) (by clear hw1; omega)
    have ly2 : z.length ≤ 1000000000000000000 := by clear hw1 hw2; omega
    have HX := Lib.hid (And.intro hr1 (And.intro hx (And.intro hs2 (show x.length ≤ 1000000000000000000 from Nat.le_trans hxl (by omega)))))
    rw [hSL] at zy
    rw [hTL] at zz HX
    rw [hAL] at za
    clear hr1 hx hs2 hl hkm hy1 he hal ha1 hxl hSL hTL hAL hD
    go_enter Tryd.func8, Tryd.ntmps8
    go_wp2_with (go_at_call 10; refine (shown_any _ HG.out.1).mono ?_)
    rintro e w5 ⟨rfl, hb⟩
    replace HG := Lib.hid (And.intro (HG.out.1.more hb) (below_more HG.out.2 hb))
    clear hb
    go_wp2_with (go_at_call 11; refine (Cy.out _).mono ?_)
    rintro e w6 ⟨rfl, rfl⟩
    go_wp2_with (go_at_call 11; refine (Cz.out _).mono ?_)
    rintro e w7 ⟨rfl, rfl⟩
    go_wp2_with (go_at_call 20; refine (Splice_p ly2 HX.out.1 (txt_some a) (errR_some a) HG.out.1).mono ?_)
    rintro e w8 ⟨rfl, hb⟩
    replace HG := Lib.hid (And.intro (HG.out.1.more hb) (below_more HG.out.2 hb))
    clear hb
    go_wp2_with (go_at_call 14; refine (Read_p HX.out.2.1 (txt_some x) (errR_some x) HG.out.1).mono ?_)
    rintro e w9 ⟨rfl, hb⟩
    replace HG := Lib.hid (And.intro (HG.out.1.more hb) (below_more HG.out.2 hb))
    clear hb
    go_wp2_with (go_at_call 20; refine (Splice_p HX.out.2.2.2 HX.out.2.2.1 (txt_some y) (errR_some y) HG.out.1).mono ?_)
    rintro e w10 ⟨rfl, hb⟩
    replace HG := Lib.hid (And.intro (HG.out.1.more hb) (below_more HG.out.2 hb))
    clear hb
    go_wp2
    go_ret
    exact ⟨rfl, HG.out.2⟩
end Go.Proofs.YtmaolhaddgecpaaDoor
