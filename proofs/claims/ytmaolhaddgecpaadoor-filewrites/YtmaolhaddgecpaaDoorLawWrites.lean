/- FileWrites: the walk. -/
import Derived.Test.YtmaolhaddgecpaaDoorFlRef2
namespace Go.Proofs.YtmaolhaddgecpaaDoor
open Go.RowKit Go.Proofs.Fld Go.Proofs.Fil Go.Shelf Go.Sort

set_option maxRecDepth 100000 in
set_option maxHeartbeats 8000000 in
theorem writes_walk (s t : It) (o n : Int) (hs : s.length ≤ 9223372036854775807) (ht : t.length ≤ 9223372036854775807) (w : World) (hg : ErrT w) :
    Calls Tryd.prog 3 #[.string (bs s), .string (bs t), .int .i64 o, .int .i64 n] w (TruePost w) := by
  obtain ⟨y, hy⟩ : ∃ v, s.take 1010 = v := ⟨_, rfl⟩
  have ly : y.length ≤ 1010 := by rw [← hy, List.length_take]; omega
  have Cy := Lib.hid (fun W => hy ▸ lcut_any s hs W)
  clear hy
  obtain ⟨z, hz⟩ : ∃ v, t.take 1010 = v := ⟨_, rfl⟩
  have lz : z.length ≤ 1010 := by rw [← hz, List.length_take]; omega
  have Cz := Lib.hid (fun W => hz ▸ lcut_any t ht W)
  clear hz
  obtain ⟨r1, hr1⟩ : ∃ r, writeR y o z = r := ⟨_, rfl⟩
  obtain ⟨x1, hx1⟩ : ∃ x, txt r1 = x := ⟨_, rfl⟩
  obtain ⟨c1, hc1⟩ : ∃ c, errR r1 = c := ⟨_, rfl⟩
  have A1 := Lib.hid (And.intro hr1 (And.intro hx1 hc1))
  clear hr1 hx1 hc1
  obtain ⟨r2, hr2⟩ : ∃ r, readR y o n = r := ⟨_, rfl⟩
  obtain ⟨x2, hx2⟩ : ∃ x, txt r2 = x := ⟨_, rfl⟩
  obtain ⟨c2, hc2⟩ : ∃ c, errR r2 = c := ⟨_, rfl⟩
  have A2 := Lib.hid (And.intro hr2 (And.intro hx2 hc2))
  clear hr2 hx2 hc2
  obtain ⟨r3, hr3⟩ : ∃ r, writeR y (y.length : Int) z = r := ⟨_, rfl⟩
  obtain ⟨x3, hx3⟩ : ∃ x, txt r3 = x := ⟨_, rfl⟩
  obtain ⟨c3, hc3⟩ : ∃ c, errR r3 = c := ⟨_, rfl⟩
  have A3 := Lib.hid (And.intro hr3 (And.intro hx3 hc3))
  clear hr3 hx3 hc3
  have HG := Lib.hid (And.intro hg (Below.refl w.heap.size w))
  clear hg
  go_enter Tryd.func3, Tryd.ntmps3
  go_wp2_with (go_at_call 10; refine (shown_any _ HG.out.1).mono ?_)
  rintro e w1 ⟨rfl, hb⟩
  replace HG := Lib.hid (And.intro (HG.out.1.more hb) (below_more HG.out.2 hb))
  clear hb
  go_wp2_with (go_at_call 11; refine (Cy.out _).mono ?_)
  rintro e w2 ⟨rfl, rfl⟩
  go_wp2_with (go_at_call 11; refine (Cz.out _).mono ?_)
  rintro e w3 ⟨rfl, rfl⟩
  go_wp2_with (go_at_call 12; refine (Write_p (by omega) A1.out.1 A1.out.2.1 A1.out.2.2 HG.out.1).mono ?_)
  rintro e w4 ⟨rfl, hb⟩
  replace HG := Lib.hid (And.intro (HG.out.1.more hb) (below_more HG.out.2 hb))
  clear hb
  go_wp2_with (go_at_call 13; refine (refWrite_p A1.out.1 A1.out.2.1 A1.out.2.2 (by omega)).mono ?_)
  rintro e w5 ⟨rfl, hb⟩
  replace HG := Lib.hid (And.intro (HG.out.1.more hb) (below_more HG.out.2 hb))
  clear hb
  go_wp2_with (go_at_call 14; refine (Read_p A2.out.1 A2.out.2.1 A2.out.2.2 HG.out.1).mono ?_)
  rintro e w6 ⟨rfl, hb⟩
  replace HG := Lib.hid (And.intro (HG.out.1.more hb) (below_more HG.out.2 hb))
  clear hb
  go_wp2_with (go_at_call 15; refine (refRead_p A2.out.1 A2.out.2.1 A2.out.2.2).mono ?_)
  rintro e w7 ⟨rfl, hb⟩
  replace HG := Lib.hid (And.intro (HG.out.1.more hb) (below_more HG.out.2 hb))
  clear hb
  go_wp2_with (go_at_call 16; refine (Append_p (by omega) A3.out.1 A3.out.2.1 A3.out.2.2 HG.out.1).mono ?_)
  rintro e w8 ⟨rfl, hb⟩
  replace HG := Lib.hid (And.intro (HG.out.1.more hb) (below_more HG.out.2 hb))
  clear hb
  go_wp2_with (go_at_call 17; refine (refAppend_p A3.out.1 A3.out.2.1 A3.out.2.2 (by omega)).mono ?_)
  rintro e w9 ⟨rfl, hb⟩
  replace HG := Lib.hid (And.intro (HG.out.1.more hb) (below_more HG.out.2 hb))
  clear hb
  go_wp2
  go_ret
  exact ⟨rfl, HG.out.2⟩
end Go.Proofs.YtmaolhaddgecpaaDoor
