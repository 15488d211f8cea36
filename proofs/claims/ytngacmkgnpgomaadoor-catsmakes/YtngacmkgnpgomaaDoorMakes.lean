/- The statement CatsMakes, walked. -/
import Derived.Test.YtngacmkgnpgomaaDoorIn
namespace Go.Proofs.YtngacmkgnpgomaaDoor
open Go.RowKit Go.Proofs.Cats

set_option maxHeartbeats 1000000 in
theorem makes_any (a : Option Addr) (len cap : Nat) (zs : List Int) (s : Nat) (i : Int) (hs : U64 s) (ga : Addr) (w : World) (hl : IntsIn w a len cap zs) (hg : Glob ga w) :
    Calls Tryd.prog 3 #[.slice a len cap, .int .u64 s, .int .i64 i] w fun e W' => e = .returned (.bool true) ∧ Below w.heap.size w W' := by
  obtain ⟨hI, hlen, hlc, hcm, hn⟩ := hl
  have hF := Lib.hid (ints_take hI 100)
  have hk : (zs.take 100).length ≤ 100 := List.length_take_le _ _
  have FW := Lib.hid (fun W => few_any a len cap hlc hcm hn W)
  have h0 := hg.lt
  clear hI hn hlc hcm
  generalize zs.take 100 = ys at *
  generalize hm : min len 100 = m at *
  clear hm hlen
  go_enter Tryd.func3, Tryd.ntmps3
  go_wp2_with fail
  refine (shown_any ga w hg).mono ?_
  rintro e w1 ⟨rfl, hb1⟩
  have g1 := Lib.hid (hg.below hg.lt hb1)
  have z1 := hb1.size
  go_wp2_with fail
  refine (FW.out w1).mono ?_
  rintro e w' ⟨rfl, rfl⟩
  go_wp2_with fail
  refine (of_any a m cap ys ga (by omega) w1 ((hF.out.below hb1).mono z1) g1.out).mono ?_
  rintro e w2 ⟨rfl, hb2⟩
  have g2 := Lib.hid (g1.out.below g1.out.lt hb2)
  have B2 := hb1.trans (hb2.mono z1)
  have z2 := B2.size
  clear hb2
  go_wp2_with fail
  refine (FW.out w2).mono ?_
  rintro e w' ⟨rfl, rfl⟩
  go_wp2_with fail
  refine (refOf_any w.heap.size a m cap ys hk w2 (hF.out.below B2)).mono ?_
  rintro e w' ⟨rfl, rfl⟩
  go_wp2_with fail
  refine (with_any s hs i ga w2 g2.out).mono ?_
  rintro e w3 ⟨rfl, hb3⟩
  have g3 := Lib.hid (g2.out.below g2.out.lt hb3)
  have B3 := B2.trans (hb3.mono z2)
  have z3 := B3.size
  clear hb3
  go_wp2_with fail
  refine (refWith_any s hs i w3).mono ?_
  rintro e w' ⟨rfl, rfl⟩
  go_wp2_with fail
  refine (without_any s hs i ga w3 g3.out).mono ?_
  rintro e w4 ⟨rfl, hb4⟩
  have g4 := Lib.hid (g3.out.below g3.out.lt hb4)
  have B4 := B3.trans (hb4.mono z3)
  have z4 := B4.size
  clear hb4
  go_wp2_with fail
  refine (refWithout_any s hs i w4).mono ?_
  rintro e w' ⟨rfl, rfl⟩
  go_wp2_with fail
  refine (list_any s hs ga w4 g4.out).mono ?_
  rintro e w5 ⟨a5, l5, c5, rfl, hl5, ho5, hb5⟩
  have I5 := Lib.hid (ints_of_owns ho5)
  have g5 := Lib.hid (g4.out.below g4.out.lt hb5)
  have B5 := B4.trans (hb5.mono z4)
  have z5 := B5.size
  clear hb5 ho5 hl5
  go_wp2_with fail
  refine (refList_any s w5).mono ?_
  rintro e w6 ⟨a6, l6, c6, rfl, hl6, ho6, hb6⟩
  have I6 := Lib.hid (ints_of_owns ho6)
  have g6 := Lib.hid (g5.out.below g5.out.lt hb6)
  have B6 := B5.trans (hb6.mono z5)
  have z6 := B6.size
  have I56 := Lib.hid ((I5.out.below hb6).mono hb6.size)
  clear hb6 ho6 hl6
  go_wp2_with fail
  refine (refInts_same w6.heap.size a5 a6 l5 l6 c5 c6 (listTo s 64) (by have := listTo_le s 64; omega) w6 I56.out I6.out).mono ?_
  rintro e w7 ⟨rfl, hb7⟩
  have g7 := Lib.hid (g6.out.below g6.out.lt hb7)
  have B7 := B6.trans (hb7.mono z6)
  clear hb7
  go_wp2_with fail
  refine (has_any s hs i ga w7 g7.out).mono ?_
  rintro e w' ⟨rfl, rfl⟩
  go_wp2_with fail
  refine (refHas_any s i w7).mono ?_
  rintro e w' ⟨rfl, rfl⟩
  go_wp2
  go_ret
  exact ⟨rfl, B7⟩

end Go.Proofs.YtngacmkgnpgomaaDoor
