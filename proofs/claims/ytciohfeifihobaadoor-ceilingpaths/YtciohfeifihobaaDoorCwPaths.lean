/- CeilingPaths: where one floats to by some labels. -/
import Derived.Test.YtciohfeifihobaaDoorCwRises
import Derived.Test.YtciohfeifihobaaDoorCeRefP
import Derived.Test.YtciohfeifihobaaDoorLabIn
namespace Go.Proofs.YtciohfeifihobaaDoor
open Go.RowKit Go.Proofs.Cats Go.Proofs.Cel Go.Shelf Go.Sort

set_option maxRecDepth 100000 in
set_option maxHeartbeats 8000000 in
theorem ceilingPaths_w (H : Api) (cur high : Lab) {ao : Option Addr} {len cap : Nat} {zs : List Lab} (hc : cur.fits) (hh : high.fits) (w : World) (hI : LabsIn w ao len cap zs) (hs : Ce w) : Calls Tryd.prog 4 #[.agg #[.int .i64 cur.l, .int .u64 cur.c, .int .i64 cur.i], .slice ao len cap, .agg #[.int .i64 high.l, .int .u64 high.c, .int .i64 high.i]] w (BoolP true w) := by
  obtain ⟨hI1, hlen, hlc, hcm, hno⟩ := hI
  obtain ⟨ys, hys⟩ : ∃ ys, zs.take 30 = ys := ⟨_, rfl⟩
  have hyl : ys.length = min len 30 := by rw [← hys, List.length_take, hlen, Nat.min_comm]
  have hm : (if 30 < (len : Int) then 30 else (len : Int)) = (ys.length : Int) := by split <;> omega
  have hyc : ys.length ≤ cap := by omega
  have IL := Lib.hid (show Labs w.heap.size w (.slice ao ys.length cap) ys by rw [hyl, ← hys]; exact labs_take hI1 30)
  have hcm2 : cap ≤ 9223372036854775807 := by unfold maxLen at hcm; omega
  have HY := Lib.hid (And.intro (show ys.length ≤ 30 by omega) (And.intro hyc (And.intro hcm (show ∀ x ∈ ys, x.fits from IL.out.fits))))
  obtain ⟨⟨c1, n1, x⟩, h1⟩ : ∃ x, pathL cur ys high = x := ⟨_, rfl⟩
  have D := Lib.hid (Tv2.of w cur high)
  have HE := Lib.hid hs
  have HF := Lib.hid (And.intro hc hh)
  have HS1 := Lib.hid h1
  clear hs hc hh h1 hI1 hlen hys hyl hcm hlc hno
  have e1 := selfE x
  have e2 := selfEIn x
  go_enter Tryd.func4, Tryd.ntmps4
  go_wp2_with (go_at_call 11; refine (shown_w H _ (HE.out.more D.out.bel)).mono ?_)
  rintro e w1 ⟨rfl, hb⟩
  replace D := Lib.hid (D.out.more hb)
  clear hb
  obtain ⟨⟨p0, p1, p2⟩, ⟨q0, q1, q2⟩⟩ := D.out.cells
  go_wp2_with (go_at_call 22; refine (H.path HF.out.1 HF.out.2 ((IL.out.below D.out.bel).mono D.out.bel.size) (Nat.le_trans HY.out.1 (by decide)) HY.out.2.1 HY.out.2.2.1 HS1.out (HE.out.more D.out.bel)).mono ?_)
  rintro e w2 ⟨rfl, hb⟩
  replace D := Lib.hid (D.out.more hb)
  clear hb p0 p1 p2 q0 q1 q2
  have B := Lib.hid (BoxL.new w2 x)
  replace D := Lib.hid (D.out.more (Below.new w2 (.cells #[.int .i64 x.l, .int .u64 x.c, .int .i64 x.i] 24)))
  obtain ⟨⟨p0, p1, p2⟩, ⟨q0, q1, q2⟩⟩ := D.out.cells
  go_wp2_with (go_at_call 23; refine (RPath_w HF.out.1 HF.out.2 ((IL.out.below D.out.bel).mono D.out.bel.size) (Nat.le_trans HY.out.1 (by decide)) HY.out.2.1 HY.out.2.2.1 HS1.out (HE.out.more D.out.bel)).mono ?_)
  rintro e w3 ⟨rfl, hb⟩
  replace D := Lib.hid (D.out.more hb)
  replace B := Lib.hid (B.out.more hb)
  clear hb p0 p1 p2 q0 q1 q2
  replace B := Lib.hid (B.out.more (Below.new w3 (.cells #[.int .i64 x.l, .int .u64 x.c, .int .i64 x.i] 24)))
  have C := Lib.hid (BoxL.new w3 x)
  replace D := Lib.hid (D.out.more (Below.new w3 (.cells #[.int .i64 x.l, .int .u64 x.c, .int .i64 x.i] 24)))
  obtain ⟨x0, x1, x2⟩ := B.out.lab
  obtain ⟨y0, y1, y2⟩ := C.out.lab
  go_wp2
  go_ret
  exact ⟨rfl, D.out.bel⟩

end Go.Proofs.YtciohfeifihobaaDoor
