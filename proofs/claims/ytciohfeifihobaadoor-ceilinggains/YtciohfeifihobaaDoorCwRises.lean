/- CeilingRises: who floats never comes down. -/
import Derived.Test.YtciohfeifihobaaDoorCwKit
namespace Go.Proofs.YtciohfeifihobaaDoor
open Go.RowKit Go.Proofs.Cats Go.Proofs.Cel Go.Shelf Go.Sort

theorem zeroE (w : World) : (binOp .eql 24 (.agg #[.int .i64 Lab.zero.l, .int .u64 Lab.zero.c, .int .i64 Lab.zero.i]) (.agg #[.int .i64 0, .int .u64 0, .int .i64 0])).run Tryd.prog w = .ok (.bool true) w := eqL Lab.zero Lab.zero w
theorem zeroEIn (w : World) : (Op.equalIn 10000 24 (.agg #[.int .i64 Lab.zero.l, .int .u64 Lab.zero.c, .int .i64 Lab.zero.i]) (.agg #[.int .i64 0, .int .u64 0, .int .i64 0])).run Tryd.prog w = .ok true w := eqInL Lab.zero Lab.zero w
theorem selfE (a : Lab) (w : World) : (binOp .eql 24 (.agg #[.int .i64 a.l, .int .u64 a.c, .int .i64 a.i]) (.agg #[.int .i64 a.l, .int .u64 a.c, .int .i64 a.i])).run Tryd.prog w = .ok (.bool true) w := by
  have := eqL a a w
  rwa [show a.same a = true by simp [Lab.same]] at this
theorem selfEIn (a : Lab) (w : World) : (Op.equalIn 10000 24 (.agg #[.int .i64 a.l, .int .u64 a.c, .int .i64 a.i]) (.agg #[.int .i64 a.l, .int .u64 a.c, .int .i64 a.i])).run Tryd.prog w = .ok true w := by
  have := eqInL a a w
  rwa [show a.same a = true by simp [Lab.same]] at this
set_option maxHeartbeats 2000000 in
theorem rises_n0 (H : Api) {cur a high : Lab} (h1 : floatL cur a high = (20, Lab.zero)) (hc : cur.fits) (ha : a.fits) (hh : high.fits) {w : World} (hs : Ce w) : Calls Tryd.prog 5 #[.agg #[.int .i64 cur.l, .int .u64 cur.c, .int .i64 cur.i], .agg #[.int .i64 a.l, .int .u64 a.c, .int .i64 a.i], .agg #[.int .i64 high.l, .int .u64 high.c, .int .i64 high.i]] w (BoolP true w) := by
  have D := Lib.hid (Tv3.of w cur a high)
  have HE := Lib.hid hs
  have HF := Lib.hid (And.intro hc (And.intro ha hh))
  have HS1 := Lib.hid h1
  clear hs hc ha hh h1
  have e1 := zeroE
  have e2 := zeroEIn
  go_enter Tryd.func5, Tryd.ntmps5
  go_wp2_with (go_at_call 11; refine (shown_w H _ (HE.out.more D.out.bel)).mono ?_)
  rintro e w1 ⟨rfl, hb⟩
  replace D := Lib.hid (D.out.more hb)
  clear hb
  obtain ⟨⟨p0, p1, p2⟩, ⟨q0, q1, q2⟩, ⟨r0, r1, r2⟩⟩ := D.out.cells
  go_wp2_with (go_at_call 12; refine (H.float HF.out.1 HF.out.2.1 HF.out.2.2 HS1.out (HE.out.more D.out.bel)).mono ?_)
  rintro e w2 ⟨rfl, hb⟩
  replace D := Lib.hid (D.out.more hb)
  clear hb p0 p1 p2 q0 q1 q2 r0 r1 r2
  have X := Lib.hid (BoxL.new w2 Lab.zero)
  replace D := Lib.hid (D.out.more (Below.new w2 (.cells #[.int .i64 Lab.zero.l, .int .u64 Lab.zero.c, .int .i64 Lab.zero.i] 24)))
  obtain ⟨⟨p0, p1, p2⟩, ⟨q0, q1, q2⟩, ⟨r0, r1, r2⟩⟩ := D.out.cells
  obtain ⟨x0, x1, x2⟩ := X.out.lab
  go_wp2
  go_ret
  exact ⟨rfl, D.out.bel⟩
set_option maxHeartbeats 2000000 in
theorem rises_n1 (H : Api) {cur a high : Lab} (h1 : floatL cur a high = (120, Lab.zero)) (u1 : cur.under high = false) (hc : cur.fits) (ha : a.fits) (hh : high.fits) {w : World} (hs : Ce w) : Calls Tryd.prog 5 #[.agg #[.int .i64 cur.l, .int .u64 cur.c, .int .i64 cur.i], .agg #[.int .i64 a.l, .int .u64 a.c, .int .i64 a.i], .agg #[.int .i64 high.l, .int .u64 high.c, .int .i64 high.i]] w (BoolP true w) := by
  have D := Lib.hid (Tv3.of w cur a high)
  have HE := Lib.hid hs
  have HF := Lib.hid (And.intro hc (And.intro ha hh))
  have HS1 := Lib.hid h1
  clear hs hc ha hh h1
  have HU1 := Lib.hid u1
  clear u1
  have e1 := zeroE
  have e2 := zeroEIn
  go_enter Tryd.func5, Tryd.ntmps5
  go_wp2_with (go_at_call 11; refine (shown_w H _ (HE.out.more D.out.bel)).mono ?_)
  rintro e w1 ⟨rfl, hb⟩
  replace D := Lib.hid (D.out.more hb)
  clear hb
  obtain ⟨⟨p0, p1, p2⟩, ⟨q0, q1, q2⟩, ⟨r0, r1, r2⟩⟩ := D.out.cells
  go_wp2_with (go_at_call 12; refine (H.float HF.out.1 HF.out.2.1 HF.out.2.2 HS1.out (HE.out.more D.out.bel)).mono ?_)
  rintro e w2 ⟨rfl, hb⟩
  replace D := Lib.hid (D.out.more hb)
  clear hb p0 p1 p2 q0 q1 q2 r0 r1 r2
  have X := Lib.hid (BoxL.new w2 Lab.zero)
  replace D := Lib.hid (D.out.more (Below.new w2 (.cells #[.int .i64 Lab.zero.l, .int .u64 Lab.zero.c, .int .i64 Lab.zero.i] 24)))
  obtain ⟨⟨p0, p1, p2⟩, ⟨q0, q1, q2⟩, ⟨r0, r1, r2⟩⟩ := D.out.cells
  obtain ⟨x0, x1, x2⟩ := X.out.lab
  go_wp2_with (go_at_call 24; refine (Under_w HF.out.1 HF.out.2.2 HU1.out).mono ?_)
  rintro e w3 ⟨rfl, hb⟩
  replace D := Lib.hid (D.out.more hb)
  replace X := Lib.hid (X.out.more hb)
  clear hb p0 p1 p2 q0 q1 q2 r0 r1 r2 x0 x1 x2
  go_wp2
  go_ret
  exact ⟨rfl, D.out.bel⟩
set_option maxHeartbeats 2000000 in
theorem rises_n2 (H : Api) {cur a high : Lab} (h1 : floatL cur a high = (120, Lab.zero)) (u1 : cur.under high = true) (u2 : a.under high = false) (hc : cur.fits) (ha : a.fits) (hh : high.fits) {w : World} (hs : Ce w) : Calls Tryd.prog 5 #[.agg #[.int .i64 cur.l, .int .u64 cur.c, .int .i64 cur.i], .agg #[.int .i64 a.l, .int .u64 a.c, .int .i64 a.i], .agg #[.int .i64 high.l, .int .u64 high.c, .int .i64 high.i]] w (BoolP true w) := by
  have D := Lib.hid (Tv3.of w cur a high)
  have HE := Lib.hid hs
  have HF := Lib.hid (And.intro hc (And.intro ha hh))
  have HS1 := Lib.hid h1
  clear hs hc ha hh h1
  have HU1 := Lib.hid u1
  have HU2 := Lib.hid u2
  clear u1 u2
  have e1 := zeroE
  have e2 := zeroEIn
  go_enter Tryd.func5, Tryd.ntmps5
  go_wp2_with (go_at_call 11; refine (shown_w H _ (HE.out.more D.out.bel)).mono ?_)
  rintro e w1 ⟨rfl, hb⟩
  replace D := Lib.hid (D.out.more hb)
  clear hb
  obtain ⟨⟨p0, p1, p2⟩, ⟨q0, q1, q2⟩, ⟨r0, r1, r2⟩⟩ := D.out.cells
  go_wp2_with (go_at_call 12; refine (H.float HF.out.1 HF.out.2.1 HF.out.2.2 HS1.out (HE.out.more D.out.bel)).mono ?_)
  rintro e w2 ⟨rfl, hb⟩
  replace D := Lib.hid (D.out.more hb)
  clear hb p0 p1 p2 q0 q1 q2 r0 r1 r2
  have X := Lib.hid (BoxL.new w2 Lab.zero)
  replace D := Lib.hid (D.out.more (Below.new w2 (.cells #[.int .i64 Lab.zero.l, .int .u64 Lab.zero.c, .int .i64 Lab.zero.i] 24)))
  obtain ⟨⟨p0, p1, p2⟩, ⟨q0, q1, q2⟩, ⟨r0, r1, r2⟩⟩ := D.out.cells
  obtain ⟨x0, x1, x2⟩ := X.out.lab
  go_wp2_with (go_at_call 24; refine (Under_w HF.out.1 HF.out.2.2 HU1.out).mono ?_)
  rintro e w3 ⟨rfl, hb⟩
  replace D := Lib.hid (D.out.more hb)
  replace X := Lib.hid (X.out.more hb)
  clear hb p0 p1 p2 q0 q1 q2 r0 r1 r2 x0 x1 x2
  obtain ⟨⟨p0, p1, p2⟩, ⟨q0, q1, q2⟩, ⟨r0, r1, r2⟩⟩ := D.out.cells
  go_wp2_with (go_at_call 24; refine (Under_w HF.out.2.1 HF.out.2.2 HU2.out).mono ?_)
  rintro e w4 ⟨rfl, hb⟩
  replace D := Lib.hid (D.out.more hb)
  clear hb p0 p1 p2 q0 q1 q2 r0 r1 r2
  go_wp2
  go_ret
  exact ⟨rfl, D.out.bel⟩
set_option maxHeartbeats 4000000 in
theorem rises_y (H : Api) {cur a high x : Lab} (h1 : floatL cur a high = (0, x)) (hc : cur.fits) (ha : a.fits) (hh : high.fits) {w : World} (hs : Ce w) : Calls Tryd.prog 5 #[.agg #[.int .i64 cur.l, .int .u64 cur.c, .int .i64 cur.i], .agg #[.int .i64 a.l, .int .u64 a.c, .int .i64 a.i], .agg #[.int .i64 high.l, .int .u64 high.c, .int .i64 high.i]] w (BoolP true w) := by
  have D := Lib.hid (Tv3.of w cur a high)
  have HE := Lib.hid hs
  have HF := Lib.hid (And.intro hc (And.intro ha (And.intro hh (float_fits h1 hc ha))))
  have HS1 := Lib.hid h1
  have HR := Lib.hid (rises_yes hc ha hh h1)
  clear hs hc ha hh h1
  have e1 := selfE x
  have e2 := selfEIn x
  go_enter Tryd.func5, Tryd.ntmps5
  go_wp2_with (go_at_call 11; refine (shown_w H _ (HE.out.more D.out.bel)).mono ?_)
  rintro e w1 ⟨rfl, hb⟩
  replace D := Lib.hid (D.out.more hb)
  clear hb
  obtain ⟨⟨p0, p1, p2⟩, ⟨q0, q1, q2⟩, ⟨r0, r1, r2⟩⟩ := D.out.cells
  go_wp2_with (go_at_call 12; refine (H.float HF.out.1 HF.out.2.1 HF.out.2.2.1 HS1.out (HE.out.more D.out.bel)).mono ?_)
  rintro e w2 ⟨rfl, hb⟩
  replace D := Lib.hid (D.out.more hb)
  clear hb p0 p1 p2 q0 q1 q2 r0 r1 r2
  have X := Lib.hid (BoxL.new w2 x)
  replace D := Lib.hid (D.out.more (Below.new w2 (.cells #[.int .i64 x.l, .int .u64 x.c, .int .i64 x.i] 24)))
  obtain ⟨⟨p0, p1, p2⟩, ⟨q0, q1, q2⟩, ⟨r0, r1, r2⟩⟩ := D.out.cells
  obtain ⟨x0, x1, x2⟩ := X.out.lab
  go_wp2_with (go_at_call 12; refine (H.float HF.out.2.2.2 HF.out.2.1 HF.out.2.2.1 HR.out.2.2.2.2 (HE.out.more D.out.bel)).mono ?_)
  rintro e w3 ⟨rfl, hb⟩
  replace D := Lib.hid (D.out.more hb)
  replace X := Lib.hid (X.out.more hb)
  clear hb p0 p1 p2 q0 q1 q2 r0 r1 r2 x0 x1 x2
  have Y := Lib.hid (BoxL.new w3 x)
  replace D := Lib.hid (D.out.more (Below.new w3 (.cells #[.int .i64 x.l, .int .u64 x.c, .int .i64 x.i] 24)))
  replace X := Lib.hid (X.out.more (Below.new w3 (.cells #[.int .i64 x.l, .int .u64 x.c, .int .i64 x.i] 24)))
  obtain ⟨⟨p0, p1, p2⟩, ⟨q0, q1, q2⟩, ⟨r0, r1, r2⟩⟩ := D.out.cells
  obtain ⟨x0, x1, x2⟩ := X.out.lab
  go_wp2_with (go_at_call 24; refine (Under_w HF.out.1 HF.out.2.2.2 HR.out.1).mono ?_)
  rintro e w4 ⟨rfl, hb⟩
  replace D := Lib.hid (D.out.more hb)
  replace X := Lib.hid (X.out.more hb)
  replace Y := Lib.hid (Y.out.more hb)
  clear hb p0 p1 p2 q0 q1 q2 r0 r1 r2 x0 x1 x2
  obtain ⟨⟨p0, p1, p2⟩, ⟨q0, q1, q2⟩, ⟨r0, r1, r2⟩⟩ := D.out.cells
  obtain ⟨x0, x1, x2⟩ := X.out.lab
  go_wp2_with (go_at_call 24; refine (Under_w HF.out.2.1 HF.out.2.2.2 HR.out.2.1).mono ?_)
  rintro e w5 ⟨rfl, hb⟩
  replace D := Lib.hid (D.out.more hb)
  replace X := Lib.hid (X.out.more hb)
  replace Y := Lib.hid (Y.out.more hb)
  clear hb p0 p1 p2 q0 q1 q2 r0 r1 r2 x0 x1 x2
  obtain ⟨⟨p0, p1, p2⟩, ⟨q0, q1, q2⟩, ⟨r0, r1, r2⟩⟩ := D.out.cells
  obtain ⟨x0, x1, x2⟩ := X.out.lab
  go_wp2_with (go_at_call 24; refine (Under_w HF.out.2.2.2 HF.out.2.2.1 HR.out.2.2.1).mono ?_)
  rintro e w6 ⟨rfl, hb⟩
  replace D := Lib.hid (D.out.more hb)
  replace X := Lib.hid (X.out.more hb)
  replace Y := Lib.hid (Y.out.more hb)
  clear hb p0 p1 p2 q0 q1 q2 r0 r1 r2 x0 x1 x2
  obtain ⟨⟨p0, p1, p2⟩, ⟨q0, q1, q2⟩, ⟨r0, r1, r2⟩⟩ := D.out.cells
  obtain ⟨x0, x1, x2⟩ := X.out.lab
  go_wp2_with (go_at_call 18; refine (H.reads HF.out.2.2.2 HF.out.2.1 HR.out.2.2.2.1 (HE.out.more D.out.bel)).mono ?_)
  rintro e w7 ⟨rfl, hb⟩
  replace D := Lib.hid (D.out.more hb)
  replace X := Lib.hid (X.out.more hb)
  replace Y := Lib.hid (Y.out.more hb)
  clear hb p0 p1 p2 q0 q1 q2 r0 r1 r2 x0 x1 x2
  obtain ⟨⟨p0, p1, p2⟩, ⟨q0, q1, q2⟩, ⟨r0, r1, r2⟩⟩ := D.out.cells
  obtain ⟨x0, x1, x2⟩ := X.out.lab
  obtain ⟨y0, y1, y2⟩ := Y.out.lab
  go_wp2
  go_ret
  exact ⟨rfl, D.out.bel⟩
theorem ceilingRises_w (H : Api) (cur a high : Lab) (hc : cur.fits) (ha : a.fits) (hh : high.fits) (w : World) (hs : Ce w) : Calls Tryd.prog 5 #[.agg #[.int .i64 cur.l, .int .u64 cur.c, .int .i64 cur.i], .agg #[.int .i64 a.l, .int .u64 a.c, .int .i64 a.i], .agg #[.int .i64 high.l, .int .u64 high.c, .int .i64 high.i]] w (BoolP true w) := by
  obtain ⟨⟨c, x⟩, h1⟩ : ∃ x, floatL cur a high = x := ⟨_, rfl⟩
  by_cases h0 : c = 0
  · subst h0
    exact rises_y H h1 hc ha hh hs
  · obtain ⟨rfl, rfl | ⟨rfl, k⟩⟩ := rises_no hc ha hh h1 h0
    · exact rises_n0 H h1 hc ha hh hs
    · cases u1 : cur.under high with
      | false => exact rises_n1 H h1 u1 hc ha hh hs
      | true => exact rises_n2 H h1 u1 (by rwa [u1, Bool.true_and] at k) hc ha hh hs

end Go.Proofs.YtciohfeifihobaaDoor
