/- CeilingFloats: the program's answers are the document's. -/
import Derived.Test.YtciohfeifihobaaDoorCwRises
import Derived.Test.YtciohfeifihobaaDoorCeRefG
namespace Go.Proofs.YtciohfeifihobaaDoor
open Go.RowKit Go.Proofs.Cats Go.Proofs.Cel Go.Shelf Go.Sort

set_option maxRecDepth 100000 in
set_option maxHeartbeats 8000000 in
theorem ceilingFloats_w (H : Api) (cur a high : Lab) (hc : cur.fits) (ha : a.fits) (hh : high.fits) (w : World) (hs : Ce w) : Calls Tryd.prog 3 #[.agg #[.int .i64 cur.l, .int .u64 cur.c, .int .i64 cur.i], .agg #[.int .i64 a.l, .int .u64 a.c, .int .i64 a.i], .agg #[.int .i64 high.l, .int .u64 high.c, .int .i64 high.i]] w (BoolP true w) := by
  obtain ⟨⟨c1, x⟩, h1⟩ : ∃ x, floatL cur a high = x := ⟨_, rfl⟩
  obtain ⟨⟨c2, r2⟩, h2⟩ : ∃ x, sendL cur a = x := ⟨_, rfl⟩
  obtain ⟨⟨c3, y⟩, h3⟩ : ∃ x, gainL cur a = x := ⟨_, rfl⟩
  obtain ⟨r4, h4⟩ : ∃ x, readsL cur a = x := ⟨_, rfl⟩
  obtain ⟨r5, h5⟩ : ∃ x, writesL cur a = x := ⟨_, rfl⟩
  have D := Lib.hid (Tv3.of w cur a high)
  have HE := Lib.hid hs
  have HF := Lib.hid (And.intro hc (And.intro ha hh))
  have HS1 := Lib.hid h1
  have HS2 := Lib.hid h2
  have HS3 := Lib.hid h3
  have HR1 := Lib.hid h4
  have HW1 := Lib.hid h5
  clear hs hc ha hh h1 h2 h3 h4 h5
  have e1 := selfE x
  have e2 := selfEIn x
  have e3 := selfE y
  have e4 := selfEIn y
  go_enter Tryd.func3, Tryd.ntmps3
  go_wp2_with (go_at_call 11; refine (shown_w H _ (HE.out.more D.out.bel)).mono ?_)
  rintro e w1 ⟨rfl, hb⟩
  replace D := Lib.hid (D.out.more hb)
  clear hb
  obtain ⟨⟨p0, p1, p2⟩, ⟨q0, q1, q2⟩, ⟨r0, r1, r2⟩⟩ := D.out.cells
  go_wp2_with (go_at_call 12; refine (H.float HF.out.1 HF.out.2.1 HF.out.2.2 HS1.out (HE.out.more D.out.bel)).mono ?_)
  rintro e w2 ⟨rfl, hb⟩
  replace D := Lib.hid (D.out.more hb)
  clear hb p0 p1 p2 q0 q1 q2 r0 r1 r2
  have B := Lib.hid (BoxL.new w2 x)
  replace D := Lib.hid (D.out.more (Below.new w2 (.cells #[.int .i64 x.l, .int .u64 x.c, .int .i64 x.i] 24)))
  obtain ⟨⟨p0, p1, p2⟩, ⟨q0, q1, q2⟩, ⟨r0, r1, r2⟩⟩ := D.out.cells
  go_wp2_with (go_at_call 13; refine (RFloat_w HF.out.1 HF.out.2.1 HF.out.2.2 HS1.out (HE.out.more D.out.bel)).mono ?_)
  rintro e w3 ⟨rfl, hb⟩
  replace D := Lib.hid (D.out.more hb)
  replace B := Lib.hid (B.out.more hb)
  clear hb p0 p1 p2 q0 q1 q2 r0 r1 r2
  replace B := Lib.hid (B.out.more (Below.new w3 (.cells #[.int .i64 x.l, .int .u64 x.c, .int .i64 x.i] 24)))
  have C := Lib.hid (BoxL.new w3 x)
  replace D := Lib.hid (D.out.more (Below.new w3 (.cells #[.int .i64 x.l, .int .u64 x.c, .int .i64 x.i] 24)))
  obtain ⟨⟨p0, p1, p2⟩, ⟨q0, q1, q2⟩, ⟨r0, r1, r2⟩⟩ := D.out.cells
  go_wp2_with (go_at_call 14; refine (H.send HF.out.1 HF.out.2.1 HS2.out (HE.out.more D.out.bel)).mono ?_)
  rintro e w4 ⟨rfl, hb⟩
  replace D := Lib.hid (D.out.more hb)
  replace B := Lib.hid (B.out.more hb)
  replace C := Lib.hid (C.out.more hb)
  clear hb p0 p1 p2 q0 q1 q2 r0 r1 r2
  obtain ⟨⟨p0, p1, p2⟩, ⟨q0, q1, q2⟩, ⟨r0, r1, r2⟩⟩ := D.out.cells
  go_wp2_with (go_at_call 15; refine (RSend_w HF.out.1 HF.out.2.1 HS2.out (HE.out.more D.out.bel)).mono ?_)
  rintro e w5 ⟨rfl, hb⟩
  replace D := Lib.hid (D.out.more hb)
  replace B := Lib.hid (B.out.more hb)
  replace C := Lib.hid (C.out.more hb)
  clear hb p0 p1 p2 q0 q1 q2 r0 r1 r2
  obtain ⟨⟨p0, p1, p2⟩, ⟨q0, q1, q2⟩, ⟨r0, r1, r2⟩⟩ := D.out.cells
  go_wp2_with (go_at_call 16; refine (H.gain HF.out.1 HF.out.2.1 HS3.out (HE.out.more D.out.bel)).mono ?_)
  rintro e w6 ⟨rfl, hb⟩
  replace D := Lib.hid (D.out.more hb)
  replace B := Lib.hid (B.out.more hb)
  replace C := Lib.hid (C.out.more hb)
  clear hb p0 p1 p2 q0 q1 q2 r0 r1 r2
  replace B := Lib.hid (B.out.more (Below.new w6 (.cells #[.int .i64 y.l, .int .u64 y.c, .int .i64 y.i] 24)))
  replace C := Lib.hid (C.out.more (Below.new w6 (.cells #[.int .i64 y.l, .int .u64 y.c, .int .i64 y.i] 24)))
  have J := Lib.hid (BoxL.new w6 y)
  replace D := Lib.hid (D.out.more (Below.new w6 (.cells #[.int .i64 y.l, .int .u64 y.c, .int .i64 y.i] 24)))
  obtain ⟨⟨p0, p1, p2⟩, ⟨q0, q1, q2⟩, ⟨r0, r1, r2⟩⟩ := D.out.cells
  go_wp2_with (go_at_call 17; refine (RGain_w HF.out.1 HF.out.2.1 HS3.out).mono ?_)
  rintro e w7 ⟨rfl, hb⟩
  replace D := Lib.hid (D.out.more hb)
  replace B := Lib.hid (B.out.more hb)
  replace C := Lib.hid (C.out.more hb)
  replace J := Lib.hid (J.out.more hb)
  clear hb p0 p1 p2 q0 q1 q2 r0 r1 r2
  replace B := Lib.hid (B.out.more (Below.new w7 (.cells #[.int .i64 y.l, .int .u64 y.c, .int .i64 y.i] 24)))
  replace C := Lib.hid (C.out.more (Below.new w7 (.cells #[.int .i64 y.l, .int .u64 y.c, .int .i64 y.i] 24)))
  replace J := Lib.hid (J.out.more (Below.new w7 (.cells #[.int .i64 y.l, .int .u64 y.c, .int .i64 y.i] 24)))
  have M := Lib.hid (BoxL.new w7 y)
  replace D := Lib.hid (D.out.more (Below.new w7 (.cells #[.int .i64 y.l, .int .u64 y.c, .int .i64 y.i] 24)))
  go_wp2
  obtain ⟨V, hV⟩ : ∃ V, w7.alloc (.cells #[.int .i64 y.l, .int .u64 y.c, .int .i64 y.i] 24) = V := ⟨_, rfl⟩
  rw [hV] at D B C J M ⊢
  clear hV
  obtain ⟨⟨p0, p1, p2⟩, ⟨q0, q1, q2⟩, ⟨r0, r1, r2⟩⟩ := D.out.cells
  obtain ⟨x0, x1, x2⟩ := B.out.lab
  obtain ⟨y0, y1, y2⟩ := C.out.lab
  obtain ⟨z0, z1, z2⟩ := J.out.lab
  obtain ⟨u0, u1, u2⟩ := M.out.lab
  replace p0 := cell_regrown p0
  replace p1 := cell_regrown p1
  replace p2 := cell_regrown p2
  replace q0 := cell_regrown q0
  replace q1 := cell_regrown q1
  replace q2 := cell_regrown q2
  replace x0 := cell_regrown x0
  replace x1 := cell_regrown x1
  replace x2 := cell_regrown x2
  replace y0 := cell_regrown y0
  replace y1 := cell_regrown y1
  replace y2 := cell_regrown y2
  replace z0 := cell_regrown z0
  replace z1 := cell_regrown z1
  replace z2 := cell_regrown z2
  replace u0 := cell_regrown u0
  replace u1 := cell_regrown u1
  replace u2 := cell_regrown u2
  clear r0 r1 r2
  have cR := rg_bool (V := V) fun W hb => H.reads HF.out.1 HF.out.2.1 HR1.out (HE.out.more (below_more D.out.bel hb))
  have cR2 := rg_bool (V := V) fun W hb => RReads_w HF.out.1 HF.out.2.1 HR1.out (HE.out.more (below_more D.out.bel hb))
  have cW := rg_bool (V := V) fun W hb => H.writes HF.out.1 HF.out.2.1 HW1.out (HE.out.more (below_more D.out.bel hb))
  have cW2 := rg_bool (V := V) fun W hb => RWrites_w (w := W) HW1.out
  refine wp_region_quiet_below (by kernel_rfl) (by kernel_rfl) ?_
  repeat (quiet_step (with_reducible (first | exact cR _ _ | exact cR2 _ _ | exact cW _ _ | exact cW2 _ _)))
  refine wpQuiet_nil ?_
  intro _ hw'
  obtain ⟨⟨dq, osq⟩, hw''⟩ := hw'
  subst hw''
  go_wp2
  go_ret
  exact ⟨rfl, below_more D.out.bel (below_regrown V dq osq)⟩

end Go.Proofs.YtciohfeifihobaaDoor
