/- CeilingSends: who may send, who may read. -/
import Derived.Test.YtciohfeifihobaaDoorCwKit
namespace Go.Proofs.YtciohfeifihobaaDoor
open Go.RowKit Go.Proofs.Cats Go.Proofs.Cel Go.Shelf Go.Sort

set_option maxHeartbeats 2000000 in
theorem sends_00 (H : Api) {cur a b : Lab} {c1 c2 : Int} {r1 r2 : Bool} (h1 : sendL cur a = (c1, r1)) (h2 : sendL cur b = (c2, r2)) (hne : c1 ≠ 0) (g1 : readsL cur a = false) (hc : cur.fits) (ha : a.fits) (hb : b.fits) {w : World} (hs : Ce w) : Calls Tryd.prog 10 #[.agg #[.int .i64 cur.l, .int .u64 cur.c, .int .i64 cur.i], .agg #[.int .i64 a.l, .int .u64 a.c, .int .i64 a.i], .agg #[.int .i64 b.l, .int .u64 b.c, .int .i64 b.i]] w (BoolP true w) := by
  have D := Lib.hid (Tv3.of w cur a b)
  have HE := Lib.hid hs
  have HF := Lib.hid (And.intro hc (And.intro ha hb))
  have HS1 := Lib.hid h1
  have HS2 := Lib.hid h2
  have HR1 := Lib.hid g1
  have hd : decide (c1 = 0) = false := decide_eq_false hne
  clear hs hc ha hb h1 h2 g1
  go_enter Tryd.func10, Tryd.ntmps10
  go_wp2_with (go_at_call 11; refine (shown_w H _ (HE.out.more D.out.bel)).mono ?_)
  rintro e w1 ⟨rfl, hb⟩
  replace D := Lib.hid (D.out.more hb)
  clear hb
  obtain ⟨⟨p0, p1, p2⟩, ⟨q0, q1, q2⟩, ⟨r0, r1, r2⟩⟩ := D.out.cells
  go_wp2_with (go_at_call 14; refine (H.send HF.out.1 HF.out.2.1 HS1.out (HE.out.more D.out.bel)).mono ?_)
  rintro e w2 ⟨rfl, hb⟩
  replace D := Lib.hid (D.out.more hb)
  clear hb p0 p1 p2 q0 q1 q2 r0 r1 r2
  obtain ⟨⟨p0, p1, p2⟩, ⟨q0, q1, q2⟩, ⟨r0, r1, r2⟩⟩ := D.out.cells
  go_wp2_with (go_at_call 14; refine (H.send HF.out.1 HF.out.2.2 HS2.out (HE.out.more D.out.bel)).mono ?_)
  rintro e w3 ⟨rfl, hb⟩
  replace D := Lib.hid (D.out.more hb)
  clear hb p0 p1 p2 q0 q1 q2 r0 r1 r2
  obtain ⟨⟨p0, p1, p2⟩, ⟨q0, q1, q2⟩, ⟨r0, r1, r2⟩⟩ := D.out.cells
  go_wp2_with (go_at_call 18; refine (H.reads HF.out.1 HF.out.2.1 HR1.out (HE.out.more D.out.bel)).mono ?_)
  rintro e w4 ⟨rfl, hb⟩
  replace D := Lib.hid (D.out.more hb)
  clear hb p0 p1 p2 q0 q1 q2 r0 r1 r2
  obtain ⟨⟨p0, p1, p2⟩, ⟨q0, q1, q2⟩, ⟨r0, r1, r2⟩⟩ := D.out.cells
  clear p0 p1 p2 q0 q1 q2 r0 r1 r2
  go_wp2
  go_ret
  exact ⟨rfl, D.out.bel⟩
set_option maxHeartbeats 2000000 in
theorem sends_01 (H : Api) {cur a b : Lab} {c1 c2 : Int} {r1 r2 : Bool} (h1 : sendL cur a = (c1, r1)) (h2 : sendL cur b = (c2, r2)) (hne : c1 ≠ 0) (g1 : readsL cur a = true) (hu2 : b.under a = false) (hc : cur.fits) (ha : a.fits) (hb : b.fits) {w : World} (hs : Ce w) : Calls Tryd.prog 10 #[.agg #[.int .i64 cur.l, .int .u64 cur.c, .int .i64 cur.i], .agg #[.int .i64 a.l, .int .u64 a.c, .int .i64 a.i], .agg #[.int .i64 b.l, .int .u64 b.c, .int .i64 b.i]] w (BoolP true w) := by
  have D := Lib.hid (Tv3.of w cur a b)
  have HE := Lib.hid hs
  have HF := Lib.hid (And.intro hc (And.intro ha hb))
  have HS1 := Lib.hid h1
  have HS2 := Lib.hid h2
  have HR1 := Lib.hid g1
  have hd : decide (c1 = 0) = false := decide_eq_false hne
  have HU2 := Lib.hid hu2
  clear hs hc ha hb h1 h2 g1 hu2
  go_enter Tryd.func10, Tryd.ntmps10
  go_wp2_with (go_at_call 11; refine (shown_w H _ (HE.out.more D.out.bel)).mono ?_)
  rintro e w1 ⟨rfl, hb⟩
  replace D := Lib.hid (D.out.more hb)
  clear hb
  obtain ⟨⟨p0, p1, p2⟩, ⟨q0, q1, q2⟩, ⟨r0, r1, r2⟩⟩ := D.out.cells
  go_wp2_with (go_at_call 14; refine (H.send HF.out.1 HF.out.2.1 HS1.out (HE.out.more D.out.bel)).mono ?_)
  rintro e w2 ⟨rfl, hb⟩
  replace D := Lib.hid (D.out.more hb)
  clear hb p0 p1 p2 q0 q1 q2 r0 r1 r2
  obtain ⟨⟨p0, p1, p2⟩, ⟨q0, q1, q2⟩, ⟨r0, r1, r2⟩⟩ := D.out.cells
  go_wp2_with (go_at_call 14; refine (H.send HF.out.1 HF.out.2.2 HS2.out (HE.out.more D.out.bel)).mono ?_)
  rintro e w3 ⟨rfl, hb⟩
  replace D := Lib.hid (D.out.more hb)
  clear hb p0 p1 p2 q0 q1 q2 r0 r1 r2
  obtain ⟨⟨p0, p1, p2⟩, ⟨q0, q1, q2⟩, ⟨r0, r1, r2⟩⟩ := D.out.cells
  go_wp2_with (go_at_call 18; refine (H.reads HF.out.1 HF.out.2.1 HR1.out (HE.out.more D.out.bel)).mono ?_)
  rintro e w4 ⟨rfl, hb⟩
  replace D := Lib.hid (D.out.more hb)
  clear hb p0 p1 p2 q0 q1 q2 r0 r1 r2
  obtain ⟨⟨p0, p1, p2⟩, ⟨q0, q1, q2⟩, ⟨r0, r1, r2⟩⟩ := D.out.cells
  go_wp2_with (go_at_call 24; refine (Under_w HF.out.2.2 HF.out.2.1 HU2.out).mono ?_)
  rintro e w5 ⟨rfl, hb⟩
  replace D := Lib.hid (D.out.more hb)
  clear hb p0 p1 p2 q0 q1 q2 r0 r1 r2
  go_wp2
  go_ret
  exact ⟨rfl, D.out.bel⟩
set_option maxHeartbeats 2000000 in
theorem sends_02 (H : Api) {cur a b : Lab} {c1 c2 : Int} {r1 r2 : Bool} (h1 : sendL cur a = (c1, r1)) (h2 : sendL cur b = (c2, r2)) (hne : c1 ≠ 0) (g1 : readsL cur a = true) (hu2 : b.under a = true) (g2 : readsL cur b = true) (hc : cur.fits) (ha : a.fits) (hb : b.fits) {w : World} (hs : Ce w) : Calls Tryd.prog 10 #[.agg #[.int .i64 cur.l, .int .u64 cur.c, .int .i64 cur.i], .agg #[.int .i64 a.l, .int .u64 a.c, .int .i64 a.i], .agg #[.int .i64 b.l, .int .u64 b.c, .int .i64 b.i]] w (BoolP true w) := by
  have D := Lib.hid (Tv3.of w cur a b)
  have HE := Lib.hid hs
  have HF := Lib.hid (And.intro hc (And.intro ha hb))
  have HS1 := Lib.hid h1
  have HS2 := Lib.hid h2
  have HR1 := Lib.hid g1
  have hd : decide (c1 = 0) = false := decide_eq_false hne
  have HU2 := Lib.hid hu2
  have HR2 := Lib.hid g2
  clear hs hc ha hb h1 h2 g1 hu2 g2
  go_enter Tryd.func10, Tryd.ntmps10
  go_wp2_with (go_at_call 11; refine (shown_w H _ (HE.out.more D.out.bel)).mono ?_)
  rintro e w1 ⟨rfl, hb⟩
  replace D := Lib.hid (D.out.more hb)
  clear hb
  obtain ⟨⟨p0, p1, p2⟩, ⟨q0, q1, q2⟩, ⟨r0, r1, r2⟩⟩ := D.out.cells
  go_wp2_with (go_at_call 14; refine (H.send HF.out.1 HF.out.2.1 HS1.out (HE.out.more D.out.bel)).mono ?_)
  rintro e w2 ⟨rfl, hb⟩
  replace D := Lib.hid (D.out.more hb)
  clear hb p0 p1 p2 q0 q1 q2 r0 r1 r2
  obtain ⟨⟨p0, p1, p2⟩, ⟨q0, q1, q2⟩, ⟨r0, r1, r2⟩⟩ := D.out.cells
  go_wp2_with (go_at_call 14; refine (H.send HF.out.1 HF.out.2.2 HS2.out (HE.out.more D.out.bel)).mono ?_)
  rintro e w3 ⟨rfl, hb⟩
  replace D := Lib.hid (D.out.more hb)
  clear hb p0 p1 p2 q0 q1 q2 r0 r1 r2
  obtain ⟨⟨p0, p1, p2⟩, ⟨q0, q1, q2⟩, ⟨r0, r1, r2⟩⟩ := D.out.cells
  go_wp2_with (go_at_call 18; refine (H.reads HF.out.1 HF.out.2.1 HR1.out (HE.out.more D.out.bel)).mono ?_)
  rintro e w4 ⟨rfl, hb⟩
  replace D := Lib.hid (D.out.more hb)
  clear hb p0 p1 p2 q0 q1 q2 r0 r1 r2
  obtain ⟨⟨p0, p1, p2⟩, ⟨q0, q1, q2⟩, ⟨r0, r1, r2⟩⟩ := D.out.cells
  go_wp2_with (go_at_call 24; refine (Under_w HF.out.2.2 HF.out.2.1 HU2.out).mono ?_)
  rintro e w5 ⟨rfl, hb⟩
  replace D := Lib.hid (D.out.more hb)
  clear hb p0 p1 p2 q0 q1 q2 r0 r1 r2
  obtain ⟨⟨p0, p1, p2⟩, ⟨q0, q1, q2⟩, ⟨r0, r1, r2⟩⟩ := D.out.cells
  go_wp2_with (go_at_call 18; refine (H.reads HF.out.1 HF.out.2.2 HR2.out (HE.out.more D.out.bel)).mono ?_)
  rintro e w6 ⟨rfl, hb⟩
  replace D := Lib.hid (D.out.more hb)
  clear hb p0 p1 p2 q0 q1 q2 r0 r1 r2
  go_wp2
  go_ret
  exact ⟨rfl, D.out.bel⟩
set_option maxHeartbeats 2000000 in
theorem sends_10 (H : Api) {cur a b : Lab} {c2 : Int} {r1 r2 : Bool} (h1 : sendL cur a = (0, r1)) (h2 : sendL cur b = (c2, r2)) (hu1 : a.under b = false) (g1 : readsL cur a = false) (hc : cur.fits) (ha : a.fits) (hb : b.fits) {w : World} (hs : Ce w) : Calls Tryd.prog 10 #[.agg #[.int .i64 cur.l, .int .u64 cur.c, .int .i64 cur.i], .agg #[.int .i64 a.l, .int .u64 a.c, .int .i64 a.i], .agg #[.int .i64 b.l, .int .u64 b.c, .int .i64 b.i]] w (BoolP true w) := by
  have D := Lib.hid (Tv3.of w cur a b)
  have HE := Lib.hid hs
  have HF := Lib.hid (And.intro hc (And.intro ha hb))
  have HS1 := Lib.hid h1
  have HS2 := Lib.hid h2
  have HR1 := Lib.hid g1
  have HU1 := Lib.hid hu1
  clear hs hc ha hb h1 h2 g1 hu1
  go_enter Tryd.func10, Tryd.ntmps10
  go_wp2_with (go_at_call 11; refine (shown_w H _ (HE.out.more D.out.bel)).mono ?_)
  rintro e w1 ⟨rfl, hb⟩
  replace D := Lib.hid (D.out.more hb)
  clear hb
  obtain ⟨⟨p0, p1, p2⟩, ⟨q0, q1, q2⟩, ⟨r0, r1, r2⟩⟩ := D.out.cells
  go_wp2_with (go_at_call 14; refine (H.send HF.out.1 HF.out.2.1 HS1.out (HE.out.more D.out.bel)).mono ?_)
  rintro e w2 ⟨rfl, hb⟩
  replace D := Lib.hid (D.out.more hb)
  clear hb p0 p1 p2 q0 q1 q2 r0 r1 r2
  obtain ⟨⟨p0, p1, p2⟩, ⟨q0, q1, q2⟩, ⟨r0, r1, r2⟩⟩ := D.out.cells
  go_wp2_with (go_at_call 14; refine (H.send HF.out.1 HF.out.2.2 HS2.out (HE.out.more D.out.bel)).mono ?_)
  rintro e w3 ⟨rfl, hb⟩
  replace D := Lib.hid (D.out.more hb)
  clear hb p0 p1 p2 q0 q1 q2 r0 r1 r2
  obtain ⟨⟨p0, p1, p2⟩, ⟨q0, q1, q2⟩, ⟨r0, r1, r2⟩⟩ := D.out.cells
  go_wp2_with (go_at_call 24; refine (Under_w HF.out.2.1 HF.out.2.2 HU1.out).mono ?_)
  rintro e w4 ⟨rfl, hb⟩
  replace D := Lib.hid (D.out.more hb)
  clear hb p0 p1 p2 q0 q1 q2 r0 r1 r2
  obtain ⟨⟨p0, p1, p2⟩, ⟨q0, q1, q2⟩, ⟨r0, r1, r2⟩⟩ := D.out.cells
  go_wp2_with (go_at_call 18; refine (H.reads HF.out.1 HF.out.2.1 HR1.out (HE.out.more D.out.bel)).mono ?_)
  rintro e w5 ⟨rfl, hb⟩
  replace D := Lib.hid (D.out.more hb)
  clear hb p0 p1 p2 q0 q1 q2 r0 r1 r2
  obtain ⟨⟨p0, p1, p2⟩, ⟨q0, q1, q2⟩, ⟨r0, r1, r2⟩⟩ := D.out.cells
  clear p0 p1 p2 q0 q1 q2 r0 r1 r2
  go_wp2
  go_ret
  exact ⟨rfl, D.out.bel⟩
set_option maxHeartbeats 2000000 in
theorem sends_11 (H : Api) {cur a b : Lab} {c2 : Int} {r1 r2 : Bool} (h1 : sendL cur a = (0, r1)) (h2 : sendL cur b = (c2, r2)) (hu1 : a.under b = false) (g1 : readsL cur a = true) (hu2 : b.under a = false) (hc : cur.fits) (ha : a.fits) (hb : b.fits) {w : World} (hs : Ce w) : Calls Tryd.prog 10 #[.agg #[.int .i64 cur.l, .int .u64 cur.c, .int .i64 cur.i], .agg #[.int .i64 a.l, .int .u64 a.c, .int .i64 a.i], .agg #[.int .i64 b.l, .int .u64 b.c, .int .i64 b.i]] w (BoolP true w) := by
  have D := Lib.hid (Tv3.of w cur a b)
  have HE := Lib.hid hs
  have HF := Lib.hid (And.intro hc (And.intro ha hb))
  have HS1 := Lib.hid h1
  have HS2 := Lib.hid h2
  have HR1 := Lib.hid g1
  have HU1 := Lib.hid hu1
  have HU2 := Lib.hid hu2
  clear hs hc ha hb h1 h2 g1 hu1 hu2
  go_enter Tryd.func10, Tryd.ntmps10
  go_wp2_with (go_at_call 11; refine (shown_w H _ (HE.out.more D.out.bel)).mono ?_)
  rintro e w1 ⟨rfl, hb⟩
  replace D := Lib.hid (D.out.more hb)
  clear hb
  obtain ⟨⟨p0, p1, p2⟩, ⟨q0, q1, q2⟩, ⟨r0, r1, r2⟩⟩ := D.out.cells
  go_wp2_with (go_at_call 14; refine (H.send HF.out.1 HF.out.2.1 HS1.out (HE.out.more D.out.bel)).mono ?_)
  rintro e w2 ⟨rfl, hb⟩
  replace D := Lib.hid (D.out.more hb)
  clear hb p0 p1 p2 q0 q1 q2 r0 r1 r2
  obtain ⟨⟨p0, p1, p2⟩, ⟨q0, q1, q2⟩, ⟨r0, r1, r2⟩⟩ := D.out.cells
  go_wp2_with (go_at_call 14; refine (H.send HF.out.1 HF.out.2.2 HS2.out (HE.out.more D.out.bel)).mono ?_)
  rintro e w3 ⟨rfl, hb⟩
  replace D := Lib.hid (D.out.more hb)
  clear hb p0 p1 p2 q0 q1 q2 r0 r1 r2
  obtain ⟨⟨p0, p1, p2⟩, ⟨q0, q1, q2⟩, ⟨r0, r1, r2⟩⟩ := D.out.cells
  go_wp2_with (go_at_call 24; refine (Under_w HF.out.2.1 HF.out.2.2 HU1.out).mono ?_)
  rintro e w4 ⟨rfl, hb⟩
  replace D := Lib.hid (D.out.more hb)
  clear hb p0 p1 p2 q0 q1 q2 r0 r1 r2
  obtain ⟨⟨p0, p1, p2⟩, ⟨q0, q1, q2⟩, ⟨r0, r1, r2⟩⟩ := D.out.cells
  go_wp2_with (go_at_call 18; refine (H.reads HF.out.1 HF.out.2.1 HR1.out (HE.out.more D.out.bel)).mono ?_)
  rintro e w5 ⟨rfl, hb⟩
  replace D := Lib.hid (D.out.more hb)
  clear hb p0 p1 p2 q0 q1 q2 r0 r1 r2
  obtain ⟨⟨p0, p1, p2⟩, ⟨q0, q1, q2⟩, ⟨r0, r1, r2⟩⟩ := D.out.cells
  go_wp2_with (go_at_call 24; refine (Under_w HF.out.2.2 HF.out.2.1 HU2.out).mono ?_)
  rintro e w6 ⟨rfl, hb⟩
  replace D := Lib.hid (D.out.more hb)
  clear hb p0 p1 p2 q0 q1 q2 r0 r1 r2
  go_wp2
  go_ret
  exact ⟨rfl, D.out.bel⟩
set_option maxHeartbeats 2000000 in
theorem sends_12 (H : Api) {cur a b : Lab} {c2 : Int} {r1 r2 : Bool} (h1 : sendL cur a = (0, r1)) (h2 : sendL cur b = (c2, r2)) (hu1 : a.under b = false) (g1 : readsL cur a = true) (hu2 : b.under a = true) (g2 : readsL cur b = true) (hc : cur.fits) (ha : a.fits) (hb : b.fits) {w : World} (hs : Ce w) : Calls Tryd.prog 10 #[.agg #[.int .i64 cur.l, .int .u64 cur.c, .int .i64 cur.i], .agg #[.int .i64 a.l, .int .u64 a.c, .int .i64 a.i], .agg #[.int .i64 b.l, .int .u64 b.c, .int .i64 b.i]] w (BoolP true w) := by
  have D := Lib.hid (Tv3.of w cur a b)
  have HE := Lib.hid hs
  have HF := Lib.hid (And.intro hc (And.intro ha hb))
  have HS1 := Lib.hid h1
  have HS2 := Lib.hid h2
  have HR1 := Lib.hid g1
  have HU1 := Lib.hid hu1
  have HU2 := Lib.hid hu2
  have HR2 := Lib.hid g2
  clear hs hc ha hb h1 h2 g1 hu1 hu2 g2
  go_enter Tryd.func10, Tryd.ntmps10
  go_wp2_with (go_at_call 11; refine (shown_w H _ (HE.out.more D.out.bel)).mono ?_)
  rintro e w1 ⟨rfl, hb⟩
  replace D := Lib.hid (D.out.more hb)
  clear hb
  obtain ⟨⟨p0, p1, p2⟩, ⟨q0, q1, q2⟩, ⟨r0, r1, r2⟩⟩ := D.out.cells
  go_wp2_with (go_at_call 14; refine (H.send HF.out.1 HF.out.2.1 HS1.out (HE.out.more D.out.bel)).mono ?_)
  rintro e w2 ⟨rfl, hb⟩
  replace D := Lib.hid (D.out.more hb)
  clear hb p0 p1 p2 q0 q1 q2 r0 r1 r2
  obtain ⟨⟨p0, p1, p2⟩, ⟨q0, q1, q2⟩, ⟨r0, r1, r2⟩⟩ := D.out.cells
  go_wp2_with (go_at_call 14; refine (H.send HF.out.1 HF.out.2.2 HS2.out (HE.out.more D.out.bel)).mono ?_)
  rintro e w3 ⟨rfl, hb⟩
  replace D := Lib.hid (D.out.more hb)
  clear hb p0 p1 p2 q0 q1 q2 r0 r1 r2
  obtain ⟨⟨p0, p1, p2⟩, ⟨q0, q1, q2⟩, ⟨r0, r1, r2⟩⟩ := D.out.cells
  go_wp2_with (go_at_call 24; refine (Under_w HF.out.2.1 HF.out.2.2 HU1.out).mono ?_)
  rintro e w4 ⟨rfl, hb⟩
  replace D := Lib.hid (D.out.more hb)
  clear hb p0 p1 p2 q0 q1 q2 r0 r1 r2
  obtain ⟨⟨p0, p1, p2⟩, ⟨q0, q1, q2⟩, ⟨r0, r1, r2⟩⟩ := D.out.cells
  go_wp2_with (go_at_call 18; refine (H.reads HF.out.1 HF.out.2.1 HR1.out (HE.out.more D.out.bel)).mono ?_)
  rintro e w5 ⟨rfl, hb⟩
  replace D := Lib.hid (D.out.more hb)
  clear hb p0 p1 p2 q0 q1 q2 r0 r1 r2
  obtain ⟨⟨p0, p1, p2⟩, ⟨q0, q1, q2⟩, ⟨r0, r1, r2⟩⟩ := D.out.cells
  go_wp2_with (go_at_call 24; refine (Under_w HF.out.2.2 HF.out.2.1 HU2.out).mono ?_)
  rintro e w6 ⟨rfl, hb⟩
  replace D := Lib.hid (D.out.more hb)
  clear hb p0 p1 p2 q0 q1 q2 r0 r1 r2
  obtain ⟨⟨p0, p1, p2⟩, ⟨q0, q1, q2⟩, ⟨r0, r1, r2⟩⟩ := D.out.cells
  go_wp2_with (go_at_call 18; refine (H.reads HF.out.1 HF.out.2.2 HR2.out (HE.out.more D.out.bel)).mono ?_)
  rintro e w7 ⟨rfl, hb⟩
  replace D := Lib.hid (D.out.more hb)
  clear hb p0 p1 p2 q0 q1 q2 r0 r1 r2
  go_wp2
  go_ret
  exact ⟨rfl, D.out.bel⟩
set_option maxHeartbeats 2000000 in
theorem sends_20 (H : Api) {cur a b : Lab} {r1 r2 : Bool} (h1 : sendL cur a = (0, r1)) (h2 : sendL cur b = (0, r2)) (hu1 : a.under b = true) (g1 : readsL cur a = false) (hc : cur.fits) (ha : a.fits) (hb : b.fits) {w : World} (hs : Ce w) : Calls Tryd.prog 10 #[.agg #[.int .i64 cur.l, .int .u64 cur.c, .int .i64 cur.i], .agg #[.int .i64 a.l, .int .u64 a.c, .int .i64 a.i], .agg #[.int .i64 b.l, .int .u64 b.c, .int .i64 b.i]] w (BoolP true w) := by
  have D := Lib.hid (Tv3.of w cur a b)
  have HE := Lib.hid hs
  have HF := Lib.hid (And.intro hc (And.intro ha hb))
  have HS1 := Lib.hid h1
  have HS2 := Lib.hid h2
  have HR1 := Lib.hid g1
  have HU1 := Lib.hid hu1
  clear hs hc ha hb h1 h2 g1 hu1
  go_enter Tryd.func10, Tryd.ntmps10
  go_wp2_with (go_at_call 11; refine (shown_w H _ (HE.out.more D.out.bel)).mono ?_)
  rintro e w1 ⟨rfl, hb⟩
  replace D := Lib.hid (D.out.more hb)
  clear hb
  obtain ⟨⟨p0, p1, p2⟩, ⟨q0, q1, q2⟩, ⟨r0, r1, r2⟩⟩ := D.out.cells
  go_wp2_with (go_at_call 14; refine (H.send HF.out.1 HF.out.2.1 HS1.out (HE.out.more D.out.bel)).mono ?_)
  rintro e w2 ⟨rfl, hb⟩
  replace D := Lib.hid (D.out.more hb)
  clear hb p0 p1 p2 q0 q1 q2 r0 r1 r2
  obtain ⟨⟨p0, p1, p2⟩, ⟨q0, q1, q2⟩, ⟨r0, r1, r2⟩⟩ := D.out.cells
  go_wp2_with (go_at_call 14; refine (H.send HF.out.1 HF.out.2.2 HS2.out (HE.out.more D.out.bel)).mono ?_)
  rintro e w3 ⟨rfl, hb⟩
  replace D := Lib.hid (D.out.more hb)
  clear hb p0 p1 p2 q0 q1 q2 r0 r1 r2
  obtain ⟨⟨p0, p1, p2⟩, ⟨q0, q1, q2⟩, ⟨r0, r1, r2⟩⟩ := D.out.cells
  go_wp2_with (go_at_call 24; refine (Under_w HF.out.2.1 HF.out.2.2 HU1.out).mono ?_)
  rintro e w4 ⟨rfl, hb⟩
  replace D := Lib.hid (D.out.more hb)
  clear hb p0 p1 p2 q0 q1 q2 r0 r1 r2
  obtain ⟨⟨p0, p1, p2⟩, ⟨q0, q1, q2⟩, ⟨r0, r1, r2⟩⟩ := D.out.cells
  go_wp2_with (go_at_call 18; refine (H.reads HF.out.1 HF.out.2.1 HR1.out (HE.out.more D.out.bel)).mono ?_)
  rintro e w5 ⟨rfl, hb⟩
  replace D := Lib.hid (D.out.more hb)
  clear hb p0 p1 p2 q0 q1 q2 r0 r1 r2
  obtain ⟨⟨p0, p1, p2⟩, ⟨q0, q1, q2⟩, ⟨r0, r1, r2⟩⟩ := D.out.cells
  clear p0 p1 p2 q0 q1 q2 r0 r1 r2
  go_wp2
  go_ret
  exact ⟨rfl, D.out.bel⟩
set_option maxHeartbeats 2000000 in
theorem sends_21 (H : Api) {cur a b : Lab} {r1 r2 : Bool} (h1 : sendL cur a = (0, r1)) (h2 : sendL cur b = (0, r2)) (hu1 : a.under b = true) (g1 : readsL cur a = true) (hu2 : b.under a = false) (hc : cur.fits) (ha : a.fits) (hb : b.fits) {w : World} (hs : Ce w) : Calls Tryd.prog 10 #[.agg #[.int .i64 cur.l, .int .u64 cur.c, .int .i64 cur.i], .agg #[.int .i64 a.l, .int .u64 a.c, .int .i64 a.i], .agg #[.int .i64 b.l, .int .u64 b.c, .int .i64 b.i]] w (BoolP true w) := by
  have D := Lib.hid (Tv3.of w cur a b)
  have HE := Lib.hid hs
  have HF := Lib.hid (And.intro hc (And.intro ha hb))
  have HS1 := Lib.hid h1
  have HS2 := Lib.hid h2
  have HR1 := Lib.hid g1
  have HU1 := Lib.hid hu1
  have HU2 := Lib.hid hu2
  clear hs hc ha hb h1 h2 g1 hu1 hu2
  go_enter Tryd.func10, Tryd.ntmps10
  go_wp2_with (go_at_call 11; refine (shown_w H _ (HE.out.more D.out.bel)).mono ?_)
  rintro e w1 ⟨rfl, hb⟩
  replace D := Lib.hid (D.out.more hb)
  clear hb
  obtain ⟨⟨p0, p1, p2⟩, ⟨q0, q1, q2⟩, ⟨r0, r1, r2⟩⟩ := D.out.cells
  go_wp2_with (go_at_call 14; refine (H.send HF.out.1 HF.out.2.1 HS1.out (HE.out.more D.out.bel)).mono ?_)
  rintro e w2 ⟨rfl, hb⟩
  replace D := Lib.hid (D.out.more hb)
  clear hb p0 p1 p2 q0 q1 q2 r0 r1 r2
  obtain ⟨⟨p0, p1, p2⟩, ⟨q0, q1, q2⟩, ⟨r0, r1, r2⟩⟩ := D.out.cells
  go_wp2_with (go_at_call 14; refine (H.send HF.out.1 HF.out.2.2 HS2.out (HE.out.more D.out.bel)).mono ?_)
  rintro e w3 ⟨rfl, hb⟩
  replace D := Lib.hid (D.out.more hb)
  clear hb p0 p1 p2 q0 q1 q2 r0 r1 r2
  obtain ⟨⟨p0, p1, p2⟩, ⟨q0, q1, q2⟩, ⟨r0, r1, r2⟩⟩ := D.out.cells
  go_wp2_with (go_at_call 24; refine (Under_w HF.out.2.1 HF.out.2.2 HU1.out).mono ?_)
  rintro e w4 ⟨rfl, hb⟩
  replace D := Lib.hid (D.out.more hb)
  clear hb p0 p1 p2 q0 q1 q2 r0 r1 r2
  obtain ⟨⟨p0, p1, p2⟩, ⟨q0, q1, q2⟩, ⟨r0, r1, r2⟩⟩ := D.out.cells
  go_wp2_with (go_at_call 18; refine (H.reads HF.out.1 HF.out.2.1 HR1.out (HE.out.more D.out.bel)).mono ?_)
  rintro e w5 ⟨rfl, hb⟩
  replace D := Lib.hid (D.out.more hb)
  clear hb p0 p1 p2 q0 q1 q2 r0 r1 r2
  obtain ⟨⟨p0, p1, p2⟩, ⟨q0, q1, q2⟩, ⟨r0, r1, r2⟩⟩ := D.out.cells
  go_wp2_with (go_at_call 24; refine (Under_w HF.out.2.2 HF.out.2.1 HU2.out).mono ?_)
  rintro e w6 ⟨rfl, hb⟩
  replace D := Lib.hid (D.out.more hb)
  clear hb p0 p1 p2 q0 q1 q2 r0 r1 r2
  go_wp2
  go_ret
  exact ⟨rfl, D.out.bel⟩
set_option maxHeartbeats 2000000 in
theorem sends_22 (H : Api) {cur a b : Lab} {r1 r2 : Bool} (h1 : sendL cur a = (0, r1)) (h2 : sendL cur b = (0, r2)) (hu1 : a.under b = true) (g1 : readsL cur a = true) (hu2 : b.under a = true) (g2 : readsL cur b = true) (hc : cur.fits) (ha : a.fits) (hb : b.fits) {w : World} (hs : Ce w) : Calls Tryd.prog 10 #[.agg #[.int .i64 cur.l, .int .u64 cur.c, .int .i64 cur.i], .agg #[.int .i64 a.l, .int .u64 a.c, .int .i64 a.i], .agg #[.int .i64 b.l, .int .u64 b.c, .int .i64 b.i]] w (BoolP true w) := by
  have D := Lib.hid (Tv3.of w cur a b)
  have HE := Lib.hid hs
  have HF := Lib.hid (And.intro hc (And.intro ha hb))
  have HS1 := Lib.hid h1
  have HS2 := Lib.hid h2
  have HR1 := Lib.hid g1
  have HU1 := Lib.hid hu1
  have HU2 := Lib.hid hu2
  have HR2 := Lib.hid g2
  clear hs hc ha hb h1 h2 g1 hu1 hu2 g2
  go_enter Tryd.func10, Tryd.ntmps10
  go_wp2_with (go_at_call 11; refine (shown_w H _ (HE.out.more D.out.bel)).mono ?_)
  rintro e w1 ⟨rfl, hb⟩
  replace D := Lib.hid (D.out.more hb)
  clear hb
  obtain ⟨⟨p0, p1, p2⟩, ⟨q0, q1, q2⟩, ⟨r0, r1, r2⟩⟩ := D.out.cells
  go_wp2_with (go_at_call 14; refine (H.send HF.out.1 HF.out.2.1 HS1.out (HE.out.more D.out.bel)).mono ?_)
  rintro e w2 ⟨rfl, hb⟩
  replace D := Lib.hid (D.out.more hb)
  clear hb p0 p1 p2 q0 q1 q2 r0 r1 r2
  obtain ⟨⟨p0, p1, p2⟩, ⟨q0, q1, q2⟩, ⟨r0, r1, r2⟩⟩ := D.out.cells
  go_wp2_with (go_at_call 14; refine (H.send HF.out.1 HF.out.2.2 HS2.out (HE.out.more D.out.bel)).mono ?_)
  rintro e w3 ⟨rfl, hb⟩
  replace D := Lib.hid (D.out.more hb)
  clear hb p0 p1 p2 q0 q1 q2 r0 r1 r2
  obtain ⟨⟨p0, p1, p2⟩, ⟨q0, q1, q2⟩, ⟨r0, r1, r2⟩⟩ := D.out.cells
  go_wp2_with (go_at_call 24; refine (Under_w HF.out.2.1 HF.out.2.2 HU1.out).mono ?_)
  rintro e w4 ⟨rfl, hb⟩
  replace D := Lib.hid (D.out.more hb)
  clear hb p0 p1 p2 q0 q1 q2 r0 r1 r2
  obtain ⟨⟨p0, p1, p2⟩, ⟨q0, q1, q2⟩, ⟨r0, r1, r2⟩⟩ := D.out.cells
  go_wp2_with (go_at_call 18; refine (H.reads HF.out.1 HF.out.2.1 HR1.out (HE.out.more D.out.bel)).mono ?_)
  rintro e w5 ⟨rfl, hb⟩
  replace D := Lib.hid (D.out.more hb)
  clear hb p0 p1 p2 q0 q1 q2 r0 r1 r2
  obtain ⟨⟨p0, p1, p2⟩, ⟨q0, q1, q2⟩, ⟨r0, r1, r2⟩⟩ := D.out.cells
  go_wp2_with (go_at_call 24; refine (Under_w HF.out.2.2 HF.out.2.1 HU2.out).mono ?_)
  rintro e w6 ⟨rfl, hb⟩
  replace D := Lib.hid (D.out.more hb)
  clear hb p0 p1 p2 q0 q1 q2 r0 r1 r2
  obtain ⟨⟨p0, p1, p2⟩, ⟨q0, q1, q2⟩, ⟨r0, r1, r2⟩⟩ := D.out.cells
  go_wp2_with (go_at_call 18; refine (H.reads HF.out.1 HF.out.2.2 HR2.out (HE.out.more D.out.bel)).mono ?_)
  rintro e w7 ⟨rfl, hb⟩
  replace D := Lib.hid (D.out.more hb)
  clear hb p0 p1 p2 q0 q1 q2 r0 r1 r2
  go_wp2
  go_ret
  exact ⟨rfl, D.out.bel⟩
theorem ceilingSends_w (H : Api) (cur a b : Lab) (hc : cur.fits) (ha : a.fits) (hb : b.fits) (w : World) (hs : Ce w) : Calls Tryd.prog 10 #[.agg #[.int .i64 cur.l, .int .u64 cur.c, .int .i64 cur.i], .agg #[.int .i64 a.l, .int .u64 a.c, .int .i64 a.i], .agg #[.int .i64 b.l, .int .u64 b.c, .int .i64 b.i]] w (BoolP true w) := by
  obtain ⟨⟨c1, r1⟩, h1⟩ : ∃ x, sendL cur a = x := ⟨_, rfl⟩
  obtain ⟨⟨c2, r2⟩, h2⟩ : ∃ x, sendL cur b = x := ⟨_, rfl⟩
  have k2 : ∀ g1 : readsL cur a = true, ∀ hu2 : b.under a = true, readsL cur b = true := fun g1 hu2 => reads_down hc ha hb g1 hu2
  by_cases hne : c1 = 0
  · subst hne
    cases hu1 : a.under b with
    | false =>
      cases g1 : readsL cur a with
      | false => exact sends_10 H h1 h2 hu1 g1 hc ha hb hs
      | true =>
        cases hu2 : b.under a with
        | false => exact sends_11 H h1 h2 hu1 g1 hu2 hc ha hb hs
        | true => exact sends_12 H h1 h2 hu1 g1 hu2 (k2 g1 hu2) hc ha hb hs
    | true =>
      have k1 := sends_up hc ha hb (by rw [h1]) hu1
      rw [h2] at k1
      obtain rfl : c2 = 0 := k1
      cases g1 : readsL cur a with
      | false => exact sends_20 H h1 h2 hu1 g1 hc ha hb hs
      | true =>
        cases hu2 : b.under a with
        | false => exact sends_21 H h1 h2 hu1 g1 hu2 hc ha hb hs
        | true => exact sends_22 H h1 h2 hu1 g1 hu2 (k2 g1 hu2) hc ha hb hs
  · cases g1 : readsL cur a with
    | false => exact sends_00 H h1 h2 hne g1 hc ha hb hs
    | true =>
      cases hu2 : b.under a with
      | false => exact sends_01 H h1 h2 hne g1 hu2 hc ha hb hs
      | true => exact sends_02 H h1 h2 hne g1 hu2 (k2 g1 hu2) hc ha hb hs

end Go.Proofs.YtciohfeifihobaaDoor
