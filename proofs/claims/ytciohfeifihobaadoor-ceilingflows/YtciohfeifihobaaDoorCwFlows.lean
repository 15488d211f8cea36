/- CeilingFlows: what one may write one may read, and send to. -/
import Derived.Test.YtciohfeifihobaaDoorCwKit
namespace Go.Proofs.YtciohfeifihobaaDoor
open Go.RowKit Go.Proofs.Cats Go.Proofs.Cel Go.Shelf Go.Sort

theorem eqSame (a : Lab) (w : World) : (binOp .eql 24 (.agg #[.int .i64 a.l, .int .u64 a.c, .int .i64 a.i]) (.agg #[.int .i64 a.l, .int .u64 a.c, .int .i64 a.i])).run Tryd.prog w = .ok (.bool true) w := by
  have := eqL a a w
  rwa [show a.same a = true by simp [Lab.same]] at this
theorem eqSameIn (a : Lab) (w : World) : (Op.equalIn 10000 24 (.agg #[.int .i64 a.l, .int .u64 a.c, .int .i64 a.i]) (.agg #[.int .i64 a.l, .int .u64 a.c, .int .i64 a.i])).run Tryd.prog w = .ok true w := by
  have := eqInL a a w
  rwa [show a.same a = true by simp [Lab.same]] at this
set_option maxHeartbeats 2000000 in
theorem flows_w' (H : Api) {a : Lab} (h1 : sendL a a = (0, false)) (g1 : readsL a a = true) (k1 : writesL a a = true) (hc : a.fits) (ha : a.fits) {w : World} (hs : Ce w) : Calls Tryd.prog 7 #[.agg #[.int .i64 a.l, .int .u64 a.c, .int .i64 a.i], .agg #[.int .i64 a.l, .int .u64 a.c, .int .i64 a.i]] w (BoolP true w) := by
  have D := Lib.hid (Tv2.of w a a)
  have HE := Lib.hid hs
  have HF := Lib.hid (And.intro hc ha)
  have HS1 := Lib.hid h1
  have HR1 := Lib.hid g1
  have HW1 := Lib.hid k1
  clear hs hc ha h1 g1 k1
  have e1 : ∀ w, _ := fun w => eqSame a w
  have e2 : ∀ w, _ := fun w => eqSameIn a w
  go_enter Tryd.func7, Tryd.ntmps7
  go_wp2_with (go_at_call 11; refine (shown_w H _ (HE.out.more D.out.bel)).mono ?_)
  rintro e w1 ⟨rfl, hb⟩
  replace D := Lib.hid (D.out.more hb)
  clear hb
  obtain ⟨⟨p0, p1, p2⟩, ⟨q0, q1, q2⟩⟩ := D.out.cells
  go_wp2_with (go_at_call 14; refine (H.send HF.out.1 HF.out.2 HS1.out (HE.out.more D.out.bel)).mono ?_)
  rintro e w2 ⟨rfl, hb⟩
  replace D := Lib.hid (D.out.more hb)
  clear hb p0 p1 p2 q0 q1 q2
  obtain ⟨⟨p0, p1, p2⟩, ⟨q0, q1, q2⟩⟩ := D.out.cells
  go_wp2_with (go_at_call 18; refine (H.reads HF.out.1 HF.out.2 HR1.out (HE.out.more D.out.bel)).mono ?_)
  rintro e w3 ⟨rfl, hb⟩
  replace D := Lib.hid (D.out.more hb)
  clear hb p0 p1 p2 q0 q1 q2
  obtain ⟨⟨p0, p1, p2⟩, ⟨q0, q1, q2⟩⟩ := D.out.cells
  go_wp2_with (go_at_call 20; refine (H.writes HF.out.1 HF.out.2 HW1.out (HE.out.more D.out.bel)).mono ?_)
  rintro e w4 ⟨rfl, hb⟩
  replace D := Lib.hid (D.out.more hb)
  clear hb p0 p1 p2 q0 q1 q2
  obtain ⟨⟨p0, p1, p2⟩, ⟨q0, q1, q2⟩⟩ := D.out.cells
  go_wp2
  go_ret
  exact ⟨rfl, D.out.bel⟩
set_option maxHeartbeats 2000000 in
theorem flows_n1' (H : Api) {cur a : Lab} {c : Int} {r : Bool} (h1 : sendL cur a = (c, r)) (hne : c ≠ 0) (g1 : readsL cur a = false) (k1 : writesL cur a = false) (hc : cur.fits) (ha : a.fits) {w : World} (hs : Ce w) : Calls Tryd.prog 7 #[.agg #[.int .i64 cur.l, .int .u64 cur.c, .int .i64 cur.i], .agg #[.int .i64 a.l, .int .u64 a.c, .int .i64 a.i]] w (BoolP true w) := by
  have D := Lib.hid (Tv2.of w cur a)
  have HE := Lib.hid hs
  have HF := Lib.hid (And.intro hc ha)
  have HS1 := Lib.hid h1
  have HR1 := Lib.hid g1
  have HW1 := Lib.hid k1
  have hd : decide (c = 0) = false := decide_eq_false hne
  clear hs hc ha h1 g1 k1
  go_enter Tryd.func7, Tryd.ntmps7
  go_wp2_with (go_at_call 11; refine (shown_w H _ (HE.out.more D.out.bel)).mono ?_)
  rintro e w1 ⟨rfl, hb⟩
  replace D := Lib.hid (D.out.more hb)
  clear hb
  obtain ⟨⟨p0, p1, p2⟩, ⟨q0, q1, q2⟩⟩ := D.out.cells
  go_wp2_with (go_at_call 14; refine (H.send HF.out.1 HF.out.2 HS1.out (HE.out.more D.out.bel)).mono ?_)
  rintro e w2 ⟨rfl, hb⟩
  replace D := Lib.hid (D.out.more hb)
  clear hb p0 p1 p2 q0 q1 q2
  obtain ⟨⟨p0, p1, p2⟩, ⟨q0, q1, q2⟩⟩ := D.out.cells
  go_wp2_with (go_at_call 18; refine (H.reads HF.out.1 HF.out.2 HR1.out (HE.out.more D.out.bel)).mono ?_)
  rintro e w3 ⟨rfl, hb⟩
  replace D := Lib.hid (D.out.more hb)
  clear hb p0 p1 p2 q0 q1 q2
  obtain ⟨⟨p0, p1, p2⟩, ⟨q0, q1, q2⟩⟩ := D.out.cells
  go_wp2_with (go_at_call 20; refine (H.writes HF.out.1 HF.out.2 HW1.out (HE.out.more D.out.bel)).mono ?_)
  rintro e w4 ⟨rfl, hb⟩
  replace D := Lib.hid (D.out.more hb)
  clear hb p0 p1 p2 q0 q1 q2
  obtain ⟨⟨p0, p1, p2⟩, ⟨q0, q1, q2⟩⟩ := D.out.cells
  go_wp2
  go_ret
  exact ⟨rfl, D.out.bel⟩
set_option maxHeartbeats 2000000 in
theorem flows_n2' (H : Api) {cur a : Lab} (h1 : sendL cur a = (0, true)) (g1 : readsL cur a = false) (k1 : writesL cur a = false) (hc : cur.fits) (ha : a.fits) {w : World} (hs : Ce w) : Calls Tryd.prog 7 #[.agg #[.int .i64 cur.l, .int .u64 cur.c, .int .i64 cur.i], .agg #[.int .i64 a.l, .int .u64 a.c, .int .i64 a.i]] w (BoolP true w) := by
  have D := Lib.hid (Tv2.of w cur a)
  have HE := Lib.hid hs
  have HF := Lib.hid (And.intro hc ha)
  have HS1 := Lib.hid h1
  have HR1 := Lib.hid g1
  have HW1 := Lib.hid k1
  clear hs hc ha h1 g1 k1
  go_enter Tryd.func7, Tryd.ntmps7
  go_wp2_with (go_at_call 11; refine (shown_w H _ (HE.out.more D.out.bel)).mono ?_)
  rintro e w1 ⟨rfl, hb⟩
  replace D := Lib.hid (D.out.more hb)
  clear hb
  obtain ⟨⟨p0, p1, p2⟩, ⟨q0, q1, q2⟩⟩ := D.out.cells
  go_wp2_with (go_at_call 14; refine (H.send HF.out.1 HF.out.2 HS1.out (HE.out.more D.out.bel)).mono ?_)
  rintro e w2 ⟨rfl, hb⟩
  replace D := Lib.hid (D.out.more hb)
  clear hb p0 p1 p2 q0 q1 q2
  obtain ⟨⟨p0, p1, p2⟩, ⟨q0, q1, q2⟩⟩ := D.out.cells
  go_wp2_with (go_at_call 18; refine (H.reads HF.out.1 HF.out.2 HR1.out (HE.out.more D.out.bel)).mono ?_)
  rintro e w3 ⟨rfl, hb⟩
  replace D := Lib.hid (D.out.more hb)
  clear hb p0 p1 p2 q0 q1 q2
  obtain ⟨⟨p0, p1, p2⟩, ⟨q0, q1, q2⟩⟩ := D.out.cells
  go_wp2_with (go_at_call 20; refine (H.writes HF.out.1 HF.out.2 HW1.out (HE.out.more D.out.bel)).mono ?_)
  rintro e w4 ⟨rfl, hb⟩
  replace D := Lib.hid (D.out.more hb)
  clear hb p0 p1 p2 q0 q1 q2
  obtain ⟨⟨p0, p1, p2⟩, ⟨q0, q1, q2⟩⟩ := D.out.cells
  go_wp2
  go_ret
  exact ⟨rfl, D.out.bel⟩
set_option maxHeartbeats 2000000 in
theorem flows_n3' (H : Api) {cur a : Lab} {c : Int} {r : Bool} (h1 : sendL cur a = (c, r)) (hne : c ≠ 0) (g1 : readsL cur a = true) (k1 : writesL cur a = false) (hc : cur.fits) (ha : a.fits) {w : World} (hs : Ce w) : Calls Tryd.prog 7 #[.agg #[.int .i64 cur.l, .int .u64 cur.c, .int .i64 cur.i], .agg #[.int .i64 a.l, .int .u64 a.c, .int .i64 a.i]] w (BoolP true w) := by
  have D := Lib.hid (Tv2.of w cur a)
  have HE := Lib.hid hs
  have HF := Lib.hid (And.intro hc ha)
  have HS1 := Lib.hid h1
  have HR1 := Lib.hid g1
  have HW1 := Lib.hid k1
  have hd : decide (c = 0) = false := decide_eq_false hne
  clear hs hc ha h1 g1 k1
  go_enter Tryd.func7, Tryd.ntmps7
  go_wp2_with (go_at_call 11; refine (shown_w H _ (HE.out.more D.out.bel)).mono ?_)
  rintro e w1 ⟨rfl, hb⟩
  replace D := Lib.hid (D.out.more hb)
  clear hb
  obtain ⟨⟨p0, p1, p2⟩, ⟨q0, q1, q2⟩⟩ := D.out.cells
  go_wp2_with (go_at_call 14; refine (H.send HF.out.1 HF.out.2 HS1.out (HE.out.more D.out.bel)).mono ?_)
  rintro e w2 ⟨rfl, hb⟩
  replace D := Lib.hid (D.out.more hb)
  clear hb p0 p1 p2 q0 q1 q2
  obtain ⟨⟨p0, p1, p2⟩, ⟨q0, q1, q2⟩⟩ := D.out.cells
  go_wp2_with (go_at_call 18; refine (H.reads HF.out.1 HF.out.2 HR1.out (HE.out.more D.out.bel)).mono ?_)
  rintro e w3 ⟨rfl, hb⟩
  replace D := Lib.hid (D.out.more hb)
  clear hb p0 p1 p2 q0 q1 q2
  obtain ⟨⟨p0, p1, p2⟩, ⟨q0, q1, q2⟩⟩ := D.out.cells
  go_wp2_with (go_at_call 20; refine (H.writes HF.out.1 HF.out.2 HW1.out (HE.out.more D.out.bel)).mono ?_)
  rintro e w4 ⟨rfl, hb⟩
  replace D := Lib.hid (D.out.more hb)
  clear hb p0 p1 p2 q0 q1 q2
  obtain ⟨⟨p0, p1, p2⟩, ⟨q0, q1, q2⟩⟩ := D.out.cells
  go_wp2
  go_ret
  exact ⟨rfl, D.out.bel⟩
set_option maxHeartbeats 2000000 in
theorem flows_n4' (H : Api) {a : Lab} (h1 : sendL a a = (0, true)) (g1 : readsL a a = true) (k1 : writesL a a = false) (hc : a.fits) (ha : a.fits) {w : World} (hs : Ce w) : Calls Tryd.prog 7 #[.agg #[.int .i64 a.l, .int .u64 a.c, .int .i64 a.i], .agg #[.int .i64 a.l, .int .u64 a.c, .int .i64 a.i]] w (BoolP true w) := by
  have D := Lib.hid (Tv2.of w a a)
  have HE := Lib.hid hs
  have HF := Lib.hid (And.intro hc ha)
  have HS1 := Lib.hid h1
  have HR1 := Lib.hid g1
  have HW1 := Lib.hid k1
  clear hs hc ha h1 g1 k1
  have e1 : ∀ w, _ := fun w => eqSame a w
  have e2 : ∀ w, _ := fun w => eqSameIn a w
  go_enter Tryd.func7, Tryd.ntmps7
  go_wp2_with (go_at_call 11; refine (shown_w H _ (HE.out.more D.out.bel)).mono ?_)
  rintro e w1 ⟨rfl, hb⟩
  replace D := Lib.hid (D.out.more hb)
  clear hb
  obtain ⟨⟨p0, p1, p2⟩, ⟨q0, q1, q2⟩⟩ := D.out.cells
  go_wp2_with (go_at_call 14; refine (H.send HF.out.1 HF.out.2 HS1.out (HE.out.more D.out.bel)).mono ?_)
  rintro e w2 ⟨rfl, hb⟩
  replace D := Lib.hid (D.out.more hb)
  clear hb p0 p1 p2 q0 q1 q2
  obtain ⟨⟨p0, p1, p2⟩, ⟨q0, q1, q2⟩⟩ := D.out.cells
  go_wp2_with (go_at_call 18; refine (H.reads HF.out.1 HF.out.2 HR1.out (HE.out.more D.out.bel)).mono ?_)
  rintro e w3 ⟨rfl, hb⟩
  replace D := Lib.hid (D.out.more hb)
  clear hb p0 p1 p2 q0 q1 q2
  obtain ⟨⟨p0, p1, p2⟩, ⟨q0, q1, q2⟩⟩ := D.out.cells
  go_wp2_with (go_at_call 20; refine (H.writes HF.out.1 HF.out.2 HW1.out (HE.out.more D.out.bel)).mono ?_)
  rintro e w4 ⟨rfl, hb⟩
  replace D := Lib.hid (D.out.more hb)
  clear hb p0 p1 p2 q0 q1 q2
  obtain ⟨⟨p0, p1, p2⟩, ⟨q0, q1, q2⟩⟩ := D.out.cells
  go_wp2
  go_ret
  exact ⟨rfl, D.out.bel⟩
theorem ceilingFlows_w (H : Api) (cur a : Lab) (hc : cur.fits) (ha : a.fits) (w : World) (hs : Ce w) : Calls Tryd.prog 7 #[.agg #[.int .i64 cur.l, .int .u64 cur.c, .int .i64 cur.i], .agg #[.int .i64 a.l, .int .u64 a.c, .int .i64 a.i]] w (BoolP true w) := by
  cases k1 : writesL cur a with
  | true =>
    obtain ⟨g1, h1, rfl⟩ := writes_reads ha k1
    exact flows_w' H h1 g1 k1 hc ha hs
  | false =>
    obtain ⟨f1, f2⟩ := flows_no hc ha k1
    obtain ⟨⟨c, r⟩, h1⟩ : ∃ x, sendL cur a = x := ⟨_, rfl⟩
    rw [h1] at f1 f2
    simp only at f1 f2
    by_cases hne : c = 0
    · subst hne
      obtain rfl : r = true := by rcases f2 with h | h; exact absurd rfl h; exact h
      cases g1 : readsL cur a with
      | false => exact flows_n2' H h1 g1 k1 hc ha hs
      | true =>
        rw [g1] at f1
        obtain rfl : cur = a := by
          rcases f1 with h | h | h
          · cases h
          · exact absurd rfl h
          · exact h
        exact flows_n4' H h1 g1 k1 hc ha hs
    · cases g1 : readsL cur a with
      | false => exact flows_n1' H h1 hne g1 k1 hc ha hs
      | true => exact flows_n3' H h1 hne g1 k1 hc ha hs

end Go.Proofs.YtciohfeifihobaaDoor
