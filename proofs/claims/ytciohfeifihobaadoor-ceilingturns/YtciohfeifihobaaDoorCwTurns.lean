/- CeilingTurns: whatever the order, where one ends is the same. -/
import Derived.Test.YtciohfeifihobaaDoorCwRises
import Derived.Test.YtciohfeifihobaaDoorLabIn
namespace Go.Proofs.YtciohfeifihobaaDoor
open Go.RowKit Go.Proofs.Cats Go.Proofs.Cel Go.Shelf Go.Sort

theorem labs_two (W : World) {a b : Lab} (ha : a.fits) (hb : b.fits) : Labs (W.alloc (.cells #[.int .i64 a.l, .int .u64 a.c, .int .i64 a.i, .int .i64 b.l, .int .u64 b.c, .int .i64 b.i] 24)).heap.size (W.alloc (.cells #[.int .i64 a.l, .int .u64 a.c, .int .i64 a.i, .int .i64 b.l, .int .u64 b.c, .int .i64 b.i] 24)) (.slice (some ⟨W.heap.size, 0, none⟩) 2 2) [a, b] := by
  refine ⟨_, _, rfl, fun _ => ⟨W.heap.size, 0, rfl, by rw [World.size_alloc]; omega, fun j x hj => ?_⟩⟩
  cases j with
  | zero =>
    obtain rfl : a = x := Option.some.inj hj
    exact ⟨ha, by simp, by simp, by simp⟩
  | succ j =>
    cases j with
    | zero =>
      obtain rfl : b = x := Option.some.inj hj
      exact ⟨hb, by simp, by simp, by simp⟩
    | succ j =>
      cases hj
theorem labs_two' (W : World) (o : Obj) {a b : Lab} (ha : a.fits) (hb : b.fits) : Labs ((W.alloc o).alloc (.cells #[.int .i64 a.l, .int .u64 a.c, .int .i64 a.i, .int .i64 b.l, .int .u64 b.c, .int .i64 b.i] 24)).heap.size ((W.alloc o).alloc (.cells #[.int .i64 a.l, .int .u64 a.c, .int .i64 a.i, .int .i64 b.l, .int .u64 b.c, .int .i64 b.i] 24)) (.slice (some ⟨W.heap.size + 1, 0, none⟩) 2 2) [a, b] := by
  have := labs_two (W.alloc o) ha hb
  rwa [World.size_alloc W o] at this
theorem labs_three (W : World) {a b c : Lab} (ha : a.fits) (hb : b.fits) (hc : c.fits) : Labs (W.alloc (.cells #[.int .i64 a.l, .int .u64 a.c, .int .i64 a.i, .int .i64 b.l, .int .u64 b.c, .int .i64 b.i, .int .i64 c.l, .int .u64 c.c, .int .i64 c.i] 24)).heap.size (W.alloc (.cells #[.int .i64 a.l, .int .u64 a.c, .int .i64 a.i, .int .i64 b.l, .int .u64 b.c, .int .i64 b.i, .int .i64 c.l, .int .u64 c.c, .int .i64 c.i] 24)) (.slice (some ⟨W.heap.size, 0, none⟩) 3 3) [a, b, c] := by
  refine ⟨_, _, rfl, fun _ => ⟨W.heap.size, 0, rfl, by rw [World.size_alloc]; omega, fun j x hj => ?_⟩⟩
  cases j with
  | zero =>
    obtain rfl : a = x := Option.some.inj hj
    exact ⟨ha, by simp, by simp, by simp⟩
  | succ j =>
    cases j with
    | zero =>
      obtain rfl : b = x := Option.some.inj hj
      exact ⟨hb, by simp, by simp, by simp⟩
    | succ j =>
      cases j with
      | zero =>
        obtain rfl : c = x := Option.some.inj hj
        exact ⟨hc, by simp, by simp, by simp⟩
      | succ j =>
        cases hj
theorem labs_three' (W : World) (o : Obj) {a b c : Lab} (ha : a.fits) (hb : b.fits) (hc : c.fits) : Labs ((W.alloc o).alloc (.cells #[.int .i64 a.l, .int .u64 a.c, .int .i64 a.i, .int .i64 b.l, .int .u64 b.c, .int .i64 b.i, .int .i64 c.l, .int .u64 c.c, .int .i64 c.i] 24)).heap.size ((W.alloc o).alloc (.cells #[.int .i64 a.l, .int .u64 a.c, .int .i64 a.i, .int .i64 b.l, .int .u64 b.c, .int .i64 b.i, .int .i64 c.l, .int .u64 c.c, .int .i64 c.i] 24)) (.slice (some ⟨W.heap.size + 1, 0, none⟩) 3 3) [a, b, c] := by
  have := labs_three (W.alloc o) ha hb hc
  rwa [World.size_alloc W o] at this
set_option maxRecDepth 100000 in
set_option maxHeartbeats 4000000 in
theorem turns_y' (H : Api) {cur a b high x : Lab} (h1 : pathL cur [a, b] high = (0, 2, x)) (h2 : pathL cur [b, a] high = (0, 2, x)) (k1 : toldJ Lab.bot [cur, a, b] = x) (k2 : toldE [cur, a, b] = 0) (hc : cur.fits) (ha : a.fits) (hb : b.fits) (hh : high.fits) {w : World} (hs : Ce w) : Calls Tryd.prog 6 #[.agg #[.int .i64 cur.l, .int .u64 cur.c, .int .i64 cur.i], .agg #[.int .i64 a.l, .int .u64 a.c, .int .i64 a.i], .agg #[.int .i64 b.l, .int .u64 b.c, .int .i64 b.i], .agg #[.int .i64 high.l, .int .u64 high.c, .int .i64 high.i]] w (BoolP true w) := by
  have e1 := selfE x
  have e2 := selfEIn x
  have D := Lib.hid (Tv4.of w cur a b high)
  have HE := Lib.hid hs
  have HF := Lib.hid (And.intro hc (And.intro ha (And.intro hb hh)))
  have HS1 := Lib.hid h1
  have HS2 := Lib.hid h2
  have HL := Lib.hid (And.intro k1 k2)
  clear hs hc ha hb hh h1 h2 k1 k2
  go_enter Tryd.func6, Tryd.ntmps6
  go_wp2_with (go_at_call 11; refine (shown_w H _ (HE.out.more D.out.bel)).mono ?_)
  rintro e w1 ⟨rfl, hb⟩
  replace D := Lib.hid (D.out.more hb)
  clear hb
  obtain ⟨⟨p0, p1, p2⟩, ⟨q0, q1, q2⟩, ⟨r0, r1, r2⟩, ⟨s0, s1, s2⟩⟩ := D.out.cells
  clear s0 s1 s2
  replace D := Lib.hid (D.out.more (Below.new w1 (.cells #[.int .i64 a.l, .int .u64 a.c, .int .i64 a.i, .int .i64 b.l, .int .u64 b.c, .int .i64 b.i] 24)))
  obtain ⟨_, _, _, s0, s1, s2⟩ := D.out.cells
  go_wp2_with (go_at_call 22; refine (H.path HF.out.1 HF.out.2.2.2 (labs_two w1 HF.out.2.1 HF.out.2.2.1) (by simp) (Nat.le_refl _) (by unfold maxLen; omega) HS1.out (HE.out.more D.out.bel)).mono ?_)
  rintro e w2 ⟨rfl, hb⟩
  replace D := Lib.hid (D.out.more hb)
  clear hb p0 p1 p2 q0 q1 q2 r0 r1 r2 s0 s1 s2
  replace D := Lib.hid (D.out.more (Below.new w2 (.cells #[.int .i64 x.l, .int .u64 x.c, .int .i64 x.i] 24)))
  have X := Lib.hid (BoxL.new w2 x)
  obtain ⟨⟨p0, p1, p2⟩, ⟨q0, q1, q2⟩, ⟨r0, r1, r2⟩, ⟨s0, s1, s2⟩⟩ := D.out.cells
  clear s0 s1 s2
  replace D := Lib.hid (D.out.more (Below.new (w2.alloc (.cells #[.int .i64 x.l, .int .u64 x.c, .int .i64 x.i] 24)) (.cells #[.int .i64 b.l, .int .u64 b.c, .int .i64 b.i, .int .i64 a.l, .int .u64 a.c, .int .i64 a.i] 24)))
  replace X := Lib.hid (X.out.more (Below.new (w2.alloc (.cells #[.int .i64 x.l, .int .u64 x.c, .int .i64 x.i] 24)) (.cells #[.int .i64 b.l, .int .u64 b.c, .int .i64 b.i, .int .i64 a.l, .int .u64 a.c, .int .i64 a.i] 24)))
  obtain ⟨_, _, _, s0, s1, s2⟩ := D.out.cells
  go_wp2_with (go_at_call 22; refine (H.path HF.out.1 HF.out.2.2.2 (labs_two' w2 (.cells #[.int .i64 x.l, .int .u64 x.c, .int .i64 x.i] 24) HF.out.2.2.1 HF.out.2.1) (by simp) (Nat.le_refl _) (by unfold maxLen; omega) HS2.out (HE.out.more D.out.bel)).mono ?_)
  rintro e w3 ⟨rfl, hb⟩
  replace D := Lib.hid (D.out.more hb)
  replace X := Lib.hid (X.out.more hb)
  clear hb p0 p1 p2 q0 q1 q2 r0 r1 r2 s0 s1 s2
  replace D := Lib.hid (D.out.more (Below.new w3 (.cells #[.int .i64 x.l, .int .u64 x.c, .int .i64 x.i] 24)))
  replace X := Lib.hid (X.out.more (Below.new w3 (.cells #[.int .i64 x.l, .int .u64 x.c, .int .i64 x.i] 24)))
  have Y := Lib.hid (BoxL.new w3 x)
  obtain ⟨⟨p0, p1, p2⟩, ⟨q0, q1, q2⟩, ⟨r0, r1, r2⟩, ⟨s0, s1, s2⟩⟩ := D.out.cells
  clear s0 s1 s2
  replace D := Lib.hid (D.out.more (Below.new (w3.alloc (.cells #[.int .i64 x.l, .int .u64 x.c, .int .i64 x.i] 24)) (.cells #[.int .i64 cur.l, .int .u64 cur.c, .int .i64 cur.i, .int .i64 a.l, .int .u64 a.c, .int .i64 a.i, .int .i64 b.l, .int .u64 b.c, .int .i64 b.i] 24)))
  replace X := Lib.hid (X.out.more (Below.new (w3.alloc (.cells #[.int .i64 x.l, .int .u64 x.c, .int .i64 x.i] 24)) (.cells #[.int .i64 cur.l, .int .u64 cur.c, .int .i64 cur.i, .int .i64 a.l, .int .u64 a.c, .int .i64 a.i, .int .i64 b.l, .int .u64 b.c, .int .i64 b.i] 24)))
  replace Y := Lib.hid (Y.out.more (Below.new (w3.alloc (.cells #[.int .i64 x.l, .int .u64 x.c, .int .i64 x.i] 24)) (.cells #[.int .i64 cur.l, .int .u64 cur.c, .int .i64 cur.i, .int .i64 a.l, .int .u64 a.c, .int .i64 a.i, .int .i64 b.l, .int .u64 b.c, .int .i64 b.i] 24)))
  obtain ⟨_, _, _, s0, s1, s2⟩ := D.out.cells
  go_wp2_with (go_at_call 25; refine (Least_w (by simp) (labs_three' w3 (.cells #[.int .i64 x.l, .int .u64 x.c, .int .i64 x.i] 24) HF.out.1 HF.out.2.1 HF.out.2.2.1) HL.out.1 HL.out.2 (HE.out.more D.out.bel)).mono ?_)
  rintro e w4 ⟨rfl, hb⟩
  replace D := Lib.hid (D.out.more hb)
  replace X := Lib.hid (X.out.more hb)
  replace Y := Lib.hid (Y.out.more hb)
  clear hb p0 p1 p2 q0 q1 q2 r0 r1 r2 s0 s1 s2
  replace D := Lib.hid (D.out.more (Below.new w4 (.cells #[.int .i64 x.l, .int .u64 x.c, .int .i64 x.i] 24)))
  replace X := Lib.hid (X.out.more (Below.new w4 (.cells #[.int .i64 x.l, .int .u64 x.c, .int .i64 x.i] 24)))
  replace Y := Lib.hid (Y.out.more (Below.new w4 (.cells #[.int .i64 x.l, .int .u64 x.c, .int .i64 x.i] 24)))
  have Z := Lib.hid (BoxL.new w4 x)
  obtain ⟨x0, x1, x2⟩ := X.out.lab
  obtain ⟨y0, y1, y2⟩ := Y.out.lab
  obtain ⟨z0, z1, z2⟩ := Z.out.lab
  go_wp2
  go_ret
  exact ⟨rfl, D.out.bel⟩
set_option maxRecDepth 100000 in
set_option maxHeartbeats 4000000 in
theorem turns_c (H : Api) {cur a b high x y z : Lab} {n m : Nat} {c g : Int} (h1 : pathL cur [a, b] high = (120, n, x)) (h2 : pathL cur [b, a] high = (c, m, y)) (hne : c ≠ 0) (k1 : toldJ Lab.bot [cur, a, b] = z) (k2 : toldE [cur, a, b] = g) (hc : cur.fits) (ha : a.fits) (hb : b.fits) (hh : high.fits) {w : World} (hs : Ce w) : Calls Tryd.prog 6 #[.agg #[.int .i64 cur.l, .int .u64 cur.c, .int .i64 cur.i], .agg #[.int .i64 a.l, .int .u64 a.c, .int .i64 a.i], .agg #[.int .i64 b.l, .int .u64 b.c, .int .i64 b.i], .agg #[.int .i64 high.l, .int .u64 high.c, .int .i64 high.i]] w (BoolP true w) := by
  have hd : decide (c = 0) = false := decide_eq_false hne
  have hd2 : (c != 0) = true := by simpa using hne
  have D := Lib.hid (Tv4.of w cur a b high)
  have HE := Lib.hid hs
  have HF := Lib.hid (And.intro hc (And.intro ha (And.intro hb hh)))
  have HS1 := Lib.hid h1
  have HS2 := Lib.hid h2
  have HL := Lib.hid (And.intro k1 k2)
  clear hs hc ha hb hh h1 h2 k1 k2
  go_enter Tryd.func6, Tryd.ntmps6
  go_wp2_with (go_at_call 11; refine (shown_w H _ (HE.out.more D.out.bel)).mono ?_)
  rintro e w1 ⟨rfl, hb⟩
  replace D := Lib.hid (D.out.more hb)
  clear hb
  obtain ⟨⟨p0, p1, p2⟩, ⟨q0, q1, q2⟩, ⟨r0, r1, r2⟩, ⟨s0, s1, s2⟩⟩ := D.out.cells
  clear s0 s1 s2
  replace D := Lib.hid (D.out.more (Below.new w1 (.cells #[.int .i64 a.l, .int .u64 a.c, .int .i64 a.i, .int .i64 b.l, .int .u64 b.c, .int .i64 b.i] 24)))
  obtain ⟨_, _, _, s0, s1, s2⟩ := D.out.cells
  go_wp2_with (go_at_call 22; refine (H.path HF.out.1 HF.out.2.2.2 (labs_two w1 HF.out.2.1 HF.out.2.2.1) (by simp) (Nat.le_refl _) (by unfold maxLen; omega) HS1.out (HE.out.more D.out.bel)).mono ?_)
  rintro e w2 ⟨rfl, hb⟩
  replace D := Lib.hid (D.out.more hb)
  clear hb p0 p1 p2 q0 q1 q2 r0 r1 r2 s0 s1 s2
  replace D := Lib.hid (D.out.more (Below.new w2 (.cells #[.int .i64 x.l, .int .u64 x.c, .int .i64 x.i] 24)))
  have X := Lib.hid (BoxL.new w2 x)
  obtain ⟨⟨p0, p1, p2⟩, ⟨q0, q1, q2⟩, ⟨r0, r1, r2⟩, ⟨s0, s1, s2⟩⟩ := D.out.cells
  clear s0 s1 s2
  replace D := Lib.hid (D.out.more (Below.new (w2.alloc (.cells #[.int .i64 x.l, .int .u64 x.c, .int .i64 x.i] 24)) (.cells #[.int .i64 b.l, .int .u64 b.c, .int .i64 b.i, .int .i64 a.l, .int .u64 a.c, .int .i64 a.i] 24)))
  replace X := Lib.hid (X.out.more (Below.new (w2.alloc (.cells #[.int .i64 x.l, .int .u64 x.c, .int .i64 x.i] 24)) (.cells #[.int .i64 b.l, .int .u64 b.c, .int .i64 b.i, .int .i64 a.l, .int .u64 a.c, .int .i64 a.i] 24)))
  obtain ⟨_, _, _, s0, s1, s2⟩ := D.out.cells
  go_wp2_with (go_at_call 22; refine (H.path HF.out.1 HF.out.2.2.2 (labs_two' w2 (.cells #[.int .i64 x.l, .int .u64 x.c, .int .i64 x.i] 24) HF.out.2.2.1 HF.out.2.1) (by simp) (Nat.le_refl _) (by unfold maxLen; omega) HS2.out (HE.out.more D.out.bel)).mono ?_)
  rintro e w3 ⟨rfl, hb⟩
  replace D := Lib.hid (D.out.more hb)
  replace X := Lib.hid (X.out.more hb)
  clear hb p0 p1 p2 q0 q1 q2 r0 r1 r2 s0 s1 s2
  replace D := Lib.hid (D.out.more (Below.new w3 (.cells #[.int .i64 y.l, .int .u64 y.c, .int .i64 y.i] 24)))
  replace X := Lib.hid (X.out.more (Below.new w3 (.cells #[.int .i64 y.l, .int .u64 y.c, .int .i64 y.i] 24)))
  have Y := Lib.hid (BoxL.new w3 y)
  obtain ⟨⟨p0, p1, p2⟩, ⟨q0, q1, q2⟩, ⟨r0, r1, r2⟩, ⟨s0, s1, s2⟩⟩ := D.out.cells
  clear s0 s1 s2
  replace D := Lib.hid (D.out.more (Below.new (w3.alloc (.cells #[.int .i64 y.l, .int .u64 y.c, .int .i64 y.i] 24)) (.cells #[.int .i64 cur.l, .int .u64 cur.c, .int .i64 cur.i, .int .i64 a.l, .int .u64 a.c, .int .i64 a.i, .int .i64 b.l, .int .u64 b.c, .int .i64 b.i] 24)))
  replace X := Lib.hid (X.out.more (Below.new (w3.alloc (.cells #[.int .i64 y.l, .int .u64 y.c, .int .i64 y.i] 24)) (.cells #[.int .i64 cur.l, .int .u64 cur.c, .int .i64 cur.i, .int .i64 a.l, .int .u64 a.c, .int .i64 a.i, .int .i64 b.l, .int .u64 b.c, .int .i64 b.i] 24)))
  replace Y := Lib.hid (Y.out.more (Below.new (w3.alloc (.cells #[.int .i64 y.l, .int .u64 y.c, .int .i64 y.i] 24)) (.cells #[.int .i64 cur.l, .int .u64 cur.c, .int .i64 cur.i, .int .i64 a.l, .int .u64 a.c, .int .i64 a.i, .int .i64 b.l, .int .u64 b.c, .int .i64 b.i] 24)))
  obtain ⟨_, _, _, s0, s1, s2⟩ := D.out.cells
  go_wp2_with (go_at_call 25; refine (Least_w (by simp) (labs_three' w3 (.cells #[.int .i64 y.l, .int .u64 y.c, .int .i64 y.i] 24) HF.out.1 HF.out.2.1 HF.out.2.2.1) HL.out.1 HL.out.2 (HE.out.more D.out.bel)).mono ?_)
  rintro e w4 ⟨rfl, hb⟩
  replace D := Lib.hid (D.out.more hb)
  replace X := Lib.hid (X.out.more hb)
  replace Y := Lib.hid (Y.out.more hb)
  clear hb p0 p1 p2 q0 q1 q2 r0 r1 r2 s0 s1 s2
  replace D := Lib.hid (D.out.more (Below.new w4 (.cells #[.int .i64 z.l, .int .u64 z.c, .int .i64 z.i] 24)))
  replace X := Lib.hid (X.out.more (Below.new w4 (.cells #[.int .i64 z.l, .int .u64 z.c, .int .i64 z.i] 24)))
  replace Y := Lib.hid (Y.out.more (Below.new w4 (.cells #[.int .i64 z.l, .int .u64 z.c, .int .i64 z.i] 24)))
  have Z := Lib.hid (BoxL.new w4 z)
  obtain ⟨x0, x1, x2⟩ := X.out.lab
  obtain ⟨y0, y1, y2⟩ := Y.out.lab
  obtain ⟨z0, z1, z2⟩ := Z.out.lab
  go_wp2
  go_ret
  try rw [hd2]
  exact ⟨rfl, D.out.bel⟩
set_option maxRecDepth 100000 in
set_option maxHeartbeats 4000000 in
theorem turns_l (H : Api) {cur a b high y z : Lab} {m : Nat} {c g : Int} (h1 : pathL cur [a, b] high = (20, 0, Lab.zero)) (h2 : pathL cur [b, a] high = (c, m, y)) (hne : c ≠ 0) (k1 : toldJ Lab.bot [cur, a, b] = z) (k2 : toldE [cur, a, b] = g) (hc : cur.fits) (ha : a.fits) (hb : b.fits) (hh : high.fits) {w : World} (hs : Ce w) : Calls Tryd.prog 6 #[.agg #[.int .i64 cur.l, .int .u64 cur.c, .int .i64 cur.i], .agg #[.int .i64 a.l, .int .u64 a.c, .int .i64 a.i], .agg #[.int .i64 b.l, .int .u64 b.c, .int .i64 b.i], .agg #[.int .i64 high.l, .int .u64 high.c, .int .i64 high.i]] w (BoolP true w) := by
  have e1 := zeroE
  have e2 := zeroEIn
  have hd : decide (c = 0) = false := decide_eq_false hne
  have hd2 : (c != 0) = true := by simpa using hne
  have D := Lib.hid (Tv4.of w cur a b high)
  have HE := Lib.hid hs
  have HF := Lib.hid (And.intro hc (And.intro ha (And.intro hb hh)))
  have HS1 := Lib.hid h1
  have HS2 := Lib.hid h2
  have HL := Lib.hid (And.intro k1 k2)
  clear hs hc ha hb hh h1 h2 k1 k2
  go_enter Tryd.func6, Tryd.ntmps6
  go_wp2_with (go_at_call 11; refine (shown_w H _ (HE.out.more D.out.bel)).mono ?_)
  rintro e w1 ⟨rfl, hb⟩
  replace D := Lib.hid (D.out.more hb)
  clear hb
  obtain ⟨⟨p0, p1, p2⟩, ⟨q0, q1, q2⟩, ⟨r0, r1, r2⟩, ⟨s0, s1, s2⟩⟩ := D.out.cells
  clear s0 s1 s2
  replace D := Lib.hid (D.out.more (Below.new w1 (.cells #[.int .i64 a.l, .int .u64 a.c, .int .i64 a.i, .int .i64 b.l, .int .u64 b.c, .int .i64 b.i] 24)))
  obtain ⟨_, _, _, s0, s1, s2⟩ := D.out.cells
  go_wp2_with (go_at_call 22; refine (H.path HF.out.1 HF.out.2.2.2 (labs_two w1 HF.out.2.1 HF.out.2.2.1) (by simp) (Nat.le_refl _) (by unfold maxLen; omega) HS1.out (HE.out.more D.out.bel)).mono ?_)
  rintro e w2 ⟨rfl, hb⟩
  replace D := Lib.hid (D.out.more hb)
  clear hb p0 p1 p2 q0 q1 q2 r0 r1 r2 s0 s1 s2
  replace D := Lib.hid (D.out.more (Below.new w2 (.cells #[.int .i64 Lab.zero.l, .int .u64 Lab.zero.c, .int .i64 Lab.zero.i] 24)))
  have X := Lib.hid (BoxL.new w2 Lab.zero)
  obtain ⟨⟨p0, p1, p2⟩, ⟨q0, q1, q2⟩, ⟨r0, r1, r2⟩, ⟨s0, s1, s2⟩⟩ := D.out.cells
  clear s0 s1 s2
  replace D := Lib.hid (D.out.more (Below.new (w2.alloc (.cells #[.int .i64 Lab.zero.l, .int .u64 Lab.zero.c, .int .i64 Lab.zero.i] 24)) (.cells #[.int .i64 b.l, .int .u64 b.c, .int .i64 b.i, .int .i64 a.l, .int .u64 a.c, .int .i64 a.i] 24)))
  replace X := Lib.hid (X.out.more (Below.new (w2.alloc (.cells #[.int .i64 Lab.zero.l, .int .u64 Lab.zero.c, .int .i64 Lab.zero.i] 24)) (.cells #[.int .i64 b.l, .int .u64 b.c, .int .i64 b.i, .int .i64 a.l, .int .u64 a.c, .int .i64 a.i] 24)))
  obtain ⟨_, _, _, s0, s1, s2⟩ := D.out.cells
  go_wp2_with (go_at_call 22; refine (H.path HF.out.1 HF.out.2.2.2 (labs_two' w2 (.cells #[.int .i64 Lab.zero.l, .int .u64 Lab.zero.c, .int .i64 Lab.zero.i] 24) HF.out.2.2.1 HF.out.2.1) (by simp) (Nat.le_refl _) (by unfold maxLen; omega) HS2.out (HE.out.more D.out.bel)).mono ?_)
  rintro e w3 ⟨rfl, hb⟩
  replace D := Lib.hid (D.out.more hb)
  replace X := Lib.hid (X.out.more hb)
  clear hb p0 p1 p2 q0 q1 q2 r0 r1 r2 s0 s1 s2
  replace D := Lib.hid (D.out.more (Below.new w3 (.cells #[.int .i64 y.l, .int .u64 y.c, .int .i64 y.i] 24)))
  replace X := Lib.hid (X.out.more (Below.new w3 (.cells #[.int .i64 y.l, .int .u64 y.c, .int .i64 y.i] 24)))
  have Y := Lib.hid (BoxL.new w3 y)
  obtain ⟨⟨p0, p1, p2⟩, ⟨q0, q1, q2⟩, ⟨r0, r1, r2⟩, ⟨s0, s1, s2⟩⟩ := D.out.cells
  clear s0 s1 s2
  replace D := Lib.hid (D.out.more (Below.new (w3.alloc (.cells #[.int .i64 y.l, .int .u64 y.c, .int .i64 y.i] 24)) (.cells #[.int .i64 cur.l, .int .u64 cur.c, .int .i64 cur.i, .int .i64 a.l, .int .u64 a.c, .int .i64 a.i, .int .i64 b.l, .int .u64 b.c, .int .i64 b.i] 24)))
  replace X := Lib.hid (X.out.more (Below.new (w3.alloc (.cells #[.int .i64 y.l, .int .u64 y.c, .int .i64 y.i] 24)) (.cells #[.int .i64 cur.l, .int .u64 cur.c, .int .i64 cur.i, .int .i64 a.l, .int .u64 a.c, .int .i64 a.i, .int .i64 b.l, .int .u64 b.c, .int .i64 b.i] 24)))
  replace Y := Lib.hid (Y.out.more (Below.new (w3.alloc (.cells #[.int .i64 y.l, .int .u64 y.c, .int .i64 y.i] 24)) (.cells #[.int .i64 cur.l, .int .u64 cur.c, .int .i64 cur.i, .int .i64 a.l, .int .u64 a.c, .int .i64 a.i, .int .i64 b.l, .int .u64 b.c, .int .i64 b.i] 24)))
  obtain ⟨_, _, _, s0, s1, s2⟩ := D.out.cells
  go_wp2_with (go_at_call 25; refine (Least_w (by simp) (labs_three' w3 (.cells #[.int .i64 y.l, .int .u64 y.c, .int .i64 y.i] 24) HF.out.1 HF.out.2.1 HF.out.2.2.1) HL.out.1 HL.out.2 (HE.out.more D.out.bel)).mono ?_)
  rintro e w4 ⟨rfl, hb⟩
  replace D := Lib.hid (D.out.more hb)
  replace X := Lib.hid (X.out.more hb)
  replace Y := Lib.hid (Y.out.more hb)
  clear hb p0 p1 p2 q0 q1 q2 r0 r1 r2 s0 s1 s2
  replace D := Lib.hid (D.out.more (Below.new w4 (.cells #[.int .i64 z.l, .int .u64 z.c, .int .i64 z.i] 24)))
  replace X := Lib.hid (X.out.more (Below.new w4 (.cells #[.int .i64 z.l, .int .u64 z.c, .int .i64 z.i] 24)))
  replace Y := Lib.hid (Y.out.more (Below.new w4 (.cells #[.int .i64 z.l, .int .u64 z.c, .int .i64 z.i] 24)))
  have Z := Lib.hid (BoxL.new w4 z)
  obtain ⟨x0, x1, x2⟩ := X.out.lab
  obtain ⟨y0, y1, y2⟩ := Y.out.lab
  obtain ⟨z0, z1, z2⟩ := Z.out.lab
  go_wp2
  go_ret
  try rw [hd2]
  exact ⟨rfl, D.out.bel⟩
theorem ceilingTurns_w (H : Api) (cur a b high : Lab) (hc : cur.fits) (ha : a.fits) (hb : b.fits) (hh : high.fits) (w : World) (hs : Ce w) : Calls Tryd.prog 6 #[.agg #[.int .i64 cur.l, .int .u64 cur.c, .int .i64 cur.i], .agg #[.int .i64 a.l, .int .u64 a.c, .int .i64 a.i], .agg #[.int .i64 b.l, .int .u64 b.c, .int .i64 b.i], .agg #[.int .i64 high.l, .int .u64 high.c, .int .i64 high.i]] w (BoolP true w) := by
  obtain ⟨⟨c1, n1, x⟩, h1⟩ : ∃ x, pathL cur [a, b] high = x := ⟨_, rfl⟩
  by_cases h0 : c1 = 0
  · subst h0
    obtain ⟨rfl, h2, k2, k1⟩ := turns_yes hc ha hb hh h1
    exact turns_y' H h1 h2 k1 k2 hc ha hb hh hs
  · obtain ⟨hne, k⟩ := turns_no hc ha hb hh h1 h0
    obtain ⟨⟨c2, n2, y⟩, h2⟩ : ∃ x, pathL cur [b, a] high = x := ⟨_, rfl⟩
    rw [h2] at hne
    rcases k with rfl | ⟨rfl, rfl, rfl⟩
    · exact turns_c H h1 h2 hne rfl rfl hc ha hb hh hs
    · exact turns_l H h1 h2 hne rfl rfl hc ha hb hh hs

end Go.Proofs.YtciohfeifihobaaDoor
