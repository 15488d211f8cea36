/- The document's Gain. -/
import Derived.Test.YtciohfeifihobaaDoorCeRefF
namespace Go.Proofs.YtciohfeifihobaaDoor
open Go.RowKit Go.Proofs.Cats Go.Proofs.Cel Go.Shelf

theorem BoxL.set0 {W : World} {B : Nat} {a : Lab} (v : Int) (h : BoxL W B a) : BoxL (W.setCell ⟨B, 0, none⟩ (.int .i64 v)) B ⟨v, a.c, a.i⟩ := by
  have h1 := heap_set (i := 0) (.int .i64 v) h
  simpa [BoxL] using h1
theorem BoxL.set2 {W : World} {B : Nat} {a : Lab} (v : Int) (h : BoxL W B a) : BoxL (W.setCell ⟨B, 2, none⟩ (.int .i64 v)) B ⟨a.l, a.c, v⟩ := by
  have h1 := heap_set (i := 2) (.int .i64 v) h
  simpa [BoxL] using h1
def LssP (n : Nat) (w : World) (e : Ending) (w' : World) : Prop := e = .returned (.int .u64 (n : Int)) ∧ Below w.heap.size w w'
theorem RLess_w {a b n : Nat} (ha : U64 a) (hb : U64 b) (h : lessN a b = n) {w : World} : Calls Tryd.prog 36 #[.int .u64 (a : Int), .int .u64 (b : Int)] w (LssP n w) := by
  refine (refLess_any a b ha hb w).mono ?_
  rintro e w' ⟨he, rfl⟩
  exact ⟨by rw [he, h], Below.refl _ _⟩
/-- What the walk of Gain carries. -/
structure GnS (w W : World) (cur a : Lab) : Prop where
  b : Below w.heap.size w W
  c : BoxL W w.heap.size cur
  a : BoxL W (w.heap.size + 1) a
  r : BoxL W (w.heap.size + 1 + 1) Lab.zero
theorem GnS.more {w W W' : World} {cur a : Lab} (k : GnS w W cur a) (hb : Below W.heap.size W W') : GnS w W' cur a := ⟨below_more k.b hb, k.c.more hb, k.a.more hb, k.r.more hb⟩
theorem GnS.set {w W : World} {cur a : Lab} {X i : Nat} {v : Value} (k : GnS w W cur a) (hX : w.heap.size + 1 + 1 < X) : GnS w (W.setCell ⟨X, i, none⟩ v) cur a := ⟨k.b.setCell (p := ⟨X, i, none⟩) (by simp only; omega) v, k.c.other (by omega), k.a.other (by omega), k.r.other (by omega)⟩

set_option maxRecDepth 100000 in
set_option maxHeartbeats 4000000 in
theorem RGain_0 {cur a : Lab} {w : World} (hc : cur.fits) (ha : a.fits) (hr : cur.right = false) :
    Calls Tryd.prog 17 #[.agg #[.int .i64 cur.l, .int .u64 cur.c, .int .i64 cur.i], .agg #[.int .i64 a.l, .int .u64 a.c, .int .i64 a.i]] w (LaP 20 Lab.zero w) := by
  obtain ⟨hB, h1, h2, h3⟩ := three_boxZ w cur a
  have HB := Lib.hid (show GnS w _ cur a from ⟨hB, h1, h2, h3⟩)
  obtain ⟨p0, p1, p2⟩ := h1.lab
  have HF := Lib.hid (And.intro hc ha)
  have HC := Lib.hid (fun W => RRight_w (w := W) hr)
  clear hB h1 h2 h3 hc ha hr
  go_enter Tryd.func17, Tryd.ntmps17
  go_wp2_with (go_at_call 32; refine (HC.out _).mono ?_)
  rintro e w1 ⟨rfl, hb1⟩
  have HS := Lib.hid (HB.out.more hb1)
  obtain ⟨z0, z1, z2⟩ := HS.out.r.lab
  obtain ⟨fz0, fz1, fz2⟩ := HS.out.r.frozen
  clear hb1 p0 p1 p2
  go_wp2
  have HU := Lib.hid (show Below w.heap.size w (((w1.setCell ⟨w.heap.size + 1 + 1, 0, none⟩ (.int .i64 0)).setCell ⟨w.heap.size + 1 + 1, 1, none⟩ (.int .u64 0)).setCell ⟨w.heap.size + 1 + 1, 2, none⟩ (.int .i64 0)) ∧ BoxL (((w1.setCell ⟨w.heap.size + 1 + 1, 0, none⟩ (.int .i64 0)).setCell ⟨w.heap.size + 1 + 1, 1, none⟩ (.int .u64 0)).setCell ⟨w.heap.size + 1 + 1, 2, none⟩ (.int .i64 0)) (w.heap.size + 1 + 1) Lab.zero from ⟨below_set3 HS.out.b (by omega) _ _ _, HS.out.r.set Lab.zero⟩)
  obtain ⟨c0, c1, c2⟩ := HU.out.2.lab
  have hbf := HU.out.1
  clear HU
  refine bodyPost_ret (v := .tuple #[.agg #[.int .i64 0, .int .u64 0, .int .i64 0], .int .i64 20]) ?_ rfl ⟨rfl, hbf⟩
  clear hbf
  generalize (((w1.setCell ⟨w.heap.size + 1 + 1, 0, none⟩ (.int .i64 0)).setCell ⟨w.heap.size + 1 + 1, 1, none⟩ (.int .u64 0)).setCell ⟨w.heap.size + 1 + 1, 2, none⟩ (.int .i64 0)) = WF at c0 c1 c2 ⊢
  simp [results, Tryd.results17, go_sem, c0, c1, c2, Lab.zero]
set_option maxRecDepth 100000 in
set_option maxHeartbeats 4000000 in
theorem RGain_1 {cur a : Lab} {w : World} (hc : cur.fits) (ha : a.fits) (hr : cur.right = true) (hr2 : a.right = false) :
    Calls Tryd.prog 17 #[.agg #[.int .i64 cur.l, .int .u64 cur.c, .int .i64 cur.i], .agg #[.int .i64 a.l, .int .u64 a.c, .int .i64 a.i]] w (LaP 20 Lab.zero w) := by
  obtain ⟨hB, h1, h2, h3⟩ := three_boxZ w cur a
  have HB := Lib.hid (show GnS w _ cur a from ⟨hB, h1, h2, h3⟩)
  obtain ⟨p0, p1, p2⟩ := h1.lab
  have HF := Lib.hid (And.intro hc ha)
  have HC := Lib.hid (fun W => RRight_w (w := W) hr)
  have HC2 := Lib.hid (fun W => RRight_w (w := W) hr2)
  clear hB h1 h2 h3 hc ha hr hr2
  go_enter Tryd.func17, Tryd.ntmps17
  go_wp2_with (go_at_call 32; refine (HC.out _).mono ?_)
  rintro e w1 ⟨rfl, hb1⟩
  have HS1 := Lib.hid (HB.out.more hb1)
  obtain ⟨q0, q1, q2⟩ := HS1.out.a.lab
  clear hb1 p0 p1 p2
  go_wp2_with (go_at_call 32; refine (HC2.out _).mono ?_)
  rintro e w2 ⟨rfl, hb2⟩
  have HS := Lib.hid (HS1.out.more hb2)
  obtain ⟨z0, z1, z2⟩ := HS.out.r.lab
  obtain ⟨fz0, fz1, fz2⟩ := HS.out.r.frozen
  clear hb2 q0 q1 q2
  go_wp2
  have HU := Lib.hid (show Below w.heap.size w (((w2.setCell ⟨w.heap.size + 1 + 1, 0, none⟩ (.int .i64 0)).setCell ⟨w.heap.size + 1 + 1, 1, none⟩ (.int .u64 0)).setCell ⟨w.heap.size + 1 + 1, 2, none⟩ (.int .i64 0)) ∧ BoxL (((w2.setCell ⟨w.heap.size + 1 + 1, 0, none⟩ (.int .i64 0)).setCell ⟨w.heap.size + 1 + 1, 1, none⟩ (.int .u64 0)).setCell ⟨w.heap.size + 1 + 1, 2, none⟩ (.int .i64 0)) (w.heap.size + 1 + 1) Lab.zero from ⟨below_set3 HS.out.b (by omega) _ _ _, HS.out.r.set Lab.zero⟩)
  obtain ⟨c0, c1, c2⟩ := HU.out.2.lab
  have hbf := HU.out.1
  clear HU
  refine bodyPost_ret (v := .tuple #[.agg #[.int .i64 0, .int .u64 0, .int .i64 0], .int .i64 20]) ?_ rfl ⟨rfl, hbf⟩
  clear hbf
  generalize (((w2.setCell ⟨w.heap.size + 1 + 1, 0, none⟩ (.int .i64 0)).setCell ⟨w.heap.size + 1 + 1, 1, none⟩ (.int .u64 0)).setCell ⟨w.heap.size + 1 + 1, 2, none⟩ (.int .i64 0)) = WF at c0 c1 c2 ⊢
  simp [results, Tryd.results17, go_sem, c0, c1, c2, Lab.zero]
set_option maxRecDepth 100000 in
set_option maxHeartbeats 4000000 in
theorem RGain_y0 {cur a : Lab} {w : World} (hc : cur.fits) (ha : a.fits) (hr : cur.right = true) (hr2 : a.right = true) (k1 : cur.l < a.l) (k2 : a.i < cur.i) :
    Calls Tryd.prog 17 #[.agg #[.int .i64 cur.l, .int .u64 cur.c, .int .i64 cur.i], .agg #[.int .i64 a.l, .int .u64 a.c, .int .i64 a.i]] w (LaP 0 (gapL cur a) w) := by
  obtain ⟨hB, h1, h2, h3⟩ := three_boxZ w cur a
  have HB := Lib.hid (show GnS w _ cur a from ⟨hB, h1, h2, h3⟩)
  obtain ⟨p0, p1, p2⟩ := h1.lab
  have HF := Lib.hid (And.intro hc ha)
  have HC := Lib.hid (fun W => RRight_w (w := W) hr)
  have HC2 := Lib.hid (fun W => RRight_w (w := W) hr2)
  have hd1 : decide (a.l > cur.l) = true := decide_eq_true k1
  have hd2 : decide (a.i < cur.i) = true := decide_eq_true k2
  obtain ⟨n, hn⟩ : ∃ n, lessN a.c cur.c = n := ⟨_, rfl⟩
  have HG := Lib.hid (show gapL cur a = ⟨a.l, n, a.i⟩ by unfold gapL; rw [if_pos k1, if_pos k2, hn])
  have HN := Lib.hid hn
  clear hB h1 h2 h3 hc ha hr hr2 k1 k2 hn
  go_enter Tryd.func17, Tryd.ntmps17
  go_wp2_with (go_at_call 32; refine (HC.out _).mono ?_)
  rintro e w1 ⟨rfl, hb1⟩
  have HS1 := Lib.hid (HB.out.more hb1)
  obtain ⟨q0, q1, q2⟩ := HS1.out.a.lab
  clear hb1 p0 p1 p2
  go_wp2_with (go_at_call 32; refine (HC2.out _).mono ?_)
  rintro e w2 ⟨rfl, hb2⟩
  have HS2 := Lib.hid (HS1.out.more hb2)
  obtain ⟨p0, p1, p2⟩ := HS2.out.c.lab
  obtain ⟨r0, r1, r2⟩ := HS2.out.a.lab
  clear hb2 q0 q1 q2
  go_wp2_with (go_at_call 36; refine (RLess_w HF.out.2 HF.out.1 HN.out).mono ?_)
  rintro e w3 ⟨rfl, hb3⟩
  have HS3 := Lib.hid (HS2.out.more hb3)
  have hN := Below.new w3 (.cells #[.int .i64 0, .int .u64 (n : Int), .int .i64 7] 24)
  have g4 : BoxL (w3.alloc (.cells #[.int .i64 0, .int .u64 (n : Int), .int .i64 7] 24)) w3.heap.size ⟨0, n, 7⟩ := BoxL.new w3 ⟨0, n, 7⟩
  have HS4 := Lib.hid (HS3.out.more hN)
  have HS := Lib.hid (show GnS w (w3.alloc (.cells #[.int .i64 a.l, .int .u64 (n : Int), .int .i64 a.i] 24)) cur a ∧ BoxL (w3.alloc (.cells #[.int .i64 a.l, .int .u64 (n : Int), .int .i64 a.i] 24)) w3.heap.size ⟨a.l, n, a.i⟩ from ⟨HS3.out.more (Below.new w3 _), BoxL.new w3 ⟨a.l, n, a.i⟩⟩)
  obtain ⟨u0, u1, u2⟩ := HS4.out.c.lab
  obtain ⟨v0, v1, v2⟩ := HS4.out.a.lab
  have HSm := Lib.hid (show GnS w (w3.alloc (.cells #[.int .i64 a.l, .int .u64 (n : Int), .int .i64 7] 24)) cur a from HS3.out.more (Below.new w3 _))
  obtain ⟨m0, m1, m2⟩ := HSm.out.c.lab
  obtain ⟨n0, n1, n2⟩ := HSm.out.a.lab
  obtain ⟨y0, y1, y2⟩ := HS.out.1.c.lab
  obtain ⟨j0, j1, j2⟩ := HS.out.1.a.lab
  obtain ⟨z0, z1, z2⟩ := HS.out.1.r.lab
  obtain ⟨fz0, fz1, fz2⟩ := HS.out.1.r.frozen
  obtain ⟨x0, x1, x2⟩ := HS.out.2.lab
  have HU := Lib.hid (show Below w.heap.size w ((((w3.alloc (.cells #[.int .i64 a.l, .int .u64 (n : Int), .int .i64 a.i] 24)).setCell ⟨w.heap.size + 1 + 1, 0, none⟩ (.int .i64 a.l)).setCell ⟨w.heap.size + 1 + 1, 1, none⟩ (.int .u64 (n : Int))).setCell ⟨w.heap.size + 1 + 1, 2, none⟩ (.int .i64 a.i)) ∧ BoxL ((((w3.alloc (.cells #[.int .i64 a.l, .int .u64 (n : Int), .int .i64 a.i] 24)).setCell ⟨w.heap.size + 1 + 1, 0, none⟩ (.int .i64 a.l)).setCell ⟨w.heap.size + 1 + 1, 1, none⟩ (.int .u64 (n : Int))).setCell ⟨w.heap.size + 1 + 1, 2, none⟩ (.int .i64 a.i)) (w.heap.size + 1 + 1) ⟨a.l, n, a.i⟩ from ⟨below_set3 HS.out.1.b (by omega) _ _ _, HS.out.1.r.set ⟨a.l, n, a.i⟩⟩)
  clear hb3 hN g4 p0 p1 p2 r0 r1 r2
  go_wp2
  obtain ⟨c0, c1, c2⟩ := HU.out.2.lab
  have hbf := HU.out.1
  rw [HG.out]
  clear HU
  refine bodyPost_ret (v := .tuple #[.agg #[.int .i64 a.l, .int .u64 (n : Int), .int .i64 a.i], .int .i64 0]) ?_ rfl ⟨rfl, hbf⟩
  clear hbf u0 u1 u2 v0 v1 v2 y0 y1 y2 j0 j1 j2 z0 z1 z2 fz0 fz1 fz2 x0 x1 x2
  generalize ((((w3.alloc (.cells #[.int .i64 a.l, .int .u64 (n : Int), .int .i64 a.i] 24)).setCell ⟨w.heap.size + 1 + 1, 0, none⟩ (.int .i64 a.l)).setCell ⟨w.heap.size + 1 + 1, 1, none⟩ (.int .u64 (n : Int))).setCell ⟨w.heap.size + 1 + 1, 2, none⟩ (.int .i64 a.i)) = WF at c0 c1 c2 ⊢
  simp [results, Tryd.results17, go_sem, c0, c1, c2]

set_option maxRecDepth 100000 in
set_option maxHeartbeats 4000000 in
theorem RGain_y1 {cur a : Lab} {w : World} (hc : cur.fits) (ha : a.fits) (hr : cur.right = true) (hr2 : a.right = true) (k1 : cur.l < a.l) (k2 : ¬ a.i < cur.i) :
    Calls Tryd.prog 17 #[.agg #[.int .i64 cur.l, .int .u64 cur.c, .int .i64 cur.i], .agg #[.int .i64 a.l, .int .u64 a.c, .int .i64 a.i]] w (LaP 0 (gapL cur a) w) := by
  obtain ⟨hB, h1, h2, h3⟩ := three_boxZ w cur a
  have HB := Lib.hid (show GnS w _ cur a from ⟨hB, h1, h2, h3⟩)
  obtain ⟨p0, p1, p2⟩ := h1.lab
  have HF := Lib.hid (And.intro hc ha)
  have HC := Lib.hid (fun W => RRight_w (w := W) hr)
  have HC2 := Lib.hid (fun W => RRight_w (w := W) hr2)
  have hd1 : decide (a.l > cur.l) = true := decide_eq_true k1
  have hd2 : decide (a.i < cur.i) = false := decide_eq_false k2
  obtain ⟨n, hn⟩ : ∃ n, lessN a.c cur.c = n := ⟨_, rfl⟩
  have HG := Lib.hid (show gapL cur a = ⟨a.l, n, 7⟩ by unfold gapL; rw [if_pos k1, if_neg k2, hn])
  have HN := Lib.hid hn
  clear hB h1 h2 h3 hc ha hr hr2 k1 k2 hn
  go_enter Tryd.func17, Tryd.ntmps17
  go_wp2_with (go_at_call 32; refine (HC.out _).mono ?_)
  rintro e w1 ⟨rfl, hb1⟩
  have HS1 := Lib.hid (HB.out.more hb1)
  obtain ⟨q0, q1, q2⟩ := HS1.out.a.lab
  clear hb1 p0 p1 p2
  go_wp2_with (go_at_call 32; refine (HC2.out _).mono ?_)
  rintro e w2 ⟨rfl, hb2⟩
  have HS2 := Lib.hid (HS1.out.more hb2)
  obtain ⟨p0, p1, p2⟩ := HS2.out.c.lab
  obtain ⟨r0, r1, r2⟩ := HS2.out.a.lab
  clear hb2 q0 q1 q2
  go_wp2_with (go_at_call 36; refine (RLess_w HF.out.2 HF.out.1 HN.out).mono ?_)
  rintro e w3 ⟨rfl, hb3⟩
  have HS3 := Lib.hid (HS2.out.more hb3)
  have hN := Below.new w3 (.cells #[.int .i64 0, .int .u64 (n : Int), .int .i64 7] 24)
  have g4 : BoxL (w3.alloc (.cells #[.int .i64 0, .int .u64 (n : Int), .int .i64 7] 24)) w3.heap.size ⟨0, n, 7⟩ := BoxL.new w3 ⟨0, n, 7⟩
  have HS4 := Lib.hid (HS3.out.more hN)
  have HS := Lib.hid (show GnS w (w3.alloc (.cells #[.int .i64 a.l, .int .u64 (n : Int), .int .i64 7] 24)) cur a ∧ BoxL (w3.alloc (.cells #[.int .i64 a.l, .int .u64 (n : Int), .int .i64 7] 24)) w3.heap.size ⟨a.l, n, 7⟩ from ⟨HS3.out.more (Below.new w3 _), BoxL.new w3 ⟨a.l, n, 7⟩⟩)
  obtain ⟨u0, u1, u2⟩ := HS4.out.c.lab
  obtain ⟨v0, v1, v2⟩ := HS4.out.a.lab
  obtain ⟨y0, y1, y2⟩ := HS.out.1.c.lab
  obtain ⟨j0, j1, j2⟩ := HS.out.1.a.lab
  obtain ⟨z0, z1, z2⟩ := HS.out.1.r.lab
  obtain ⟨fz0, fz1, fz2⟩ := HS.out.1.r.frozen
  obtain ⟨x0, x1, x2⟩ := HS.out.2.lab
  have HU := Lib.hid (show Below w.heap.size w ((((w3.alloc (.cells #[.int .i64 a.l, .int .u64 (n : Int), .int .i64 7] 24)).setCell ⟨w.heap.size + 1 + 1, 0, none⟩ (.int .i64 a.l)).setCell ⟨w.heap.size + 1 + 1, 1, none⟩ (.int .u64 (n : Int))).setCell ⟨w.heap.size + 1 + 1, 2, none⟩ (.int .i64 7)) ∧ BoxL ((((w3.alloc (.cells #[.int .i64 a.l, .int .u64 (n : Int), .int .i64 7] 24)).setCell ⟨w.heap.size + 1 + 1, 0, none⟩ (.int .i64 a.l)).setCell ⟨w.heap.size + 1 + 1, 1, none⟩ (.int .u64 (n : Int))).setCell ⟨w.heap.size + 1 + 1, 2, none⟩ (.int .i64 7)) (w.heap.size + 1 + 1) ⟨a.l, n, 7⟩ from ⟨below_set3 HS.out.1.b (by omega) _ _ _, HS.out.1.r.set ⟨a.l, n, 7⟩⟩)
  clear hb3 hN g4 p0 p1 p2 r0 r1 r2
  go_wp2
  obtain ⟨c0, c1, c2⟩ := HU.out.2.lab
  have hbf := HU.out.1
  rw [HG.out]
  clear HU
  refine bodyPost_ret (v := .tuple #[.agg #[.int .i64 a.l, .int .u64 (n : Int), .int .i64 7], .int .i64 0]) ?_ rfl ⟨rfl, hbf⟩
  clear hbf u0 u1 u2 v0 v1 v2 y0 y1 y2 j0 j1 j2 z0 z1 z2 fz0 fz1 fz2 x0 x1 x2
  generalize ((((w3.alloc (.cells #[.int .i64 a.l, .int .u64 (n : Int), .int .i64 7] 24)).setCell ⟨w.heap.size + 1 + 1, 0, none⟩ (.int .i64 a.l)).setCell ⟨w.heap.size + 1 + 1, 1, none⟩ (.int .u64 (n : Int))).setCell ⟨w.heap.size + 1 + 1, 2, none⟩ (.int .i64 7)) = WF at c0 c1 c2 ⊢
  simp [results, Tryd.results17, go_sem, c0, c1, c2]

set_option maxRecDepth 100000 in
set_option maxHeartbeats 4000000 in
theorem RGain_y2 {cur a : Lab} {w : World} (hc : cur.fits) (ha : a.fits) (hr : cur.right = true) (hr2 : a.right = true) (k1 : ¬ cur.l < a.l) (k2 : a.i < cur.i) :
    Calls Tryd.prog 17 #[.agg #[.int .i64 cur.l, .int .u64 cur.c, .int .i64 cur.i], .agg #[.int .i64 a.l, .int .u64 a.c, .int .i64 a.i]] w (LaP 0 (gapL cur a) w) := by
  obtain ⟨hB, h1, h2, h3⟩ := three_boxZ w cur a
  have HB := Lib.hid (show GnS w _ cur a from ⟨hB, h1, h2, h3⟩)
  obtain ⟨p0, p1, p2⟩ := h1.lab
  have HF := Lib.hid (And.intro hc ha)
  have HC := Lib.hid (fun W => RRight_w (w := W) hr)
  have HC2 := Lib.hid (fun W => RRight_w (w := W) hr2)
  have hd1 : decide (a.l > cur.l) = false := decide_eq_false k1
  have hd2 : decide (a.i < cur.i) = true := decide_eq_true k2
  obtain ⟨n, hn⟩ : ∃ n, lessN a.c cur.c = n := ⟨_, rfl⟩
  have HG := Lib.hid (show gapL cur a = ⟨0, n, a.i⟩ by unfold gapL; rw [if_neg k1, if_pos k2, hn])
  have HN := Lib.hid hn
  clear hB h1 h2 h3 hc ha hr hr2 k1 k2 hn
  go_enter Tryd.func17, Tryd.ntmps17
  go_wp2_with (go_at_call 32; refine (HC.out _).mono ?_)
  rintro e w1 ⟨rfl, hb1⟩
  have HS1 := Lib.hid (HB.out.more hb1)
  obtain ⟨q0, q1, q2⟩ := HS1.out.a.lab
  clear hb1 p0 p1 p2
  go_wp2_with (go_at_call 32; refine (HC2.out _).mono ?_)
  rintro e w2 ⟨rfl, hb2⟩
  have HS2 := Lib.hid (HS1.out.more hb2)
  obtain ⟨p0, p1, p2⟩ := HS2.out.c.lab
  obtain ⟨r0, r1, r2⟩ := HS2.out.a.lab
  clear hb2 q0 q1 q2
  go_wp2_with (go_at_call 36; refine (RLess_w HF.out.2 HF.out.1 HN.out).mono ?_)
  rintro e w3 ⟨rfl, hb3⟩
  have HS3 := Lib.hid (HS2.out.more hb3)
  have hN := Below.new w3 (.cells #[.int .i64 0, .int .u64 (n : Int), .int .i64 7] 24)
  have g4 : BoxL (w3.alloc (.cells #[.int .i64 0, .int .u64 (n : Int), .int .i64 7] 24)) w3.heap.size ⟨0, n, 7⟩ := BoxL.new w3 ⟨0, n, 7⟩
  have HS4 := Lib.hid (HS3.out.more hN)
  have HS := Lib.hid (show GnS w (w3.alloc (.cells #[.int .i64 0, .int .u64 (n : Int), .int .i64 a.i] 24)) cur a ∧ BoxL (w3.alloc (.cells #[.int .i64 0, .int .u64 (n : Int), .int .i64 a.i] 24)) w3.heap.size ⟨0, n, a.i⟩ from ⟨HS3.out.more (Below.new w3 _), BoxL.new w3 ⟨0, n, a.i⟩⟩)
  obtain ⟨u0, u1, u2⟩ := HS4.out.c.lab
  obtain ⟨v0, v1, v2⟩ := HS4.out.a.lab
  obtain ⟨y0, y1, y2⟩ := HS.out.1.c.lab
  obtain ⟨j0, j1, j2⟩ := HS.out.1.a.lab
  obtain ⟨z0, z1, z2⟩ := HS.out.1.r.lab
  obtain ⟨fz0, fz1, fz2⟩ := HS.out.1.r.frozen
  obtain ⟨x0, x1, x2⟩ := HS.out.2.lab
  have HU := Lib.hid (show Below w.heap.size w ((((w3.alloc (.cells #[.int .i64 0, .int .u64 (n : Int), .int .i64 a.i] 24)).setCell ⟨w.heap.size + 1 + 1, 0, none⟩ (.int .i64 0)).setCell ⟨w.heap.size + 1 + 1, 1, none⟩ (.int .u64 (n : Int))).setCell ⟨w.heap.size + 1 + 1, 2, none⟩ (.int .i64 a.i)) ∧ BoxL ((((w3.alloc (.cells #[.int .i64 0, .int .u64 (n : Int), .int .i64 a.i] 24)).setCell ⟨w.heap.size + 1 + 1, 0, none⟩ (.int .i64 0)).setCell ⟨w.heap.size + 1 + 1, 1, none⟩ (.int .u64 (n : Int))).setCell ⟨w.heap.size + 1 + 1, 2, none⟩ (.int .i64 a.i)) (w.heap.size + 1 + 1) ⟨0, n, a.i⟩ from ⟨below_set3 HS.out.1.b (by omega) _ _ _, HS.out.1.r.set ⟨0, n, a.i⟩⟩)
  clear hb3 hN g4 p0 p1 p2 r0 r1 r2
  go_wp2
  obtain ⟨c0, c1, c2⟩ := HU.out.2.lab
  have hbf := HU.out.1
  rw [HG.out]
  clear HU
  refine bodyPost_ret (v := .tuple #[.agg #[.int .i64 0, .int .u64 (n : Int), .int .i64 a.i], .int .i64 0]) ?_ rfl ⟨rfl, hbf⟩
  clear hbf u0 u1 u2 v0 v1 v2 y0 y1 y2 j0 j1 j2 z0 z1 z2 fz0 fz1 fz2 x0 x1 x2
  generalize ((((w3.alloc (.cells #[.int .i64 0, .int .u64 (n : Int), .int .i64 a.i] 24)).setCell ⟨w.heap.size + 1 + 1, 0, none⟩ (.int .i64 0)).setCell ⟨w.heap.size + 1 + 1, 1, none⟩ (.int .u64 (n : Int))).setCell ⟨w.heap.size + 1 + 1, 2, none⟩ (.int .i64 a.i)) = WF at c0 c1 c2 ⊢
  simp [results, Tryd.results17, go_sem, c0, c1, c2]

set_option maxRecDepth 100000 in
set_option maxHeartbeats 4000000 in
theorem RGain_y3 {cur a : Lab} {w : World} (hc : cur.fits) (ha : a.fits) (hr : cur.right = true) (hr2 : a.right = true) (k1 : ¬ cur.l < a.l) (k2 : ¬ a.i < cur.i) :
    Calls Tryd.prog 17 #[.agg #[.int .i64 cur.l, .int .u64 cur.c, .int .i64 cur.i], .agg #[.int .i64 a.l, .int .u64 a.c, .int .i64 a.i]] w (LaP 0 (gapL cur a) w) := by
  obtain ⟨hB, h1, h2, h3⟩ := three_boxZ w cur a
  have HB := Lib.hid (show GnS w _ cur a from ⟨hB, h1, h2, h3⟩)
  obtain ⟨p0, p1, p2⟩ := h1.lab
  have HF := Lib.hid (And.intro hc ha)
  have HC := Lib.hid (fun W => RRight_w (w := W) hr)
  have HC2 := Lib.hid (fun W => RRight_w (w := W) hr2)
  have hd1 : decide (a.l > cur.l) = false := decide_eq_false k1
  have hd2 : decide (a.i < cur.i) = false := decide_eq_false k2
  obtain ⟨n, hn⟩ : ∃ n, lessN a.c cur.c = n := ⟨_, rfl⟩
  have HG := Lib.hid (show gapL cur a = ⟨0, n, 7⟩ by unfold gapL; rw [if_neg k1, if_neg k2, hn])
  have HN := Lib.hid hn
  clear hB h1 h2 h3 hc ha hr hr2 k1 k2 hn
  go_enter Tryd.func17, Tryd.ntmps17
  go_wp2_with (go_at_call 32; refine (HC.out _).mono ?_)
  rintro e w1 ⟨rfl, hb1⟩
  have HS1 := Lib.hid (HB.out.more hb1)
  obtain ⟨q0, q1, q2⟩ := HS1.out.a.lab
  clear hb1 p0 p1 p2
  go_wp2_with (go_at_call 32; refine (HC2.out _).mono ?_)
  rintro e w2 ⟨rfl, hb2⟩
  have HS2 := Lib.hid (HS1.out.more hb2)
  obtain ⟨p0, p1, p2⟩ := HS2.out.c.lab
  obtain ⟨r0, r1, r2⟩ := HS2.out.a.lab
  clear hb2 q0 q1 q2
  go_wp2_with (go_at_call 36; refine (RLess_w HF.out.2 HF.out.1 HN.out).mono ?_)
  rintro e w3 ⟨rfl, hb3⟩
  have HS3 := Lib.hid (HS2.out.more hb3)
  have hN := Below.new w3 (.cells #[.int .i64 0, .int .u64 (n : Int), .int .i64 7] 24)
  have g4 : BoxL (w3.alloc (.cells #[.int .i64 0, .int .u64 (n : Int), .int .i64 7] 24)) w3.heap.size ⟨0, n, 7⟩ := BoxL.new w3 ⟨0, n, 7⟩
  have HS4 := Lib.hid (HS3.out.more hN)
  have HS := Lib.hid (show GnS w (w3.alloc (.cells #[.int .i64 0, .int .u64 (n : Int), .int .i64 7] 24)) cur a ∧ BoxL (w3.alloc (.cells #[.int .i64 0, .int .u64 (n : Int), .int .i64 7] 24)) w3.heap.size ⟨0, n, 7⟩ from ⟨HS3.out.more (Below.new w3 _), BoxL.new w3 ⟨0, n, 7⟩⟩)
  obtain ⟨u0, u1, u2⟩ := HS4.out.c.lab
  obtain ⟨v0, v1, v2⟩ := HS4.out.a.lab
  obtain ⟨y0, y1, y2⟩ := HS.out.1.c.lab
  obtain ⟨j0, j1, j2⟩ := HS.out.1.a.lab
  obtain ⟨z0, z1, z2⟩ := HS.out.1.r.lab
  obtain ⟨fz0, fz1, fz2⟩ := HS.out.1.r.frozen
  obtain ⟨x0, x1, x2⟩ := HS.out.2.lab
  have HU := Lib.hid (show Below w.heap.size w ((((w3.alloc (.cells #[.int .i64 0, .int .u64 (n : Int), .int .i64 7] 24)).setCell ⟨w.heap.size + 1 + 1, 0, none⟩ (.int .i64 0)).setCell ⟨w.heap.size + 1 + 1, 1, none⟩ (.int .u64 (n : Int))).setCell ⟨w.heap.size + 1 + 1, 2, none⟩ (.int .i64 7)) ∧ BoxL ((((w3.alloc (.cells #[.int .i64 0, .int .u64 (n : Int), .int .i64 7] 24)).setCell ⟨w.heap.size + 1 + 1, 0, none⟩ (.int .i64 0)).setCell ⟨w.heap.size + 1 + 1, 1, none⟩ (.int .u64 (n : Int))).setCell ⟨w.heap.size + 1 + 1, 2, none⟩ (.int .i64 7)) (w.heap.size + 1 + 1) ⟨0, n, 7⟩ from ⟨below_set3 HS.out.1.b (by omega) _ _ _, HS.out.1.r.set ⟨0, n, 7⟩⟩)
  clear hb3 hN g4 p0 p1 p2 r0 r1 r2
  go_wp2
  obtain ⟨c0, c1, c2⟩ := HU.out.2.lab
  have hbf := HU.out.1
  rw [HG.out]
  clear HU
  refine bodyPost_ret (v := .tuple #[.agg #[.int .i64 0, .int .u64 (n : Int), .int .i64 7], .int .i64 0]) ?_ rfl ⟨rfl, hbf⟩
  clear hbf u0 u1 u2 v0 v1 v2 y0 y1 y2 j0 j1 j2 z0 z1 z2 fz0 fz1 fz2 x0 x1 x2
  generalize ((((w3.alloc (.cells #[.int .i64 0, .int .u64 (n : Int), .int .i64 7] 24)).setCell ⟨w.heap.size + 1 + 1, 0, none⟩ (.int .i64 0)).setCell ⟨w.heap.size + 1 + 1, 1, none⟩ (.int .u64 (n : Int))).setCell ⟨w.heap.size + 1 + 1, 2, none⟩ (.int .i64 7)) = WF at c0 c1 c2 ⊢
  simp [results, Tryd.results17, go_sem, c0, c1, c2]

theorem RGain_w {cur a x : Lab} {c : Int} {w : World} (hc : cur.fits) (ha : a.fits) (h : gainL cur a = (c, x)) :
    Calls Tryd.prog 17 #[.agg #[.int .i64 cur.l, .int .u64 cur.c, .int .i64 cur.i], .agg #[.int .i64 a.l, .int .u64 a.c, .int .i64 a.i]] w (LaP c x w) := by
  cases hr : cur.right with
  | false =>
    rw [gain_bad (by rw [hr]; rfl)] at h
    obtain ⟨rfl, rfl⟩ := Prod.mk.inj h
    exact RGain_0 hc ha hr
  | true =>
    cases hr2 : a.right with
    | false =>
      rw [gain_bad (by rw [hr2, Bool.and_false])] at h
      obtain ⟨rfl, rfl⟩ := Prod.mk.inj h
      exact RGain_1 hc ha hr hr2
    | true =>
      rw [gain_ok (by rw [hr, hr2]; rfl)] at h
      obtain ⟨rfl, rfl⟩ := Prod.mk.inj h
      by_cases k1 : cur.l < a.l
      · by_cases k2 : a.i < cur.i
        · exact RGain_y0 hc ha hr hr2 k1 k2
        · exact RGain_y1 hc ha hr hr2 k1 k2
      · by_cases k2 : a.i < cur.i
        · exact RGain_y2 hc ha hr hr2 k1 k2
        · exact RGain_y3 hc ha hr hr2 k1 k2
end Go.Proofs.YtciohfeifihobaaDoor
