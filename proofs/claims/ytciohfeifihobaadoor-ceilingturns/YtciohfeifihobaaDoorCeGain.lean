/- Gain. -/
import Derived.Test.YtciohfeifihobaaDoorCeFlo
import Derived.Test.YtciohfeifihobaaDoorCeRefG
namespace Go.Proofs.YtciohfeifihobaaDoor
open Go.RowKit Go.Proofs.Cats Go.Proofs.Cel Go.Shelf Go.Sort

theorem BoxL.set1 {W : World} {B : Nat} {a : Lab} (v : Nat) (h : BoxL W B a) : BoxL (W.setCell ⟨B, 1, none⟩ (.int .u64 (v : Int))) B ⟨a.l, v, a.i⟩ := by
  have h1 := heap_set (i := 1) (.int .u64 (v : Int)) h
  simpa [BoxL] using h1
theorem GLess_w {a b n : Nat} (ha : U64 a) (hb : U64 b) (h : lessN a b = n) {w : World} : Calls Tryd.prog 48 #[.int .u64 (a : Int), .int .u64 (b : Int)] w (LssP n w) := (less_any a b ha hb w).mono fun _ _ ⟨he, hw⟩ => ⟨by rw [he, h], hw ▸ Below.refl _ _⟩
/-- A floater, a label, the answer's room. -/
structure Fg (w W : World) (cur a : Lab) : Prop where
  b : Below w.heap.size w W
  c : BoxF W w.heap.size cur
  a : BoxL W (w.heap.size + 1) a
  r : BoxL W (w.heap.size + 1 + 1) Lab.zero
theorem Fg.more {w W W' : World} {cur a : Lab} (k : Fg w W cur a) (hb : Below W.heap.size W W') : Fg w W' cur a := ⟨below_more k.b hb, k.c.more hb, k.a.more hb, k.r.more hb⟩
theorem Fg.set {w W : World} {cur a : Lab} {X i : Nat} {v : Value} (k : Fg w W cur a) (hX : w.heap.size + 1 + 1 < X) : Fg w (W.setCell ⟨X, i, none⟩ v) cur a := ⟨k.b.setCell (p := ⟨X, i, none⟩) (by simp only; omega) v, k.c.other (by omega), k.a.other (by omega), k.r.other (by omega)⟩
theorem Fg.of (w : World) (cur a : Lab) : Fg w (((w.alloc (.cells #[.int .i64 cur.l, .int .u64 cur.c, .int .i64 cur.i] 42)).alloc (.cells #[.int .i64 a.l, .int .u64 a.c, .int .i64 a.i] 24)).alloc (.cells #[.int .i64 0, .int .u64 0, .int .i64 0] 24)) cur a := by
  have h := (Fa.of w cur a).more (Below.new _ (.cells #[.int .i64 0, .int .u64 0, .int .i64 0] 24))
  refine ⟨h.b, h.c, h.a, ?_⟩
  have := boxZ_new ((w.alloc (.cells #[.int .i64 cur.l, .int .u64 cur.c, .int .i64 cur.i] 42)).alloc (.cells #[.int .i64 a.l, .int .u64 a.c, .int .i64 a.i] 24))
  rwa [World.size_alloc, World.size_alloc] at this

set_option maxRecDepth 100000 in
set_option maxHeartbeats 4000000 in
theorem floGain_0 {s : Sn} {cur a : Lab} {w : World} (hc : cur.fits) (ha : a.fits) (hs : Sent s w) (hr : (cur.right && a.right) = false) :
    Calls Tryd.prog 35 #[.agg #[.int .i64 cur.l, .int .u64 cur.c, .int .i64 cur.i], .agg #[.int .i64 a.l, .int .u64 a.c, .int .i64 a.i]] w (LvP s 20 Lab.zero w) := by
  have HB := Lib.hid (Fg.of w cur a)
  have HJ := Lib.hid (judge2_w (s := s) (W := (((w.alloc (.cells #[.int .i64 cur.l, .int .u64 cur.c, .int .i64 cur.i] 42)).alloc (.cells #[.int .i64 a.l, .int .u64 a.c, .int .i64 a.i] 24)).alloc (.cells #[.int .i64 0, .int .u64 0, .int .i64 0] 24))) (Z := w.heap.size + 1 + 1 + 1) (by simp) hc ha hr (hs.more HB.out.b))
  have HF := Lib.hid (And.intro hc ha)
  clear hc ha hs hr
  go_enter Tryd.func35, Tryd.ntmps35
  go_wp2_with (go_at_call 44; refine HJ.out.mono ?_)
  rintro e w1 ⟨rfl, hb1⟩
  have HB1 := Lib.hid (HB.out.more hb1)
  clear hb1
  have hv : judgeV s false = .iface 116 (.pointer (some s.n)) := rfl
  rw [hv]
  obtain ⟨z0, z1, z2⟩ := HB1.out.r.lab
  obtain ⟨fz0, fz1, fz2⟩ := HB1.out.r.frozen
  go_wp2
  have HU := Lib.hid (show Below w.heap.size w ((((w1).setCell ⟨w.heap.size + 1 + 1, 0, none⟩ (.int .i64 0)).setCell ⟨w.heap.size + 1 + 1, 1, none⟩ (.int .u64 0)).setCell ⟨w.heap.size + 1 + 1, 2, none⟩ (.int .i64 0)) ∧ BoxL ((((w1).setCell ⟨w.heap.size + 1 + 1, 0, none⟩ (.int .i64 0)).setCell ⟨w.heap.size + 1 + 1, 1, none⟩ (.int .u64 0)).setCell ⟨w.heap.size + 1 + 1, 2, none⟩ (.int .i64 0)) (w.heap.size + 1 + 1) Lab.zero from ⟨below_set3 HB1.out.b (by omega) _ _ _, HB1.out.r.set Lab.zero⟩)
  obtain ⟨c0, c1, c2⟩ := HU.out.2.lab
  have hbf := HU.out.1
  clear HU z0 z1 z2 fz0 fz1 fz2
  refine bodyPost_ret (v := .tuple #[.agg #[.int .i64 0, .int .u64 0, .int .i64 0], .iface 116 (.pointer (some s.n))]) ?_ rfl ⟨⟨_, ErrIs.none, rfl⟩, hbf⟩
  clear hbf
  generalize (((w1).setCell ⟨w.heap.size + 1 + 1, 0, none⟩ (.int .i64 0)).setCell ⟨w.heap.size + 1 + 1, 1, none⟩ (.int .u64 0)).setCell ⟨w.heap.size + 1 + 1, 2, none⟩ (.int .i64 0) = WF at c0 c1 c2 ⊢
  simp [results, Tryd.results35, go_sem, c0, c1, c2, Lab.zero]

set_option maxRecDepth 100000 in
set_option maxHeartbeats 4000000 in
theorem floGain_y0 {s : Sn} {cur a : Lab} {w : World} (hc : cur.fits) (ha : a.fits) (hs : Sent s w) (hr : (cur.right && a.right) = true) (k1 : cur.l < a.l) (k2 : a.i < cur.i) :
    Calls Tryd.prog 35 #[.agg #[.int .i64 cur.l, .int .u64 cur.c, .int .i64 cur.i], .agg #[.int .i64 a.l, .int .u64 a.c, .int .i64 a.i]] w (LvP s 0 (gapL cur a) w) := by
  have HB := Lib.hid (Fg.of w cur a)
  have HJ := Lib.hid (judge2_w (s := s) (W := (((w.alloc (.cells #[.int .i64 cur.l, .int .u64 cur.c, .int .i64 cur.i] 42)).alloc (.cells #[.int .i64 a.l, .int .u64 a.c, .int .i64 a.i] 24)).alloc (.cells #[.int .i64 0, .int .u64 0, .int .i64 0] 24))) (Z := w.heap.size + 1 + 1 + 1) (by simp) hc ha hr (hs.more HB.out.b))
  have hd1 : decide (a.l > cur.l) = true := decide_eq_true k1
  have hd2 : decide (a.i < cur.i) = true := decide_eq_true k2
  obtain ⟨n, hn⟩ : ∃ n, lessN a.c cur.c = n := ⟨_, rfl⟩
  have HG := Lib.hid (show gapL cur a = ⟨a.l, n, a.i⟩ by unfold gapL; rw [if_pos k1, if_pos k2, hn])
  have HN := Lib.hid hn
  have HF := Lib.hid (And.intro hc ha)
  clear hc ha hs hr k1 k2 hn
  go_enter Tryd.func35, Tryd.ntmps35
  go_wp2_with (go_at_call 44; refine HJ.out.mono ?_)
  rintro e w1 ⟨rfl, hb1⟩
  have HB1 := Lib.hid (HB.out.more hb1)
  clear hb1
  have hv : judgeV s true = .nilIface := rfl
  rw [hv]
  go_wp2_with (go_at_call 27; refine (bottom_any _).mono ?_)
  rintro e w2 ⟨rfl, hb2⟩
  have HB2 := Lib.hid (HB1.out.more hb2)
  clear hb2
  have HBa := Lib.hid (show Fg w (w2.alloc (.cells #[.int .i64 0, .int .u64 0, .int .i64 7] 24)) cur a from HB2.out.more (Below.new w2 _))
  have HBb := Lib.hid (show Fg w (w2.alloc (.cells #[.int .i64 a.l, .int .u64 0, .int .i64 7] 24)) cur a from HB2.out.more (Below.new w2 _))
  have HBc := Lib.hid (show Fg w (w2.alloc (.cells #[.int .i64 a.l, .int .u64 0, .int .i64 a.i] 24)) cur a from HB2.out.more (Below.new w2 _))
  have HX := Lib.hid (show BoxL (w2.alloc (.cells #[.int .i64 a.l, .int .u64 0, .int .i64 a.i] 24)) w2.heap.size ⟨a.l, 0, a.i⟩ from BoxL.new w2 ⟨a.l, 0, a.i⟩)
  obtain ⟨p0, p1, p2⟩ := HBa.out.c.lab
  obtain ⟨q0, q1, q2⟩ := HBa.out.a.lab
  obtain ⟨r0, r1, r2⟩ := HBb.out.c.lab
  obtain ⟨t0, t1, t2⟩ := HBb.out.a.lab
  obtain ⟨u0, u1, u2⟩ := HBc.out.c.lab
  obtain ⟨v0, v1, v2⟩ := HBc.out.a.lab
  go_wp2_with (go_at_call 48; refine (GLess_w HF.out.2 HF.out.1 HN.out).mono ?_)
  rintro e w3 ⟨rfl, hb3⟩
  have HB3 := Lib.hid (HBc.out.more hb3)
  have HX3 := Lib.hid (HX.out.more hb3)
  have hlt : w.heap.size + 1 + 1 < w2.heap.size := HB2.out.r.lt
  have HB4 := Lib.hid (HB3.out.set (i := 1) (v := .int .u64 (n : Int)) hlt)
  have HX4 := Lib.hid (show BoxL (w3.setCell ⟨w2.heap.size, 1, none⟩ (.int .u64 (n : Int))) w2.heap.size ⟨a.l, n, a.i⟩ from HX3.out.set1 n)
  clear hb3 p0 p1 p2 q0 q1 q2 r0 r1 r2 t0 t1 t2 u0 u1 u2 v0 v1 v2
  obtain ⟨x0, x1, x2⟩ := HX3.out.lab
  obtain ⟨fx0, fx1, fx2⟩ := HX3.out.frozen
  obtain ⟨y0, y1, y2⟩ := HX4.out.lab
  obtain ⟨z0, z1, z2⟩ := HB4.out.r.lab
  obtain ⟨fz0, fz1, fz2⟩ := HB4.out.r.frozen
  have HU := Lib.hid (show Below w.heap.size w ((((w3.setCell ⟨w2.heap.size, 1, none⟩ (.int .u64 (n : Int))).setCell ⟨w.heap.size + 1 + 1, 0, none⟩ (.int .i64 a.l)).setCell ⟨w.heap.size + 1 + 1, 1, none⟩ (.int .u64 (n : Int))).setCell ⟨w.heap.size + 1 + 1, 2, none⟩ (.int .i64 a.i)) ∧ BoxL ((((w3.setCell ⟨w2.heap.size, 1, none⟩ (.int .u64 (n : Int))).setCell ⟨w.heap.size + 1 + 1, 0, none⟩ (.int .i64 a.l)).setCell ⟨w.heap.size + 1 + 1, 1, none⟩ (.int .u64 (n : Int))).setCell ⟨w.heap.size + 1 + 1, 2, none⟩ (.int .i64 a.i)) (w.heap.size + 1 + 1) ⟨a.l, n, a.i⟩ from ⟨below_set3 HB4.out.b (by omega) _ _ _, HB4.out.r.set ⟨a.l, n, a.i⟩⟩)
  clear hlt
  go_wp2
  obtain ⟨c0, c1, c2⟩ := HU.out.2.lab
  have hbf := HU.out.1
  clear HU
  refine bodyPost_ret (v := .tuple #[.agg #[.int .i64 a.l, .int .u64 (n : Int), .int .i64 a.i], .nilIface]) ?_ rfl ⟨⟨_, ErrIs.ok, by rw [HG.out]⟩, hbf⟩
  clear hbf x0 x1 x2 fx0 fx1 fx2 y0 y1 y2 z0 z1 z2 fz0 fz1 fz2
  generalize (((w3.setCell ⟨w2.heap.size, 1, none⟩ (.int .u64 (n : Int))).setCell ⟨w.heap.size + 1 + 1, 0, none⟩ (.int .i64 a.l)).setCell ⟨w.heap.size + 1 + 1, 1, none⟩ (.int .u64 (n : Int))).setCell ⟨w.heap.size + 1 + 1, 2, none⟩ (.int .i64 a.i) = WF at c0 c1 c2 ⊢
  simp [results, Tryd.results35, go_sem, c0, c1, c2]

set_option maxRecDepth 100000 in
set_option maxHeartbeats 4000000 in
theorem floGain_y1 {s : Sn} {cur a : Lab} {w : World} (hc : cur.fits) (ha : a.fits) (hs : Sent s w) (hr : (cur.right && a.right) = true) (k1 : cur.l < a.l) (k2 : ¬ a.i < cur.i) :
    Calls Tryd.prog 35 #[.agg #[.int .i64 cur.l, .int .u64 cur.c, .int .i64 cur.i], .agg #[.int .i64 a.l, .int .u64 a.c, .int .i64 a.i]] w (LvP s 0 (gapL cur a) w) := by
  have HB := Lib.hid (Fg.of w cur a)
  have HJ := Lib.hid (judge2_w (s := s) (W := (((w.alloc (.cells #[.int .i64 cur.l, .int .u64 cur.c, .int .i64 cur.i] 42)).alloc (.cells #[.int .i64 a.l, .int .u64 a.c, .int .i64 a.i] 24)).alloc (.cells #[.int .i64 0, .int .u64 0, .int .i64 0] 24))) (Z := w.heap.size + 1 + 1 + 1) (by simp) hc ha hr (hs.more HB.out.b))
  have hd1 : decide (a.l > cur.l) = true := decide_eq_true k1
  have hd2 : decide (a.i < cur.i) = false := decide_eq_false k2
  obtain ⟨n, hn⟩ : ∃ n, lessN a.c cur.c = n := ⟨_, rfl⟩
  have HG := Lib.hid (show gapL cur a = ⟨a.l, n, 7⟩ by unfold gapL; rw [if_pos k1, if_neg k2, hn])
  have HN := Lib.hid hn
  have HF := Lib.hid (And.intro hc ha)
  clear hc ha hs hr k1 k2 hn
  go_enter Tryd.func35, Tryd.ntmps35
  go_wp2_with (go_at_call 44; refine HJ.out.mono ?_)
  rintro e w1 ⟨rfl, hb1⟩
  have HB1 := Lib.hid (HB.out.more hb1)
  clear hb1
  have hv : judgeV s true = .nilIface := rfl
  rw [hv]
  go_wp2_with (go_at_call 27; refine (bottom_any _).mono ?_)
  rintro e w2 ⟨rfl, hb2⟩
  have HB2 := Lib.hid (HB1.out.more hb2)
  clear hb2
  have HBa := Lib.hid (show Fg w (w2.alloc (.cells #[.int .i64 0, .int .u64 0, .int .i64 7] 24)) cur a from HB2.out.more (Below.new w2 _))
  have HBb := Lib.hid (show Fg w (w2.alloc (.cells #[.int .i64 a.l, .int .u64 0, .int .i64 7] 24)) cur a from HB2.out.more (Below.new w2 _))
  have HBc := Lib.hid (show Fg w (w2.alloc (.cells #[.int .i64 a.l, .int .u64 0, .int .i64 7] 24)) cur a from HB2.out.more (Below.new w2 _))
  have HX := Lib.hid (show BoxL (w2.alloc (.cells #[.int .i64 a.l, .int .u64 0, .int .i64 7] 24)) w2.heap.size ⟨a.l, 0, 7⟩ from BoxL.new w2 ⟨a.l, 0, 7⟩)
  obtain ⟨p0, p1, p2⟩ := HBa.out.c.lab
  obtain ⟨q0, q1, q2⟩ := HBa.out.a.lab
  obtain ⟨r0, r1, r2⟩ := HBb.out.c.lab
  obtain ⟨t0, t1, t2⟩ := HBb.out.a.lab
  obtain ⟨u0, u1, u2⟩ := HBc.out.c.lab
  obtain ⟨v0, v1, v2⟩ := HBc.out.a.lab
  go_wp2_with (go_at_call 48; refine (GLess_w HF.out.2 HF.out.1 HN.out).mono ?_)
  rintro e w3 ⟨rfl, hb3⟩
  have HB3 := Lib.hid (HBc.out.more hb3)
  have HX3 := Lib.hid (HX.out.more hb3)
  have hlt : w.heap.size + 1 + 1 < w2.heap.size := HB2.out.r.lt
  have HB4 := Lib.hid (HB3.out.set (i := 1) (v := .int .u64 (n : Int)) hlt)
  have HX4 := Lib.hid (show BoxL (w3.setCell ⟨w2.heap.size, 1, none⟩ (.int .u64 (n : Int))) w2.heap.size ⟨a.l, n, 7⟩ from HX3.out.set1 n)
  clear hb3 p0 p1 p2 q0 q1 q2 r0 r1 r2 t0 t1 t2 u0 u1 u2 v0 v1 v2
  obtain ⟨x0, x1, x2⟩ := HX3.out.lab
  obtain ⟨fx0, fx1, fx2⟩ := HX3.out.frozen
  obtain ⟨y0, y1, y2⟩ := HX4.out.lab
  obtain ⟨z0, z1, z2⟩ := HB4.out.r.lab
  obtain ⟨fz0, fz1, fz2⟩ := HB4.out.r.frozen
  have HU := Lib.hid (show Below w.heap.size w ((((w3.setCell ⟨w2.heap.size, 1, none⟩ (.int .u64 (n : Int))).setCell ⟨w.heap.size + 1 + 1, 0, none⟩ (.int .i64 a.l)).setCell ⟨w.heap.size + 1 + 1, 1, none⟩ (.int .u64 (n : Int))).setCell ⟨w.heap.size + 1 + 1, 2, none⟩ (.int .i64 7)) ∧ BoxL ((((w3.setCell ⟨w2.heap.size, 1, none⟩ (.int .u64 (n : Int))).setCell ⟨w.heap.size + 1 + 1, 0, none⟩ (.int .i64 a.l)).setCell ⟨w.heap.size + 1 + 1, 1, none⟩ (.int .u64 (n : Int))).setCell ⟨w.heap.size + 1 + 1, 2, none⟩ (.int .i64 7)) (w.heap.size + 1 + 1) ⟨a.l, n, 7⟩ from ⟨below_set3 HB4.out.b (by omega) _ _ _, HB4.out.r.set ⟨a.l, n, 7⟩⟩)
  clear hlt
  go_wp2
  obtain ⟨c0, c1, c2⟩ := HU.out.2.lab
  have hbf := HU.out.1
  clear HU
  refine bodyPost_ret (v := .tuple #[.agg #[.int .i64 a.l, .int .u64 (n : Int), .int .i64 7], .nilIface]) ?_ rfl ⟨⟨_, ErrIs.ok, by rw [HG.out]⟩, hbf⟩
  clear hbf x0 x1 x2 fx0 fx1 fx2 y0 y1 y2 z0 z1 z2 fz0 fz1 fz2
  generalize (((w3.setCell ⟨w2.heap.size, 1, none⟩ (.int .u64 (n : Int))).setCell ⟨w.heap.size + 1 + 1, 0, none⟩ (.int .i64 a.l)).setCell ⟨w.heap.size + 1 + 1, 1, none⟩ (.int .u64 (n : Int))).setCell ⟨w.heap.size + 1 + 1, 2, none⟩ (.int .i64 7) = WF at c0 c1 c2 ⊢
  simp [results, Tryd.results35, go_sem, c0, c1, c2]

set_option maxRecDepth 100000 in
set_option maxHeartbeats 4000000 in
theorem floGain_y2 {s : Sn} {cur a : Lab} {w : World} (hc : cur.fits) (ha : a.fits) (hs : Sent s w) (hr : (cur.right && a.right) = true) (k1 : ¬ cur.l < a.l) (k2 : a.i < cur.i) :
    Calls Tryd.prog 35 #[.agg #[.int .i64 cur.l, .int .u64 cur.c, .int .i64 cur.i], .agg #[.int .i64 a.l, .int .u64 a.c, .int .i64 a.i]] w (LvP s 0 (gapL cur a) w) := by
  have HB := Lib.hid (Fg.of w cur a)
  have HJ := Lib.hid (judge2_w (s := s) (W := (((w.alloc (.cells #[.int .i64 cur.l, .int .u64 cur.c, .int .i64 cur.i] 42)).alloc (.cells #[.int .i64 a.l, .int .u64 a.c, .int .i64 a.i] 24)).alloc (.cells #[.int .i64 0, .int .u64 0, .int .i64 0] 24))) (Z := w.heap.size + 1 + 1 + 1) (by simp) hc ha hr (hs.more HB.out.b))
  have hd1 : decide (a.l > cur.l) = false := decide_eq_false (by omega)
  have hd2 : decide (a.i < cur.i) = true := decide_eq_true k2
  obtain ⟨n, hn⟩ : ∃ n, lessN a.c cur.c = n := ⟨_, rfl⟩
  have HG := Lib.hid (show gapL cur a = ⟨0, n, a.i⟩ by unfold gapL; rw [if_neg k1, if_pos k2, hn])
  have HN := Lib.hid hn
  have HF := Lib.hid (And.intro hc ha)
  clear hc ha hs hr k1 k2 hn
  go_enter Tryd.func35, Tryd.ntmps35
  go_wp2_with (go_at_call 44; refine HJ.out.mono ?_)
  rintro e w1 ⟨rfl, hb1⟩
  have HB1 := Lib.hid (HB.out.more hb1)
  clear hb1
  have hv : judgeV s true = .nilIface := rfl
  rw [hv]
  go_wp2_with (go_at_call 27; refine (bottom_any _).mono ?_)
  rintro e w2 ⟨rfl, hb2⟩
  have HB2 := Lib.hid (HB1.out.more hb2)
  clear hb2
  have HBa := Lib.hid (show Fg w (w2.alloc (.cells #[.int .i64 0, .int .u64 0, .int .i64 7] 24)) cur a from HB2.out.more (Below.new w2 _))
  have HBb := Lib.hid (show Fg w (w2.alloc (.cells #[.int .i64 0, .int .u64 0, .int .i64 7] 24)) cur a from HB2.out.more (Below.new w2 _))
  have HBc := Lib.hid (show Fg w (w2.alloc (.cells #[.int .i64 0, .int .u64 0, .int .i64 a.i] 24)) cur a from HB2.out.more (Below.new w2 _))
  have HX := Lib.hid (show BoxL (w2.alloc (.cells #[.int .i64 0, .int .u64 0, .int .i64 a.i] 24)) w2.heap.size ⟨0, 0, a.i⟩ from BoxL.new w2 ⟨0, 0, a.i⟩)
  obtain ⟨p0, p1, p2⟩ := HBa.out.c.lab
  obtain ⟨q0, q1, q2⟩ := HBa.out.a.lab
  obtain ⟨r0, r1, r2⟩ := HBb.out.c.lab
  obtain ⟨t0, t1, t2⟩ := HBb.out.a.lab
  obtain ⟨u0, u1, u2⟩ := HBc.out.c.lab
  obtain ⟨v0, v1, v2⟩ := HBc.out.a.lab
  go_wp2_with (go_at_call 48; refine (GLess_w HF.out.2 HF.out.1 HN.out).mono ?_)
  rintro e w3 ⟨rfl, hb3⟩
  have HB3 := Lib.hid (HBc.out.more hb3)
  have HX3 := Lib.hid (HX.out.more hb3)
  have hlt : w.heap.size + 1 + 1 < w2.heap.size := HB2.out.r.lt
  have HB4 := Lib.hid (HB3.out.set (i := 1) (v := .int .u64 (n : Int)) hlt)
  have HX4 := Lib.hid (show BoxL (w3.setCell ⟨w2.heap.size, 1, none⟩ (.int .u64 (n : Int))) w2.heap.size ⟨0, n, a.i⟩ from HX3.out.set1 n)
  clear hb3 p0 p1 p2 q0 q1 q2 r0 r1 r2 t0 t1 t2 u0 u1 u2 v0 v1 v2
  obtain ⟨x0, x1, x2⟩ := HX3.out.lab
  obtain ⟨fx0, fx1, fx2⟩ := HX3.out.frozen
  obtain ⟨y0, y1, y2⟩ := HX4.out.lab
  obtain ⟨z0, z1, z2⟩ := HB4.out.r.lab
  obtain ⟨fz0, fz1, fz2⟩ := HB4.out.r.frozen
  have HU := Lib.hid (show Below w.heap.size w ((((w3.setCell ⟨w2.heap.size, 1, none⟩ (.int .u64 (n : Int))).setCell ⟨w.heap.size + 1 + 1, 0, none⟩ (.int .i64 0)).setCell ⟨w.heap.size + 1 + 1, 1, none⟩ (.int .u64 (n : Int))).setCell ⟨w.heap.size + 1 + 1, 2, none⟩ (.int .i64 a.i)) ∧ BoxL ((((w3.setCell ⟨w2.heap.size, 1, none⟩ (.int .u64 (n : Int))).setCell ⟨w.heap.size + 1 + 1, 0, none⟩ (.int .i64 0)).setCell ⟨w.heap.size + 1 + 1, 1, none⟩ (.int .u64 (n : Int))).setCell ⟨w.heap.size + 1 + 1, 2, none⟩ (.int .i64 a.i)) (w.heap.size + 1 + 1) ⟨0, n, a.i⟩ from ⟨below_set3 HB4.out.b (by omega) _ _ _, HB4.out.r.set ⟨0, n, a.i⟩⟩)
  clear hlt
  go_wp2
  obtain ⟨c0, c1, c2⟩ := HU.out.2.lab
  have hbf := HU.out.1
  clear HU
  refine bodyPost_ret (v := .tuple #[.agg #[.int .i64 0, .int .u64 (n : Int), .int .i64 a.i], .nilIface]) ?_ rfl ⟨⟨_, ErrIs.ok, by rw [HG.out]⟩, hbf⟩
  clear hbf x0 x1 x2 fx0 fx1 fx2 y0 y1 y2 z0 z1 z2 fz0 fz1 fz2
  generalize (((w3.setCell ⟨w2.heap.size, 1, none⟩ (.int .u64 (n : Int))).setCell ⟨w.heap.size + 1 + 1, 0, none⟩ (.int .i64 0)).setCell ⟨w.heap.size + 1 + 1, 1, none⟩ (.int .u64 (n : Int))).setCell ⟨w.heap.size + 1 + 1, 2, none⟩ (.int .i64 a.i) = WF at c0 c1 c2 ⊢
  simp [results, Tryd.results35, go_sem, c0, c1, c2]

set_option maxRecDepth 100000 in
set_option maxHeartbeats 4000000 in
theorem floGain_y3 {s : Sn} {cur a : Lab} {w : World} (hc : cur.fits) (ha : a.fits) (hs : Sent s w) (hr : (cur.right && a.right) = true) (k1 : ¬ cur.l < a.l) (k2 : ¬ a.i < cur.i) :
    Calls Tryd.prog 35 #[.agg #[.int .i64 cur.l, .int .u64 cur.c, .int .i64 cur.i], .agg #[.int .i64 a.l, .int .u64 a.c, .int .i64 a.i]] w (LvP s 0 (gapL cur a) w) := by
  have HB := Lib.hid (Fg.of w cur a)
  have HJ := Lib.hid (judge2_w (s := s) (W := (((w.alloc (.cells #[.int .i64 cur.l, .int .u64 cur.c, .int .i64 cur.i] 42)).alloc (.cells #[.int .i64 a.l, .int .u64 a.c, .int .i64 a.i] 24)).alloc (.cells #[.int .i64 0, .int .u64 0, .int .i64 0] 24))) (Z := w.heap.size + 1 + 1 + 1) (by simp) hc ha hr (hs.more HB.out.b))
  have hd1 : decide (a.l > cur.l) = false := decide_eq_false (by omega)
  have hd2 : decide (a.i < cur.i) = false := decide_eq_false k2
  obtain ⟨n, hn⟩ : ∃ n, lessN a.c cur.c = n := ⟨_, rfl⟩
  have HG := Lib.hid (show gapL cur a = ⟨0, n, 7⟩ by unfold gapL; rw [if_neg k1, if_neg k2, hn])
  have HN := Lib.hid hn
  have HF := Lib.hid (And.intro hc ha)
  clear hc ha hs hr k1 k2 hn
  go_enter Tryd.func35, Tryd.ntmps35
  go_wp2_with (go_at_call 44; refine HJ.out.mono ?_)
  rintro e w1 ⟨rfl, hb1⟩
  have HB1 := Lib.hid (HB.out.more hb1)
  clear hb1
  have hv : judgeV s true = .nilIface := rfl
  rw [hv]
  go_wp2_with (go_at_call 27; refine (bottom_any _).mono ?_)
  rintro e w2 ⟨rfl, hb2⟩
  have HB2 := Lib.hid (HB1.out.more hb2)
  clear hb2
  have HBa := Lib.hid (show Fg w (w2.alloc (.cells #[.int .i64 0, .int .u64 0, .int .i64 7] 24)) cur a from HB2.out.more (Below.new w2 _))
  have HBb := Lib.hid (show Fg w (w2.alloc (.cells #[.int .i64 0, .int .u64 0, .int .i64 7] 24)) cur a from HB2.out.more (Below.new w2 _))
  have HBc := Lib.hid (show Fg w (w2.alloc (.cells #[.int .i64 0, .int .u64 0, .int .i64 7] 24)) cur a from HB2.out.more (Below.new w2 _))
  have HX := Lib.hid (show BoxL (w2.alloc (.cells #[.int .i64 0, .int .u64 0, .int .i64 7] 24)) w2.heap.size ⟨0, 0, 7⟩ from BoxL.new w2 ⟨0, 0, 7⟩)
  obtain ⟨p0, p1, p2⟩ := HBa.out.c.lab
  obtain ⟨q0, q1, q2⟩ := HBa.out.a.lab
  obtain ⟨r0, r1, r2⟩ := HBb.out.c.lab
  obtain ⟨t0, t1, t2⟩ := HBb.out.a.lab
  obtain ⟨u0, u1, u2⟩ := HBc.out.c.lab
  obtain ⟨v0, v1, v2⟩ := HBc.out.a.lab
  go_wp2_with (go_at_call 48; refine (GLess_w HF.out.2 HF.out.1 HN.out).mono ?_)
  rintro e w3 ⟨rfl, hb3⟩
  have HB3 := Lib.hid (HBc.out.more hb3)
  have HX3 := Lib.hid (HX.out.more hb3)
  have hlt : w.heap.size + 1 + 1 < w2.heap.size := HB2.out.r.lt
  have HB4 := Lib.hid (HB3.out.set (i := 1) (v := .int .u64 (n : Int)) hlt)
  have HX4 := Lib.hid (show BoxL (w3.setCell ⟨w2.heap.size, 1, none⟩ (.int .u64 (n : Int))) w2.heap.size ⟨0, n, 7⟩ from HX3.out.set1 n)
  clear hb3 p0 p1 p2 q0 q1 q2 r0 r1 r2 t0 t1 t2 u0 u1 u2 v0 v1 v2
  obtain ⟨x0, x1, x2⟩ := HX3.out.lab
  obtain ⟨fx0, fx1, fx2⟩ := HX3.out.frozen
  obtain ⟨y0, y1, y2⟩ := HX4.out.lab
  obtain ⟨z0, z1, z2⟩ := HB4.out.r.lab
  obtain ⟨fz0, fz1, fz2⟩ := HB4.out.r.frozen
  have HU := Lib.hid (show Below w.heap.size w ((((w3.setCell ⟨w2.heap.size, 1, none⟩ (.int .u64 (n : Int))).setCell ⟨w.heap.size + 1 + 1, 0, none⟩ (.int .i64 0)).setCell ⟨w.heap.size + 1 + 1, 1, none⟩ (.int .u64 (n : Int))).setCell ⟨w.heap.size + 1 + 1, 2, none⟩ (.int .i64 7)) ∧ BoxL ((((w3.setCell ⟨w2.heap.size, 1, none⟩ (.int .u64 (n : Int))).setCell ⟨w.heap.size + 1 + 1, 0, none⟩ (.int .i64 0)).setCell ⟨w.heap.size + 1 + 1, 1, none⟩ (.int .u64 (n : Int))).setCell ⟨w.heap.size + 1 + 1, 2, none⟩ (.int .i64 7)) (w.heap.size + 1 + 1) ⟨0, n, 7⟩ from ⟨below_set3 HB4.out.b (by omega) _ _ _, HB4.out.r.set ⟨0, n, 7⟩⟩)
  clear hlt
  go_wp2
  obtain ⟨c0, c1, c2⟩ := HU.out.2.lab
  have hbf := HU.out.1
  clear HU
  refine bodyPost_ret (v := .tuple #[.agg #[.int .i64 0, .int .u64 (n : Int), .int .i64 7], .nilIface]) ?_ rfl ⟨⟨_, ErrIs.ok, by rw [HG.out]⟩, hbf⟩
  clear hbf x0 x1 x2 fx0 fx1 fx2 y0 y1 y2 z0 z1 z2 fz0 fz1 fz2
  generalize (((w3.setCell ⟨w2.heap.size, 1, none⟩ (.int .u64 (n : Int))).setCell ⟨w.heap.size + 1 + 1, 0, none⟩ (.int .i64 0)).setCell ⟨w.heap.size + 1 + 1, 1, none⟩ (.int .u64 (n : Int))).setCell ⟨w.heap.size + 1 + 1, 2, none⟩ (.int .i64 7) = WF at c0 c1 c2 ⊢
  simp [results, Tryd.results35, go_sem, c0, c1, c2]

theorem floGain_w {s : Sn} {cur a x : Lab} {c : Int} {w : World} (hc : cur.fits) (ha : a.fits) (h : gainL cur a = (c, x)) (hs : Sent s w) :
    Calls Tryd.prog 35 #[.agg #[.int .i64 cur.l, .int .u64 cur.c, .int .i64 cur.i], .agg #[.int .i64 a.l, .int .u64 a.c, .int .i64 a.i]] w (LvP s c x w) := by
  cases hr : (cur.right && a.right) with
  | false =>
    rw [gain_bad hr] at h
    obtain ⟨rfl, rfl⟩ := Prod.mk.inj h
    exact floGain_0 hc ha hs hr
  | true =>
    rw [gain_ok hr] at h
    obtain ⟨rfl, rfl⟩ := Prod.mk.inj h
    by_cases k1 : cur.l < a.l
    · by_cases k2 : a.i < cur.i
      · exact floGain_y0 hc ha hs hr k1 k2
      · exact floGain_y1 hc ha hs hr k1 k2
    · by_cases k2 : a.i < cur.i
      · exact floGain_y2 hc ha hs hr k1 k2
      · exact floGain_y3 hc ha hs hr k1 k2
end Go.Proofs.YtciohfeifihobaaDoor
