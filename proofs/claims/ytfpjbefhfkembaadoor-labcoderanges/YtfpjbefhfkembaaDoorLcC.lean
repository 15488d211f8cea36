/- Merged texts: LcTwo, LcTop -/
import Derived.Test.YtfpjbefhfkembaaDoorLcB
import Derived.Test.YtfpjbefhfkembaaDoorLabA
import Derived.Test.YtfpjbefhfkembaaDoorLcA
/- A range's two labels: judge, two. -/
namespace Go.Proofs.YtfpjbefhfkembaaDoor
open Go.RowKit Go.Shelf Go.Proofs.Fld Go.Proofs.Cats Go.Proofs.Lcd

/-- What judge tells. -/
def spanE (t : SnL) (a b : Lab) : Value := if (a.same b || a.under b) = true then .nilIface else faultL 0 t.o
theorem spanE_yes {t : SnL} {a b : Lab} (h : (a.same b || a.under b) = true) : spanE t a b = .nilIface := by unfold spanE; rw [if_pos h]
theorem spanE_no {t : SnL} {a b : Lab} (h : (a.same b || a.under b) = false) : spanE t a b = faultL 0 t.o := by unfold spanE; rw [if_neg (by rw [h]; decide)]
theorem under_self {a : Lab} (hf : a.fits) (h : a.right = true) : a.under a = true := (Lab.under_iff a a hf hf).2 ⟨h, h, Int.le_refl _, SubN.refl _, Int.le_refl _⟩
theorem same_or_under {a b : Lab} (hf : a.fits) (h : a.right = true) : (a.same b || a.under b) = a.under b := by
  cases hs : a.same b
  · rfl
  · obtain rfl := (Lab.same_iff a b).1 hs
    rw [under_self hf h]; rfl

set_option maxHeartbeats 1000000 in
theorem span_any (s : Sn) (t : SnL) (hq : t.q = true) (a b : Lab) (ha : a.fits) (hb : b.fits) (w : World) (hs : SentL s t w) :
    Calls Tryd.prog 33 #[.agg #[.int .i64 a.l, .int .u64 a.c, .int .i64 a.i, .int .i64 b.l, .int .u64 b.c, .int .i64 b.i]] w fun e w' => e = .returned (spanE t a b) ∧ Below w.heap.size w w' := by
  have q1 := Lb.eqL a b
  have q2 := Lb.eqInL a b
  have HS := Lib.hid hs
  clear hs
  have B1 := Below.new w (.cells #[.int .i64 a.l, .int .u64 a.c, .int .i64 a.i, .int .i64 b.l, .int .u64 b.c, .int .i64 b.i] 64)
  cases h : a.same b
  · cases k : a.under b
    · rw [spanE_no (by rw [h, k]; rfl)]
      have K := Lib.hid k
      clear k
      go_enter Tryd.func33, Tryd.ntmps33
      go_wp2_with fail
      refine (Lb.Under_any a b ha hb _).mono ?_
      rintro e w1 ⟨he, hb1⟩
      rw [K.out] at he
      subst he
      have g := (HS.out.more (below_more B1 hb1)).co hq
      go_wp2
      go_ret
      exact ⟨rfl, below_more B1 hb1⟩
    · rw [spanE_yes (by rw [h, k]; rfl)]
      have K := Lib.hid k
      clear k
      go_enter Tryd.func33, Tryd.ntmps33
      go_wp2_with fail
      refine (Lb.Under_any a b ha hb _).mono ?_
      rintro e w1 ⟨he, hb1⟩
      rw [K.out] at he
      subst he
      go_wp2
      go_ret
      exact ⟨rfl, below_more B1 hb1⟩
  · rw [spanE_yes (by rw [h]; rfl)]
    go_enter Tryd.func33, Tryd.ntmps33
    go_wp2
    go_ret
    exact ⟨rfl, B1⟩

theorem set6O {W : World} {b B o : Nat} {v v0 v1 v2 v3 v4 v5 : Value} (h : W.cell? ⟨B, o, none⟩ = some v) (hne : b ≠ B) : ((((((W.setCell ⟨b, 0, none⟩ v0).setCell ⟨b, 1, none⟩ v1).setCell ⟨b, 2, none⟩ v2).setCell ⟨b, 3, none⟩ v3).setCell ⟨b, 4, none⟩ v4).setCell ⟨b, 5, none⟩ v5).cell? ⟨B, o, none⟩ = some v :=
  Lb.setO (Lb.setO (Lb.setO (Lb.setO (Lb.setO (Lb.setO h (Lb.ne_blk hne)) (Lb.ne_blk hne)) (Lb.ne_blk hne)) (Lb.ne_blk hne)) (Lb.ne_blk hne)) (Lb.ne_blk hne)
theorem set6S {W : World} {b : Nat} {p0 p1 p2 p3 p4 p5 v0 v1 v2 v3 v4 v5 : Value} (h0 : W.cell? ⟨b, 0, none⟩ = some p0) (h1 : W.cell? ⟨b, 1, none⟩ = some p1) (h2 : W.cell? ⟨b, 2, none⟩ = some p2) (h3 : W.cell? ⟨b, 3, none⟩ = some p3) (h4 : W.cell? ⟨b, 4, none⟩ = some p4) (h5 : W.cell? ⟨b, 5, none⟩ = some p5) :
    ((((((W.setCell ⟨b, 0, none⟩ v0).setCell ⟨b, 1, none⟩ v1).setCell ⟨b, 2, none⟩ v2).setCell ⟨b, 3, none⟩ v3).setCell ⟨b, 4, none⟩ v4).setCell ⟨b, 5, none⟩ v5).cell? ⟨b, 0, none⟩ = some v0 ∧ ((((((W.setCell ⟨b, 0, none⟩ v0).setCell ⟨b, 1, none⟩ v1).setCell ⟨b, 2, none⟩ v2).setCell ⟨b, 3, none⟩ v3).setCell ⟨b, 4, none⟩ v4).setCell ⟨b, 5, none⟩ v5).cell? ⟨b, 1, none⟩ = some v1 ∧ ((((((W.setCell ⟨b, 0, none⟩ v0).setCell ⟨b, 1, none⟩ v1).setCell ⟨b, 2, none⟩ v2).setCell ⟨b, 3, none⟩ v3).setCell ⟨b, 4, none⟩ v4).setCell ⟨b, 5, none⟩ v5).cell? ⟨b, 2, none⟩ = some v2 ∧ ((((((W.setCell ⟨b, 0, none⟩ v0).setCell ⟨b, 1, none⟩ v1).setCell ⟨b, 2, none⟩ v2).setCell ⟨b, 3, none⟩ v3).setCell ⟨b, 4, none⟩ v4).setCell ⟨b, 5, none⟩ v5).cell? ⟨b, 3, none⟩ = some v3 ∧ ((((((W.setCell ⟨b, 0, none⟩ v0).setCell ⟨b, 1, none⟩ v1).setCell ⟨b, 2, none⟩ v2).setCell ⟨b, 3, none⟩ v3).setCell ⟨b, 4, none⟩ v4).setCell ⟨b, 5, none⟩ v5).cell? ⟨b, 4, none⟩ = some v4 ∧ ((((((W.setCell ⟨b, 0, none⟩ v0).setCell ⟨b, 1, none⟩ v1).setCell ⟨b, 2, none⟩ v2).setCell ⟨b, 3, none⟩ v3).setCell ⟨b, 4, none⟩ v4).setCell ⟨b, 5, none⟩ v5).cell? ⟨b, 5, none⟩ = some v5 :=
  ⟨(Lb.setO (Lb.setO (Lb.setO (Lb.setO (Lb.setO (Lb.setS _ h0) (Lb.ne_off (by omega))) (Lb.ne_off (by omega))) (Lb.ne_off (by omega))) (Lb.ne_off (by omega))) (Lb.ne_off (by omega))), (Lb.setO (Lb.setO (Lb.setO (Lb.setO (Lb.setS _ (Lb.setO h1 (Lb.ne_off (by omega)))) (Lb.ne_off (by omega))) (Lb.ne_off (by omega))) (Lb.ne_off (by omega))) (Lb.ne_off (by omega))), (Lb.setO (Lb.setO (Lb.setO (Lb.setS _ (Lb.setO (Lb.setO h2 (Lb.ne_off (by omega))) (Lb.ne_off (by omega)))) (Lb.ne_off (by omega))) (Lb.ne_off (by omega))) (Lb.ne_off (by omega))), (Lb.setO (Lb.setO (Lb.setS _ (Lb.setO (Lb.setO (Lb.setO h3 (Lb.ne_off (by omega))) (Lb.ne_off (by omega))) (Lb.ne_off (by omega)))) (Lb.ne_off (by omega))) (Lb.ne_off (by omega))), (Lb.setO (Lb.setS _ (Lb.setO (Lb.setO (Lb.setO (Lb.setO h4 (Lb.ne_off (by omega))) (Lb.ne_off (by omega))) (Lb.ne_off (by omega))) (Lb.ne_off (by omega)))) (Lb.ne_off (by omega))), (Lb.setS _ (Lb.setO (Lb.setO (Lb.setO (Lb.setO (Lb.setO h5 (Lb.ne_off (by omega))) (Lb.ne_off (by omega))) (Lb.ne_off (by omega))) (Lb.ne_off (by omega))) (Lb.ne_off (by omega))))⟩
theorem set6B {n : Nat} {w W : World} (h : Below n w W) {b : Nat} (hb : n ≤ b) (v0 v1 v2 v3 v4 v5 : Value) : Below n w ((((((W.setCell ⟨b, 0, none⟩ v0).setCell ⟨b, 1, none⟩ v1).setCell ⟨b, 2, none⟩ v2).setCell ⟨b, 3, none⟩ v3).setCell ⟨b, 4, none⟩ v4).setCell ⟨b, 5, none⟩ v5) :=
  ((((((h.setCell (p := ⟨b, 0, none⟩) hb _).setCell (p := ⟨b, 1, none⟩) hb _).setCell (p := ⟨b, 2, none⟩) hb _).setCell (p := ⟨b, 3, none⟩) hb _).setCell (p := ⟨b, 4, none⟩) hb _).setCell (p := ⟨b, 5, none⟩) hb _)
theorem set6F {W : World} {b B o : Nat} {v0 v1 v2 v3 v4 v5 : Value} (h : W.frozen? ⟨B, o, none⟩ = false) : ((((((W.setCell ⟨b, 0, none⟩ v0).setCell ⟨b, 1, none⟩ v1).setCell ⟨b, 2, none⟩ v2).setCell ⟨b, 3, none⟩ v3).setCell ⟨b, 4, none⟩ v4).setCell ⟨b, 5, none⟩ v5).frozen? ⟨B, o, none⟩ = false :=
  (Lb.setF (Lb.setF (Lb.setF (Lb.setF (Lb.setF (Lb.setF h))))))
theorem only_cellv {a b : World} {R B o : Nat} {v : Value} (h : a.grownBy b (some R)) (hc : a.cell? ⟨B, o, none⟩ = some v) (hne : B ≠ R) : b.cell? ⟨B, o, none⟩ = some v :=
  (only_cell h (World.block_lt_of_cell? a _ hc) hne).trans hc
theorem only_froz {a b : World} {R B o : Nat} (h : a.grownBy b (some R)) (hl : B < a.heap.size) (hf : a.frozen? ⟨B, o, none⟩ = false) (hne : B ≠ R) : b.frozen? ⟨B, o, none⟩ = false :=
  (World.frozen?_of_block (a := ⟨B, o, none⟩) (h.block _ hl (fun e => hne (by injection e)))).trans hf

/-- Six cells that may be written. -/
structure Six (W : World) (b : Nat) (v0 v1 v2 v3 v4 v5 : Value) : Prop where
  c0 : W.cell? ⟨b, 0, none⟩ = some v0
  c1 : W.cell? ⟨b, 1, none⟩ = some v1
  c2 : W.cell? ⟨b, 2, none⟩ = some v2
  c3 : W.cell? ⟨b, 3, none⟩ = some v3
  c4 : W.cell? ⟨b, 4, none⟩ = some v4
  c5 : W.cell? ⟨b, 5, none⟩ = some v5
  f0 : W.frozen? ⟨b, 0, none⟩ = false
  f1 : W.frozen? ⟨b, 1, none⟩ = false
  f2 : W.frozen? ⟨b, 2, none⟩ = false
  f3 : W.frozen? ⟨b, 3, none⟩ = false
  f4 : W.frozen? ⟨b, 4, none⟩ = false
  f5 : W.frozen? ⟨b, 5, none⟩ = false
theorem Six.kept {A B : World} {R b : Nat} {v0 v1 v2 v3 v4 v5 : Value} (h : Six A b v0 v1 v2 v3 v4 v5) (hg : A.grownBy B (some R)) (hne : b ≠ R) : Six B b v0 v1 v2 v3 v4 v5 :=
  have hl := World.block_lt_of_cell? A _ h.c0
  ⟨only_cellv hg h.c0 hne, only_cellv hg h.c1 hne, only_cellv hg h.c2 hne, only_cellv hg h.c3 hne, only_cellv hg h.c4 hne, only_cellv hg h.c5 hne, only_froz hg hl h.f0 hne, only_froz hg hl h.f1 hne, only_froz hg hl h.f2 hne, only_froz hg hl h.f3 hne, only_froz hg hl h.f4 hne, only_froz hg hl h.f5 hne⟩
theorem Six.below {A B : World} {b : Nat} {v0 v1 v2 v3 v4 v5 : Value} (h : Six A b v0 v1 v2 v3 v4 v5) (hb : Below A.heap.size A B) : Six B b v0 v1 v2 v3 v4 v5 :=
  have hl := World.block_lt_of_cell? A _ h.c0
  ⟨cell_later hb h.c0, cell_later hb h.c1, cell_later hb h.c2, cell_later hb h.c3, cell_later hb h.c4, cell_later hb h.c5, (hb.frozen (p := ⟨b, 0, none⟩) hl).trans h.f0, (hb.frozen (p := ⟨b, 1, none⟩) hl).trans h.f1, (hb.frozen (p := ⟨b, 2, none⟩) hl).trans h.f2, (hb.frozen (p := ⟨b, 3, none⟩) hl).trans h.f3, (hb.frozen (p := ⟨b, 4, none⟩) hl).trans h.f4, (hb.frozen (p := ⟨b, 5, none⟩) hl).trans h.f5⟩

theorem six_new (w : World) (T : TypeId) : Six (w.alloc (.cells #[.int .i64 0, .int .u64 0, .int .i64 0, .int .i64 0, .int .u64 0, .int .i64 0] T)) w.heap.size (.int .i64 0) (.int .u64 0) (.int .i64 0) (.int .i64 0) (.int .u64 0) (.int .i64 0) := by constructor <;> simp

/-- What two tells. -/
def TwoPost (t : SnL) (R : Nat) (l : List UInt8) (w : World) (e : Ending) (w' : World) : Prop :=
  ∃ (ev : Value), ErrL t ev (getRangeR l).2.2.2 ∧ e = .returned (.tuple #[.agg #[.int .i64 (getRangeR l).1.l, .int .u64 (getRangeR l).1.c, .int .i64 (getRangeR l).1.i, .int .i64 (getRangeR l).2.1.l, .int .u64 (getRangeR l).2.1.c, .int .i64 (getRangeR l).2.1.i], ev]) ∧ w.grownBy w' (some R) ∧ ((getRangeR l).2.2.2 = 0 → ∃ k, Cd w' R (getRangeR l).2.2.1 k)

theorem rangeR_1 {l : List UInt8} (h : (getR l).2.2 ≠ 0) : getRangeR l = (Lab.zero, Lab.zero, [], (getR l).2.2) := by unfold getRangeR; rw [if_neg h]
theorem rangeR_2 {l : List UInt8} (h : (getR l).2.2 = 0) (h2 : (getR (getR l).2.1).2.2 ≠ 0) : getRangeR l = (Lab.zero, Lab.zero, [], (getR (getR l).2.1).2.2) := by unfold getRangeR; rw [if_pos h, if_neg h2]
theorem rangeR_3 {l : List UInt8} (h : (getR l).2.2 = 0) (h2 : (getR (getR l).2.1).2.2 = 0) (h3 : (getR l).1.under (getR (getR l).2.1).1 = false) : getRangeR l = (Lab.zero, Lab.zero, [], 40) := by unfold getRangeR; rw [if_pos h, if_pos h2, if_neg (by rw [h3]; decide)]
theorem rangeR_4 {l : List UInt8} (h : (getR l).2.2 = 0) (h2 : (getR (getR l).2.1).2.2 = 0) (h3 : (getR l).1.under (getR (getR l).2.1).1 = true) : getRangeR l = ((getR l).1, (getR (getR l).2.1).1, (getR (getR l).2.1).2.1, 0) := by unfold getRangeR; rw [if_pos h, if_pos h2, if_pos h3]

set_option maxRecDepth 100000 in
set_option maxHeartbeats 1000000 in
theorem two_1 (s : Sn) (t : SnL) (hq : t.q = true) (w0 : World) (hs : SentL s t w0) (R : Nat) (_hR0 : w0.heap.size ≤ R) (l : List UInt8) (k : Int) (h1 : (getR l).2.2 ≠ 0) (w : World) (hw : Below w0.heap.size w0 w) (hC : Cd w R l k) :
    Calls Tryd.prog 35 #[.pointer (some ⟨R, 0, none⟩)] w (TwoPost t R l w) := by
  have hRl := hC.lt
  have hne : w.heap.size ≠ R := by omega
  have hn := Below.new w (.cells #[.int .i64 0, .int .u64 0, .int .i64 0, .int .i64 0, .int .u64 0, .int .i64 0] 64)
  have six0 := six_new w 64
  have C0 := Lib.hid (hC.more hn)
  have HW := Lib.hid (And.intro hs (And.intro hw hn))
  have HB0 := Lib.hid (hw.trans (hn.mono hw.size))
  have HQ := Lib.hid hq
  clear hC hs hw hn hq
  have H1 := Lib.hid h1
  clear h1
  go_enter Tryd.func35, Tryd.ntmps35
  go_wp2_with (go_at_call 31; refine (next_any s t w0 HW.out.1 R l k _ HB0.out C0.out).mono ?_)
  rintro e w1 ⟨ev, hev, rfl, hg, hok⟩
  obtain ⟨fv, rfl⟩ := errL_some hev H1.out
  have six1 := six0.kept hg hne
  have hO1 := only_trans (only_of R HW.out.2.2) hg
  have hz := hO1.size
  have hz0 : (getR l).1 = ⟨0, 0, 0⟩ := by rw [getR_err H1.out]; rfl
  rw [hz0]
  simp only
  have hn1 := Below.new w1 (.cells #[.int .i64 0, .int .u64 0, .int .i64 0] 24)
  have six2 := six1.below hn1
  have hO2 := only_below hO1 hn1 hz
  have HE := Lib.hid hev
  clear six0 six1 hok hev
  have c0 := six2.c0
  have f0 := six2.f0
  have c1 := six2.c1
  have f1 := six2.f1
  have c2 := six2.c2
  have f2 := six2.f2
  have c3 := six2.c3
  have f3 := six2.f3
  have c4 := six2.c4
  have f4 := six2.f4
  have c5 := six2.c5
  have f5 := six2.f5
  obtain ⟨y0, y1, y2, y3, y4, y5⟩ := set6S (v0 := .int .i64 0) (v1 := .int .u64 0) (v2 := .int .i64 0) (v3 := .int .i64 0) (v4 := .int .u64 0) (v5 := .int .i64 0) six2.c0 six2.c1 six2.c2 six2.c3 six2.c4 six2.c5
  have yO := only_below hO2 (set6B (Below.refl w.heap.size (w1.alloc (.cells #[.int .i64 0, .int .u64 0, .int .i64 0] 24))) (Nat.le_refl _) (.int .i64 0) (.int .u64 0) (.int .i64 0) (.int .i64 0) (.int .u64 0) (.int .i64 0)) (Nat.le_refl _)
  clear six2
  go_wp2
  generalize (((((((w1.alloc (.cells #[.int .i64 0, .int .u64 0, .int .i64 0] 24)).setCell ⟨w.heap.size, 0, none⟩ (.int .i64 0)).setCell ⟨w.heap.size, 1, none⟩ (.int .u64 0)).setCell ⟨w.heap.size, 2, none⟩ (.int .i64 0)).setCell ⟨w.heap.size, 3, none⟩ (.int .i64 0)).setCell ⟨w.heap.size, 4, none⟩ (.int .u64 0)).setCell ⟨w.heap.size, 5, none⟩ (.int .i64 0)) = WF at y0 y1 y2 y3 y4 y5 yO ⊢
  refine bodyPost_ret (v := .tuple #[.agg #[.int .i64 0, .int .u64 0, .int .i64 0, .int .i64 0, .int .u64 0, .int .i64 0], .iface 84 fv]) (by simp [results, Tryd.results35, go_sem, y0, y1, y2, y3, y4, y5]) rfl ?_
  refine ⟨.iface 84 fv, ?_, ?_, yO, ?_⟩
  · rw [rangeR_1 H1.out]; exact HE.out
  · rw [rangeR_1 H1.out]; rfl
  · rw [rangeR_1 H1.out]; intro h; exact absurd h H1.out

set_option maxRecDepth 100000 in
set_option maxHeartbeats 1000000 in
theorem two_2 (s : Sn) (t : SnL) (hq : t.q = true) (w0 : World) (hs : SentL s t w0) (R : Nat) (hR0 : w0.heap.size ≤ R) (l : List UInt8) (k : Int) (h1 : (getR l).2.2 = 0) (h2 : (getR (getR l).2.1).2.2 ≠ 0) (w : World) (hw : Below w0.heap.size w0 w) (hC : Cd w R l k) :
    Calls Tryd.prog 35 #[.pointer (some ⟨R, 0, none⟩)] w (TwoPost t R l w) := by
  have hRl := hC.lt
  have hne : w.heap.size ≠ R := by omega
  have hn := Below.new w (.cells #[.int .i64 0, .int .u64 0, .int .i64 0, .int .i64 0, .int .u64 0, .int .i64 0] 64)
  have six0 := six_new w 64
  have C0 := Lib.hid (hC.more hn)
  have HW := Lib.hid (And.intro hs (And.intro hw hn))
  have HB0 := Lib.hid (hw.trans (hn.mono hw.size))
  have HQ := Lib.hid hq
  clear hC hs hw hn hq
  have H1 := Lib.hid h1
  have H2 := Lib.hid h2
  clear h1 h2
  go_enter Tryd.func35, Tryd.ntmps35
  go_wp2_with (go_at_call 31; refine (next_any s t w0 HW.out.1 R l k _ HB0.out C0.out).mono ?_)
  rintro e w1 ⟨ev, hev, rfl, hg, hok⟩
  obtain ⟨a, ha⟩ : ∃ a, (getR l).1 = a := ⟨_, rfl⟩
  obtain ⟨r, hr⟩ : ∃ r, (getR l).2.1 = r := ⟨_, rfl⟩
  have hrd : l.drop 10 = r := by rw [← hr, (getR_zero H1.out).2.2]
  obtain ⟨k1, hC1⟩ := hok H1.out
  rw [hrd] at hC1
  rw [H1.out] at hev
  obtain rfl := errL_zero hev
  have hfa : a.fits := ha ▸ getR_fits l
  have hra : a.right = true := by rw [← ha, (getR_zero H1.out).2.2]; exact (getR_zero H1.out).2.1
  rw [ha]
  have six1 := six0.kept hg hne
  have hO1 := only_trans (only_of R HW.out.2.2) hg
  have hz := hO1.size
  have hn1 := Below.new w1 (.cells #[.int .i64 a.l, .int .u64 a.c, .int .i64 a.i] 24)
  have six2 := six1.below hn1
  have hO2 := only_below hO1 hn1 hz
  have C1 := Lib.hid (hC1.more hn1)
  have HB1 := Lib.hid (below_only HW.out.2.1 hO2 (Nat.le_refl _) hR0)
  have HA := Lib.hid (And.intro ha (And.intro hr (And.intro hfa hra)))
  have hl1 : w1.heap.size ≠ R := by omega
  have l0 : (w1.alloc (.cells #[.int .i64 a.l, .int .u64 a.c, .int .i64 a.i] 24)).cell? ⟨w1.heap.size, 0, none⟩ = some (.int .i64 a.l) := by simp
  have l1 : (w1.alloc (.cells #[.int .i64 a.l, .int .u64 a.c, .int .i64 a.i] 24)).cell? ⟨w1.heap.size, 1, none⟩ = some (.int .u64 a.c) := by simp
  have l2 : (w1.alloc (.cells #[.int .i64 a.l, .int .u64 a.c, .int .i64 a.i] 24)).cell? ⟨w1.heap.size, 2, none⟩ = some (.int .i64 a.i) := by simp
  have HL := Lib.hid (And.intro l0 (And.intro l1 l2))
  have HX := Lib.hid (And.intro hO2 six2)
  clear six0 six1 hok hev hC1 ha hr hrd hfa hra hn1 l0 l1 l2 hO1 hO2 six2 hg
  go_wp2_with (go_at_call 31; refine (next_any s t w0 HW.out.1 R r k1 _ HB1.out C1.out).mono ?_)
  rintro e w2 ⟨ev2, hev, rfl, hg, hok⟩
  have hO3 := only_trans HX.out.1 hg
  have hz2 := hO3.size
  have six3 := HX.out.2.kept hg hne
  have hz3 : w1.heap.size + 1 ≤ w2.heap.size := by have := hg.size; simpa using this
  have hr2 : (getR r).2.2 ≠ 0 := by rw [← HA.out.2.1]; exact H2.out
  obtain ⟨fv, rfl⟩ := errL_some hev hr2
  have hz0 : (getR r).1 = ⟨0, 0, 0⟩ := by rw [getR_err hr2]; rfl
  rw [hz0]
  simp only
  have hn2 := Below.new w2 (.cells #[.int .i64 0, .int .u64 0, .int .i64 0] 24)
  have six4 := six3.below hn2
  have hO4 := only_below hO3 hn2 hz2
  have HE := Lib.hid hev
  clear six3 hok hev
  have c0 := six4.c0
  have f0 := six4.f0
  have c1 := six4.c1
  have f1 := six4.f1
  have c2 := six4.c2
  have f2 := six4.f2
  have c3 := six4.c3
  have f3 := six4.f3
  have c4 := six4.c4
  have f4 := six4.f4
  have c5 := six4.c5
  have f5 := six4.f5
  obtain ⟨y0, y1, y2, y3, y4, y5⟩ := set6S (v0 := .int .i64 0) (v1 := .int .u64 0) (v2 := .int .i64 0) (v3 := .int .i64 0) (v4 := .int .u64 0) (v5 := .int .i64 0) six4.c0 six4.c1 six4.c2 six4.c3 six4.c4 six4.c5
  have yO := only_below hO4 (set6B (Below.refl w.heap.size (w2.alloc (.cells #[.int .i64 0, .int .u64 0, .int .i64 0] 24))) (Nat.le_refl _) (.int .i64 0) (.int .u64 0) (.int .i64 0) (.int .i64 0) (.int .u64 0) (.int .i64 0)) (Nat.le_refl _)
  clear six4
  go_wp2
  generalize (((((((w2.alloc (.cells #[.int .i64 0, .int .u64 0, .int .i64 0] 24)).setCell ⟨w.heap.size, 0, none⟩ (.int .i64 0)).setCell ⟨w.heap.size, 1, none⟩ (.int .u64 0)).setCell ⟨w.heap.size, 2, none⟩ (.int .i64 0)).setCell ⟨w.heap.size, 3, none⟩ (.int .i64 0)).setCell ⟨w.heap.size, 4, none⟩ (.int .u64 0)).setCell ⟨w.heap.size, 5, none⟩ (.int .i64 0)) = WF at y0 y1 y2 y3 y4 y5 yO ⊢
  refine bodyPost_ret (v := .tuple #[.agg #[.int .i64 0, .int .u64 0, .int .i64 0, .int .i64 0, .int .u64 0, .int .i64 0], .iface 84 fv]) (by simp [results, Tryd.results35, go_sem, y0, y1, y2, y3, y4, y5]) rfl ?_
  refine ⟨.iface 84 fv, ?_, ?_, yO, ?_⟩
  · rw [rangeR_2 H1.out H2.out, HA.out.2.1]; exact HE.out
  · rw [rangeR_2 H1.out H2.out]; rfl
  · rw [rangeR_2 H1.out H2.out]; intro h; exact absurd h H2.out

set_option maxRecDepth 100000 in
set_option maxHeartbeats 1000000 in
theorem two_3 (s : Sn) (t : SnL) (hq : t.q = true) (w0 : World) (hs : SentL s t w0) (R : Nat) (hR0 : w0.heap.size ≤ R) (l : List UInt8) (k : Int) (h1 : (getR l).2.2 = 0) (h2 : (getR (getR l).2.1).2.2 = 0) (h3 : (getR l).1.under (getR (getR l).2.1).1 = false) (w : World) (hw : Below w0.heap.size w0 w) (hC : Cd w R l k) :
    Calls Tryd.prog 35 #[.pointer (some ⟨R, 0, none⟩)] w (TwoPost t R l w) := by
  have hRl := hC.lt
  have hne : w.heap.size ≠ R := by omega
  have hn := Below.new w (.cells #[.int .i64 0, .int .u64 0, .int .i64 0, .int .i64 0, .int .u64 0, .int .i64 0] 64)
  have six0 := six_new w 64
  have C0 := Lib.hid (hC.more hn)
  have HW := Lib.hid (And.intro hs (And.intro hw hn))
  have HB0 := Lib.hid (hw.trans (hn.mono hw.size))
  have HQ := Lib.hid hq
  clear hC hs hw hn hq
  have H1 := Lib.hid h1
  have H2 := Lib.hid h2
  have H3 := Lib.hid h3
  clear h1 h2 h3
  go_enter Tryd.func35, Tryd.ntmps35
  go_wp2_with (go_at_call 31; refine (next_any s t w0 HW.out.1 R l k _ HB0.out C0.out).mono ?_)
  rintro e w1 ⟨ev, hev, rfl, hg, hok⟩
  obtain ⟨a, ha⟩ : ∃ a, (getR l).1 = a := ⟨_, rfl⟩
  obtain ⟨r, hr⟩ : ∃ r, (getR l).2.1 = r := ⟨_, rfl⟩
  have hrd : l.drop 10 = r := by rw [← hr, (getR_zero H1.out).2.2]
  obtain ⟨k1, hC1⟩ := hok H1.out
  rw [hrd] at hC1
  rw [H1.out] at hev
  obtain rfl := errL_zero hev
  have hfa : a.fits := ha ▸ getR_fits l
  have hra : a.right = true := by rw [← ha, (getR_zero H1.out).2.2]; exact (getR_zero H1.out).2.1
  rw [ha]
  have six1 := six0.kept hg hne
  have hO1 := only_trans (only_of R HW.out.2.2) hg
  have hz := hO1.size
  have hn1 := Below.new w1 (.cells #[.int .i64 a.l, .int .u64 a.c, .int .i64 a.i] 24)
  have six2 := six1.below hn1
  have hO2 := only_below hO1 hn1 hz
  have C1 := Lib.hid (hC1.more hn1)
  have HB1 := Lib.hid (below_only HW.out.2.1 hO2 (Nat.le_refl _) hR0)
  have HA := Lib.hid (And.intro ha (And.intro hr (And.intro hfa hra)))
  have hl1 : w1.heap.size ≠ R := by omega
  have l0 : (w1.alloc (.cells #[.int .i64 a.l, .int .u64 a.c, .int .i64 a.i] 24)).cell? ⟨w1.heap.size, 0, none⟩ = some (.int .i64 a.l) := by simp
  have l1 : (w1.alloc (.cells #[.int .i64 a.l, .int .u64 a.c, .int .i64 a.i] 24)).cell? ⟨w1.heap.size, 1, none⟩ = some (.int .u64 a.c) := by simp
  have l2 : (w1.alloc (.cells #[.int .i64 a.l, .int .u64 a.c, .int .i64 a.i] 24)).cell? ⟨w1.heap.size, 2, none⟩ = some (.int .i64 a.i) := by simp
  have HL := Lib.hid (And.intro l0 (And.intro l1 l2))
  have HX := Lib.hid (And.intro hO2 six2)
  clear six0 six1 hok hev hC1 ha hr hrd hfa hra hn1 l0 l1 l2 hO1 hO2 six2 hg
  go_wp2_with (go_at_call 31; refine (next_any s t w0 HW.out.1 R r k1 _ HB1.out C1.out).mono ?_)
  rintro e w2 ⟨ev2, hev, rfl, hg, hok⟩
  have hO3 := only_trans HX.out.1 hg
  have hz2 := hO3.size
  have six3 := HX.out.2.kept hg hne
  have hz3 : w1.heap.size + 1 ≤ w2.heap.size := by have := hg.size; simpa using this
  obtain ⟨b, hb⟩ : ∃ b, (getR r).1 = b := ⟨_, rfl⟩
  have hr2 : (getR r).2.2 = 0 := by rw [← HA.out.2.1]; exact H2.out
  rw [hr2] at hev
  obtain rfl := errL_zero hev
  have hfb : b.fits := hb ▸ getR_fits r
  rw [hb]
  have hn2 := Below.new w2 (.cells #[.int .i64 b.l, .int .u64 b.c, .int .i64 b.i] 24)
  have six4 := six3.below hn2
  have hO4 := only_below hO3 hn2 hz2
  have hn3 := Below.new (w2.alloc (.cells #[.int .i64 b.l, .int .u64 b.c, .int .i64 b.i] 24)) (.cells #[.int .i64 a.l, .int .u64 a.c, .int .i64 a.i, .int .i64 b.l, .int .u64 b.c, .int .i64 b.i] 64)
  have six5 := six4.below hn3
  have hO5 := only_below hO4 hn3 (by simp; omega)
  have l0 := cell_later hn2 (only_cellv hg HL.out.1 hl1)
  have l1 := cell_later hn2 (only_cellv hg HL.out.2.1 hl1)
  have l2 := cell_later hn2 (only_cellv hg HL.out.2.2 hl1)
  obtain ⟨k2, hC2⟩ := hok hr2
  have HC := Lib.hid ((hC2.more hn2).more hn3)
  have HBx := Lib.hid (below_only HW.out.2.1 hO5 (Nat.le_refl _) hR0)
  have HY := Lib.hid (And.intro hO5 six5)
  have HB := Lib.hid (And.intro hb (And.intro hfb hr2))
  clear six3 six4 hok hev hO3 hO4 hC2 hb hfb hr2 hn2 hn3 hg hO5 six5
  have hsp : spanE t a b = faultL 0 t.o := by
    have h3 := H3.out
    rw [HA.out.1, HA.out.2.1, HB.out.1] at h3
    exact spanE_no (by rw [same_or_under HA.out.2.2.1 HA.out.2.2.2]; exact h3)
  have HP := Lib.hid hsp
  clear hsp
  go_wp2_with (go_at_call 33; refine (span_any s t HQ.out a b HA.out.2.2.1 HB.out.2.1 _ (HW.out.1.below (Nat.le_refl _) HBx.out)).mono ?_)
  rintro e w3 ⟨he, hb3⟩
  rw [HP.out] at he
  subst he
  have six6 := HY.out.2.below hb3
  have hO6 := only_below HY.out.1 hb3 (by simp; omega)
  unfold faultL
  have c0 := six6.c0
  have f0 := six6.f0
  have c1 := six6.c1
  have f1 := six6.f1
  have c2 := six6.c2
  have f2 := six6.f2
  have c3 := six6.c3
  have f3 := six6.f3
  have c4 := six6.c4
  have f4 := six6.f4
  have c5 := six6.c5
  have f5 := six6.f5
  obtain ⟨y0, y1, y2, y3, y4, y5⟩ := set6S (v0 := .int .i64 0) (v1 := .int .u64 0) (v2 := .int .i64 0) (v3 := .int .i64 0) (v4 := .int .u64 0) (v5 := .int .i64 0) six6.c0 six6.c1 six6.c2 six6.c3 six6.c4 six6.c5
  have yO := only_below hO6 (set6B (Below.refl w.heap.size w3) (Nat.le_refl _) (.int .i64 0) (.int .u64 0) (.int .i64 0) (.int .i64 0) (.int .u64 0) (.int .i64 0)) (Nat.le_refl _)
  clear six6
  go_wp2
  generalize ((((((w3.setCell ⟨w.heap.size, 0, none⟩ (.int .i64 0)).setCell ⟨w.heap.size, 1, none⟩ (.int .u64 0)).setCell ⟨w.heap.size, 2, none⟩ (.int .i64 0)).setCell ⟨w.heap.size, 3, none⟩ (.int .i64 0)).setCell ⟨w.heap.size, 4, none⟩ (.int .u64 0)).setCell ⟨w.heap.size, 5, none⟩ (.int .i64 0)) = WF at y0 y1 y2 y3 y4 y5 yO ⊢
  refine bodyPost_ret (v := .tuple #[.agg #[.int .i64 0, .int .u64 0, .int .i64 0, .int .i64 0, .int .u64 0, .int .i64 0], faultL 0 t.o]) (by unfold faultL; simp [results, Tryd.results35, go_sem, y0, y1, y2, y3, y4, y5]) rfl ?_
  refine ⟨faultL 0 t.o, ?_, ?_, yO, ?_⟩
  · rw [rangeR_3 H1.out H2.out H3.out]; exact .order 0 HQ.out
  · rw [rangeR_3 H1.out H2.out H3.out]; rfl
  · rw [rangeR_3 H1.out H2.out H3.out]; intro h; exact absurd h (by decide)

set_option maxRecDepth 100000 in
set_option maxHeartbeats 1000000 in
theorem two_4 (s : Sn) (t : SnL) (hq : t.q = true) (w0 : World) (hs : SentL s t w0) (R : Nat) (hR0 : w0.heap.size ≤ R) (l : List UInt8) (k : Int) (h1 : (getR l).2.2 = 0) (h2 : (getR (getR l).2.1).2.2 = 0) (h3 : (getR l).1.under (getR (getR l).2.1).1 = true) (w : World) (hw : Below w0.heap.size w0 w) (hC : Cd w R l k) :
    Calls Tryd.prog 35 #[.pointer (some ⟨R, 0, none⟩)] w (TwoPost t R l w) := by
  have hRl := hC.lt
  have hne : w.heap.size ≠ R := by omega
  have hn := Below.new w (.cells #[.int .i64 0, .int .u64 0, .int .i64 0, .int .i64 0, .int .u64 0, .int .i64 0] 64)
  have six0 := six_new w 64
  have C0 := Lib.hid (hC.more hn)
  have HW := Lib.hid (And.intro hs (And.intro hw hn))
  have HB0 := Lib.hid (hw.trans (hn.mono hw.size))
  have HQ := Lib.hid hq
  clear hC hs hw hn hq
  have H1 := Lib.hid h1
  have H2 := Lib.hid h2
  have H3 := Lib.hid h3
  clear h1 h2 h3
  go_enter Tryd.func35, Tryd.ntmps35
  go_wp2_with (go_at_call 31; refine (next_any s t w0 HW.out.1 R l k _ HB0.out C0.out).mono ?_)
  rintro e w1 ⟨ev, hev, rfl, hg, hok⟩
  obtain ⟨a, ha⟩ : ∃ a, (getR l).1 = a := ⟨_, rfl⟩
  obtain ⟨r, hr⟩ : ∃ r, (getR l).2.1 = r := ⟨_, rfl⟩
  have hrd : l.drop 10 = r := by rw [← hr, (getR_zero H1.out).2.2]
  obtain ⟨k1, hC1⟩ := hok H1.out
  rw [hrd] at hC1
  rw [H1.out] at hev
  obtain rfl := errL_zero hev
  have hfa : a.fits := ha ▸ getR_fits l
  have hra : a.right = true := by rw [← ha, (getR_zero H1.out).2.2]; exact (getR_zero H1.out).2.1
  rw [ha]
  have six1 := six0.kept hg hne
  have hO1 := only_trans (only_of R HW.out.2.2) hg
  have hz := hO1.size
  have hn1 := Below.new w1 (.cells #[.int .i64 a.l, .int .u64 a.c, .int .i64 a.i] 24)
  have six2 := six1.below hn1
  have hO2 := only_below hO1 hn1 hz
  have C1 := Lib.hid (hC1.more hn1)
  have HB1 := Lib.hid (below_only HW.out.2.1 hO2 (Nat.le_refl _) hR0)
  have HA := Lib.hid (And.intro ha (And.intro hr (And.intro hfa hra)))
  have hl1 : w1.heap.size ≠ R := by omega
  have l0 : (w1.alloc (.cells #[.int .i64 a.l, .int .u64 a.c, .int .i64 a.i] 24)).cell? ⟨w1.heap.size, 0, none⟩ = some (.int .i64 a.l) := by simp
  have l1 : (w1.alloc (.cells #[.int .i64 a.l, .int .u64 a.c, .int .i64 a.i] 24)).cell? ⟨w1.heap.size, 1, none⟩ = some (.int .u64 a.c) := by simp
  have l2 : (w1.alloc (.cells #[.int .i64 a.l, .int .u64 a.c, .int .i64 a.i] 24)).cell? ⟨w1.heap.size, 2, none⟩ = some (.int .i64 a.i) := by simp
  have HL := Lib.hid (And.intro l0 (And.intro l1 l2))
  have HX := Lib.hid (And.intro hO2 six2)
  clear six0 six1 hok hev hC1 ha hr hrd hfa hra hn1 l0 l1 l2 hO1 hO2 six2 hg
  go_wp2_with (go_at_call 31; refine (next_any s t w0 HW.out.1 R r k1 _ HB1.out C1.out).mono ?_)
  rintro e w2 ⟨ev2, hev, rfl, hg, hok⟩
  have hO3 := only_trans HX.out.1 hg
  have hz2 := hO3.size
  have six3 := HX.out.2.kept hg hne
  have hz3 : w1.heap.size + 1 ≤ w2.heap.size := by have := hg.size; simpa using this
  obtain ⟨b, hb⟩ : ∃ b, (getR r).1 = b := ⟨_, rfl⟩
  have hr2 : (getR r).2.2 = 0 := by rw [← HA.out.2.1]; exact H2.out
  rw [hr2] at hev
  obtain rfl := errL_zero hev
  have hfb : b.fits := hb ▸ getR_fits r
  rw [hb]
  have hn2 := Below.new w2 (.cells #[.int .i64 b.l, .int .u64 b.c, .int .i64 b.i] 24)
  have six4 := six3.below hn2
  have hO4 := only_below hO3 hn2 hz2
  have hn3 := Below.new (w2.alloc (.cells #[.int .i64 b.l, .int .u64 b.c, .int .i64 b.i] 24)) (.cells #[.int .i64 a.l, .int .u64 a.c, .int .i64 a.i, .int .i64 b.l, .int .u64 b.c, .int .i64 b.i] 64)
  have six5 := six4.below hn3
  have hO5 := only_below hO4 hn3 (by simp; omega)
  have l0 := cell_later hn2 (only_cellv hg HL.out.1 hl1)
  have l1 := cell_later hn2 (only_cellv hg HL.out.2.1 hl1)
  have l2 := cell_later hn2 (only_cellv hg HL.out.2.2 hl1)
  obtain ⟨k2, hC2⟩ := hok hr2
  have HC := Lib.hid ((hC2.more hn2).more hn3)
  have HBx := Lib.hid (below_only HW.out.2.1 hO5 (Nat.le_refl _) hR0)
  have HY := Lib.hid (And.intro hO5 six5)
  have HB := Lib.hid (And.intro hb (And.intro hfb hr2))
  clear six3 six4 hok hev hO3 hO4 hC2 hb hfb hr2 hn2 hn3 hg hO5 six5
  have hsp : spanE t a b = .nilIface := by
    have h3 := H3.out
    rw [HA.out.1, HA.out.2.1, HB.out.1] at h3
    exact spanE_yes (by rw [same_or_under HA.out.2.2.1 HA.out.2.2.2]; exact h3)
  have HP := Lib.hid hsp
  clear hsp
  go_wp2_with (go_at_call 33; refine (span_any s t HQ.out a b HA.out.2.2.1 HB.out.2.1 _ (HW.out.1.below (Nat.le_refl _) HBx.out)).mono ?_)
  rintro e w3 ⟨he, hb3⟩
  rw [HP.out] at he
  subst he
  have six6 := HY.out.2.below hb3
  have hO6 := only_below HY.out.1 hb3 (by simp; omega)
  have c0 := six6.c0
  have f0 := six6.f0
  have c1 := six6.c1
  have f1 := six6.f1
  have c2 := six6.c2
  have f2 := six6.f2
  have c3 := six6.c3
  have f3 := six6.f3
  have c4 := six6.c4
  have f4 := six6.f4
  have c5 := six6.c5
  have f5 := six6.f5
  have m0 : w3.cell? ⟨w2.heap.size + 1, 0, none⟩ = some (.int .i64 a.l) := cell_later hb3 (by rw [World.cell?_alloc_at _ _ _ _ (by simp)]; rfl)
  have m1 : w3.cell? ⟨w2.heap.size + 1, 1, none⟩ = some (.int .u64 a.c) := cell_later hb3 (by rw [World.cell?_alloc_at _ _ _ _ (by simp)]; rfl)
  have m2 : w3.cell? ⟨w2.heap.size + 1, 2, none⟩ = some (.int .i64 a.i) := cell_later hb3 (by rw [World.cell?_alloc_at _ _ _ _ (by simp)]; rfl)
  have m3 : w3.cell? ⟨w2.heap.size + 1, 3, none⟩ = some (.int .i64 b.l) := cell_later hb3 (by rw [World.cell?_alloc_at _ _ _ _ (by simp)]; rfl)
  have m4 : w3.cell? ⟨w2.heap.size + 1, 4, none⟩ = some (.int .u64 b.c) := cell_later hb3 (by rw [World.cell?_alloc_at _ _ _ _ (by simp)]; rfl)
  have m5 : w3.cell? ⟨w2.heap.size + 1, 5, none⟩ = some (.int .i64 b.i) := cell_later hb3 (by rw [World.cell?_alloc_at _ _ _ _ (by simp)]; rfl)
  obtain ⟨y0, y1, y2, y3, y4, y5⟩ := set6S (v0 := .int .i64 a.l) (v1 := .int .u64 a.c) (v2 := .int .i64 a.i) (v3 := .int .i64 b.l) (v4 := .int .u64 b.c) (v5 := .int .i64 b.i) six6.c0 six6.c1 six6.c2 six6.c3 six6.c4 six6.c5
  have yO := only_below hO6 (set6B (Below.refl w.heap.size w3) (Nat.le_refl _) (.int .i64 a.l) (.int .u64 a.c) (.int .i64 a.i) (.int .i64 b.l) (.int .u64 b.c) (.int .i64 b.i)) (Nat.le_refl _)
  have cR := HC.out.more hb3
  have yC : Cd ((((((w3.setCell ⟨w.heap.size, 0, none⟩ (.int .i64 a.l)).setCell ⟨w.heap.size, 1, none⟩ (.int .u64 a.c)).setCell ⟨w.heap.size, 2, none⟩ (.int .i64 a.i)).setCell ⟨w.heap.size, 3, none⟩ (.int .i64 b.l)).setCell ⟨w.heap.size, 4, none⟩ (.int .u64 b.c)).setCell ⟨w.heap.size, 5, none⟩ (.int .i64 b.i)) R (r.drop 10) k2 := ⟨set6O cR.c0 hne, set6O cR.c1 hne, set6F cR.f0, set6F cR.f1⟩
  have HYY := Lib.hid (And.intro yO yC)
  clear six6 yO yC cR
  go_wp2
  generalize ((((((w3.setCell ⟨w.heap.size, 0, none⟩ (.int .i64 a.l)).setCell ⟨w.heap.size, 1, none⟩ (.int .u64 a.c)).setCell ⟨w.heap.size, 2, none⟩ (.int .i64 a.i)).setCell ⟨w.heap.size, 3, none⟩ (.int .i64 b.l)).setCell ⟨w.heap.size, 4, none⟩ (.int .u64 b.c)).setCell ⟨w.heap.size, 5, none⟩ (.int .i64 b.i)) = WF at y0 y1 y2 y3 y4 y5 HYY ⊢
  refine bodyPost_ret (v := .tuple #[.agg #[.int .i64 a.l, .int .u64 a.c, .int .i64 a.i, .int .i64 b.l, .int .u64 b.c, .int .i64 b.i], .nilIface]) (by simp [results, Tryd.results35, go_sem, y0, y1, y2, y3, y4, y5]) rfl ?_
  refine ⟨.nilIface, ?_, ?_, HYY.out.1, ?_⟩
  · rw [rangeR_4 H1.out H2.out H3.out]; exact .ok
  · rw [rangeR_4 H1.out H2.out H3.out, HA.out.2.1, HB.out.1, HA.out.1]
  · intro _
    have e : (getRangeR l).2.2.1 = r.drop 10 := by rw [rangeR_4 H1.out H2.out H3.out, HA.out.2.1, (getR_zero HB.out.2.2).2.2]
    rw [e]
    exact ⟨k2, HYY.out.2⟩

theorem two_any (s : Sn) (t : SnL) (hq : t.q = true) (w0 : World) (hs : SentL s t w0) (R : Nat) (hR0 : w0.heap.size ≤ R) (l : List UInt8) (k : Int) (w : World) (hw : Below w0.heap.size w0 w) (hC : Cd w R l k) :
    Calls Tryd.prog 35 #[.pointer (some ⟨R, 0, none⟩)] w (TwoPost t R l w) := by
  by_cases h1 : (getR l).2.2 = 0
  · by_cases h2 : (getR (getR l).2.1).2.2 = 0
    · cases h3 : (getR l).1.under (getR (getR l).2.1).1
      · exact two_3 s t hq w0 hs R hR0 l k h1 h2 h3 w hw hC
      · exact two_4 s t hq w0 hs R hR0 l k h1 h2 h3 w hw hC
    · exact two_2 s t hq w0 hs R hR0 l k h1 h2 w hw hC
  · exact two_1 s t hq w0 hs R hR0 l k h1 w hw hC

end Go.Proofs.YtfpjbefhfkembaaDoor

/- labcode's exported functions. -/
namespace Go.Proofs.YtfpjbefhfkembaaDoor
open Go.RowKit Go.Shelf Go.Proofs.Fld Go.Proofs.Cats Go.Proofs.Lcd

/-- A label, what is behind, and the code. -/
def GLPost (r : Lab × List UInt8 × Int) (w : World) (e : Ending) (w' : World) : Prop := e = .returned (.tuple #[.agg #[.int .i64 r.1.l, .int .u64 r.1.c, .int .i64 r.1.i], .string (bs r.2.1), .int .i64 r.2.2]) ∧ Below w.heap.size w w'
/-- Two labels, what is behind, and the code. -/
def GRPost (r : Lab × Lab × List UInt8 × Int) (w : World) (e : Ending) (w' : World) : Prop := e = .returned (.tuple #[.agg #[.int .i64 r.1.l, .int .u64 r.1.c, .int .i64 r.1.i], .agg #[.int .i64 r.2.1.l, .int .u64 r.2.1.c, .int .i64 r.2.1.i], .string (bs r.2.2.1), .int .i64 r.2.2.2]) ∧ Below w.heap.size w w'
/-- A new slice of labels, and the code. -/
def LLPost (r : List Lab × Int) (w : World) (e : Ending) (w' : World) : Prop :=
  ∃ (a : Option Addr) (cap : Nat), e = .returned (.tuple #[.slice a r.1.length cap, .int .i64 r.2]) ∧ Lb.Labs w'.heap.size w' (.slice a r.1.length cap) r.1 ∧ Below w.heap.size w w'

/-- What put tells, by the answer. -/
def PutQ (t : SnL) (r : List UInt8 × Int) (w : World) (e : Ending) (w' : World) : Prop :=
  ∃ ev, ErrL t ev r.2 ∧ e = .returned (.tuple #[.string (bs r.1), ev]) ∧ Below w.heap.size w w'
theorem PutPost.q {t : SnL} {zs : List Lab} {w : World} {e : Ending} {w' : World} (h : PutPost t zs w e w') : PutQ t (putListR zs) w e w' := h

theorem putListR_one (a : Lab) : putListR [a] = putR a := by
  cases h : a.right
  · rw [putR_no h, putListR_no (by simp [h])]
  · rw [putR_ok h, putListR_ok (by simp [h])]; simp [listB]
theorem labs_one {W : World} {b : Nat} {a : Lab} {cap : Nat} (ha : a.fits) (hb : b < W.heap.size) (h : Lb.LabAt W b 0 a) : Lb.Labs W.heap.size W (.slice (some ⟨b, 0, none⟩) 1 cap) [a] :=
  ⟨some ⟨b, 0, none⟩, cap, rfl, fun _ => ⟨b, 0, rfl, hb, fun j x hj => by
    match j, hj with
    | 0, hj => simp at hj; subst hj; exact ⟨ha, h⟩⟩⟩
theorem labs_two {W : World} {n : Nat} {a b : Lab} {cap : Nat} (ha : a.fits) (hb : b.fits) (hn : n < W.heap.size) (h : Lb.LabAt W n 0 a) (k : Lb.LabAt W n 3 b) : Lb.Labs W.heap.size W (.slice (some ⟨n, 0, none⟩) 2 cap) [a, b] :=
  ⟨some ⟨n, 0, none⟩, cap, rfl, fun _ => ⟨n, 0, rfl, hn, fun j x hj => by
    match j, hj with
    | 0, hj => simp at hj; subst hj; exact ⟨ha, h⟩
    | 1, hj => simp at hj; subst hj; exact ⟨hb, k⟩⟩⟩

/-- Three cells that may be written. -/
structure Tri (W : World) (b : Nat) (v0 v1 v2 : Value) : Prop where
  c0 : W.cell? ⟨b, 0, none⟩ = some v0
  c1 : W.cell? ⟨b, 1, none⟩ = some v1
  c2 : W.cell? ⟨b, 2, none⟩ = some v2
  f0 : W.frozen? ⟨b, 0, none⟩ = false
  f1 : W.frozen? ⟨b, 1, none⟩ = false
  f2 : W.frozen? ⟨b, 2, none⟩ = false
theorem Tri.kept {A B : World} {R b : Nat} {v0 v1 v2 : Value} (h : Tri A b v0 v1 v2) (hg : A.grownBy B (some R)) (hne : b ≠ R) : Tri B b v0 v1 v2 :=
  have hl := World.block_lt_of_cell? A _ h.c0
  ⟨only_cellv hg h.c0 hne, only_cellv hg h.c1 hne, only_cellv hg h.c2 hne, only_froz hg hl h.f0 hne, only_froz hg hl h.f1 hne, only_froz hg hl h.f2 hne⟩
theorem Tri.below {A B : World} {b : Nat} {v0 v1 v2 : Value} (h : Tri A b v0 v1 v2) (hb : Below A.heap.size A B) : Tri B b v0 v1 v2 :=
  have hl := World.block_lt_of_cell? A _ h.c0
  ⟨cell_later hb h.c0, cell_later hb h.c1, cell_later hb h.c2, (hb.frozen (p := ⟨b, 0, none⟩) hl).trans h.f0, (hb.frozen (p := ⟨b, 1, none⟩) hl).trans h.f1, (hb.frozen (p := ⟨b, 2, none⟩) hl).trans h.f2⟩
theorem tri_new (w : World) (T : TypeId) (v0 v1 v2 : Value) : Tri (w.alloc (.cells #[v0, v1, v2] T)) w.heap.size v0 v1 v2 := by
  refine ⟨?_, ?_, ?_, ?_, ?_, ?_⟩
  · rw [World.cell?_alloc_at _ _ _ _ rfl]; rfl
  · rw [World.cell?_alloc_at _ _ _ _ rfl]; rfl
  · rw [World.cell?_alloc_at _ _ _ _ rfl]; rfl
  · simp
  · simp
  · simp
theorem Tri.set {W : World} {b B : Nat} {v0 v1 v2 u0 u1 u2 : Value} (h : Tri W B v0 v1 v2) (hne : b ≠ B) : Tri (((W.setCell ⟨b, 0, none⟩ u0).setCell ⟨b, 1, none⟩ u1).setCell ⟨b, 2, none⟩ u2) B v0 v1 v2 :=
  ⟨set3O h.c0 hne, set3O h.c1 hne, set3O h.c2 hne, Lb.setF (Lb.setF (Lb.setF h.f0)), Lb.setF (Lb.setF (Lb.setF h.f1)), Lb.setF (Lb.setF (Lb.setF h.f2))⟩

set_option maxHeartbeats 1000000 in
theorem Put_any (s : Sn) (t : SnL) (a : Lab) (ha : a.fits) (w : World) (hs : SentL s t w) : Calls Tryd.prog 10 #[.agg #[.int .i64 a.l, .int .u64 a.c, .int .i64 a.i]] w (SC (putR a) w) := by
  have hB : Below w.heap.size w ((w.alloc (.cells #[.int .i64 a.l, .int .u64 a.c, .int .i64 a.i] 24)).alloc (.cells #[.int .i64 a.l, .int .u64 a.c, .int .i64 a.i] 24)) := (Below.new w _).alloc (by simp) _
  have hp := put_any s t (some ⟨w.heap.size + 1, 0, none⟩) 1 1 [a] (by simp) _ (hs.more hB) (labs_one ha (by simp) ⟨by simp, by simp, by simp⟩)
  replace hp := hp.mono fun _ _ h => PutPost.q h
  rw [putListR_one] at hp
  have HP := Lib.hid hp
  have HS := Lib.hid hs
  clear hp hs
  go_enter Tryd.func10, Tryd.ntmps10
  go_wp2_with (go_at_call 26; refine HP.out.mono ?_)
  rintro e w1 ⟨ev, hev, rfl, b1⟩
  have b2 := below_more hB b1
  have HE := Lib.hid hev
  clear hev
  go_wp2_with (go_at_call 27; refine (Lc.toldL_any s t HE.out w1 (HS.out.more b2)).mono ?_)
  rintro e w2 ⟨rfl, b3⟩
  go_wp2
  go_ret2
  exact ⟨rfl, below_more b2 b3⟩

set_option maxHeartbeats 1000000 in
theorem PutList_any (s : Sn) (t : SnL) (a : Option Addr) (len cap : Nat) (zs : List Lab) (hreach : zs.length * 24 ≤ 140737488351232) (w : World) (hs : SentL s t w) (hI : Lb.Labs w.heap.size w (.slice a len cap) zs) :
    Calls Tryd.prog 19 #[.slice a len cap] w (SC (putListR zs) w) := by
  have HP := Lib.hid (put_any s t a len cap zs hreach w hs hI)
  have HS := Lib.hid hs
  clear hs hI
  go_enter Tryd.func19, Tryd.ntmps19
  go_wp2_with (go_at_call 26; refine HP.out.mono ?_)
  rintro e w1 ⟨ev, hev, rfl, b1⟩
  have HE := Lib.hid hev
  clear hev
  go_wp2_with (go_at_call 27; refine (Lc.toldL_any s t HE.out w1 (HS.out.more b1)).mono ?_)
  rintro e w2 ⟨rfl, b3⟩
  go_wp2
  go_ret2
  exact ⟨rfl, below_more b1 b3⟩

theorem putList2 (a b : Lab) : putListR [a, b] = if (a.right && b.right) = true then (labB a ++ labB b, 0) else ([], 20) := by
  by_cases h : (a.right && b.right) = true
  · rw [if_pos h, putListR_ok (by simpa using h)]; simp [listB]
  · rw [if_neg h, putListR_no (by simpa using h)]

set_option maxHeartbeats 1000000 in
theorem PutRange_any (s : Sn) (t : SnL) (hq : t.q = true) (a b : Lab) (ha : a.fits) (hb : b.fits) (w : World) (hs : SentL s t w) : Calls Tryd.prog 15 #[.agg #[.int .i64 a.l, .int .u64 a.c, .int .i64 a.i], .agg #[.int .i64 b.l, .int .u64 b.c, .int .i64 b.i]] w (SC (putRangeR a b) w) := by
  have hB : Below w.heap.size w (((w.alloc (.cells #[.int .i64 a.l, .int .u64 a.c, .int .i64 a.i] 24)).alloc (.cells #[.int .i64 b.l, .int .u64 b.c, .int .i64 b.i] 24)).alloc (.cells #[.int .i64 a.l, .int .u64 a.c, .int .i64 a.i, .int .i64 b.l, .int .u64 b.c, .int .i64 b.i] 24)) := ((Below.new w _).alloc (by simp) _).alloc (by simp; omega) _
  have hp := put_any s t (some ⟨w.heap.size + 1 + 1, 0, none⟩) 2 2 [a, b] (by simp) _ (hs.more hB) (labs_two ha hb (by simp) ⟨by rw [World.cell?_alloc_at _ _ _ _ (by simp)]; rfl, by rw [World.cell?_alloc_at _ _ _ _ (by simp)]; rfl, by rw [World.cell?_alloc_at _ _ _ _ (by simp)]; rfl⟩ ⟨by rw [World.cell?_alloc_at _ _ _ _ (by simp)]; rfl, by rw [World.cell?_alloc_at _ _ _ _ (by simp)]; rfl, by rw [World.cell?_alloc_at _ _ _ _ (by simp)]; rfl⟩)
  replace hp := hp.mono fun _ _ h => PutPost.q h
  rw [putList2] at hp
  have HS := Lib.hid hs
  have HQ := Lib.hid hq
  clear hs hq
  by_cases h : (a.right && b.right) = true
  · rw [if_pos h] at hp
    have HP := Lib.hid hp
    have HR := Lib.hid (And.intro h (show a.right = true by rw [Bool.and_eq_true] at h; exact h.1))
    clear hp h
    go_enter Tryd.func15, Tryd.ntmps15
    go_wp2_with (go_at_call 26; refine HP.out.mono ?_)
    rintro e w1 ⟨ev, hev, rfl, b1⟩
    obtain rfl := errL_zero hev
    have b2 := below_more hB b1
    have c0 : w1.cell? ⟨w.heap.size, 0, none⟩ = some (.int .i64 a.l) := cell_later b1 (by go_simp)
    have c1 : w1.cell? ⟨w.heap.size, 1, none⟩ = some (.int .u64 a.c) := cell_later b1 (by go_simp)
    have c2 : w1.cell? ⟨w.heap.size, 2, none⟩ = some (.int .i64 a.i) := cell_later b1 (by go_simp)
    have d0 : w1.cell? ⟨w.heap.size + 1, 0, none⟩ = some (.int .i64 b.l) := cell_later b1 (by go_simp)
    have d1 : w1.cell? ⟨w.heap.size + 1, 1, none⟩ = some (.int .u64 b.c) := cell_later b1 (by go_simp)
    have d2 : w1.cell? ⟨w.heap.size + 1, 2, none⟩ = some (.int .i64 b.i) := cell_later b1 (by go_simp)
    clear hev b1
    cases hu : a.under b
    · have hsp : spanE t a b = faultL 0 t.o := spanE_no (by rw [same_or_under ha HR.out.2]; exact hu)
      have HU := Lib.hid (And.intro hsp hu)
      clear hsp hu
      go_wp2_with (go_at_call 33; refine (span_any s t HQ.out a b ha hb _ (HS.out.more b2)).mono ?_)
      rintro e w2 ⟨he, b3⟩
      rw [HU.out.1] at he
      subst he
      have b4 := below_more b2 b3
      unfold faultL
      go_wp2_with (go_at_call 27; refine (Lc.toldL_any s t (.order 0 HQ.out) w2 (HS.out.more b4)).mono ?_)
      rintro e w3 ⟨rfl, b5⟩
      go_wp2
      go_ret2
      refine ⟨?_, below_more b4 b5⟩
      unfold putRangeR
      rw [if_pos HR.out.1, if_neg (by rw [HU.out.2]; decide)]
      rfl
    · have hsp : spanE t a b = .nilIface := spanE_yes (by rw [same_or_under ha HR.out.2]; exact hu)
      have HU := Lib.hid (And.intro hsp hu)
      clear hsp hu
      go_wp2_with (go_at_call 33; refine (span_any s t HQ.out a b ha hb _ (HS.out.more b2)).mono ?_)
      rintro e w2 ⟨he, b3⟩
      rw [HU.out.1] at he
      subst he
      have b4 := below_more b2 b3
      go_wp2
      go_ret2
      refine ⟨?_, b4⟩
      unfold putRangeR
      rw [if_pos HR.out.1, if_pos HU.out.2]
      rfl
  · rw [if_neg h] at hp
    have HP := Lib.hid hp
    have HR := Lib.hid h
    clear hp h
    go_enter Tryd.func15, Tryd.ntmps15
    go_wp2_with (go_at_call 26; refine HP.out.mono ?_)
    rintro e w1 ⟨ev, hev, rfl, b1⟩
    obtain ⟨fv, rfl⟩ := errL_some hev (by decide)
    have b2 := below_more hB b1
    have HE := Lib.hid hev
    clear hev b1
    go_wp2_with (go_at_call 27; refine (Lc.toldL_any s t HE.out w1 (HS.out.more b2)).mono ?_)
    rintro e w3 ⟨rfl, b5⟩
    go_wp2
    go_ret2
    refine ⟨?_, below_more b2 b5⟩
    unfold putRangeR
    rw [if_neg HR.out]
    rfl

set_option maxRecDepth 100000 in
set_option maxHeartbeats 1000000 in
theorem Get_err (s : Sn) (t : SnL) (l : List UInt8) (h : (getR l).2.2 ≠ 0) (w : World) (hs : SentL s t w) : Calls Tryd.prog 12 #[.string (bs l)] w (GLPost (getR l) w) := by
  have H := Lib.hid h
  clear h
  have hn0 := Below.new w (.cells #[.int .i64 0, .int .u64 0, .int .i64 0] 24)
  have hn1 := Below.new (w.alloc (.cells #[.int .i64 0, .int .u64 0, .int .i64 0] 24)) (.cells #[.string (bs l), .int .i64 0] 60)
  have hB := below_more hn0 hn1
  have tri0 := (tri_new w 24 (.int .i64 0) (.int .u64 0) (.int .i64 0)).below hn1
  have C0 := Lib.hid (by have := Cd.new (w.alloc (.cells #[.int .i64 0, .int .u64 0, .int .i64 0] 24)) l 0; rw [World.size_alloc] at this; exact this : Cd ((w.alloc (.cells #[.int .i64 0, .int .u64 0, .int .i64 0] 24)).alloc (.cells #[.string (bs l), .int .i64 0] 60)) (w.heap.size + 1) l 0)
  have HN := Lib.hid (next_any s t w hs (w.heap.size + 1) l 0 _ hB C0.out)
  have HS := Lib.hid hs
  clear hs hn0 hn1
  go_enter Tryd.func12, Tryd.ntmps12
  go_wp2_with (go_at_call 30; refine (readL_any l _).mono ?_; rintro e w' ⟨rfl, rfl⟩)
  go_wp2_with (go_at_call 31; refine HN.out.mono ?_)
  rintro e w1 ⟨ev, hev, rfl, hg, hok⟩
  have hb1 : Below w.heap.size w w1 := below_only hB hg (Nat.le_refl _) (by omega)
  have tri1 := tri0.kept hg (by omega)
  obtain ⟨fv, rfl⟩ := errL_some hev H.out
  have hz0 : (getR l).1 = ⟨0, 0, 0⟩ := by rw [getR_err H.out]; rfl
  rw [hz0]
  simp only
  have hn2 := Below.new w1 (.cells #[.int .i64 0, .int .u64 0, .int .i64 0] 24)
  have tri2 := tri1.below hn2
  have hb2 := below_more hb1 hn2
  have HE := Lib.hid hev
  have HT := Lib.hid tri2
  clear tri0 tri1 tri2 hok hev hg hz0 hn2
  go_wp2_with (go_at_call 27; refine (Lc.toldL_any s t HE.out _ (HS.out.more hb2)).mono ?_)
  rintro e w2 ⟨rfl, hb3⟩
  have tri3 := HT.out.below hb3
  have hb4 := below_more hb2 hb3
  have c0 := tri3.c0
  have c1 := tri3.c1
  have c2 := tri3.c2
  have f0 := tri3.f0
  have f1 := tri3.f1
  have f2 := tri3.f2
  obtain ⟨y0, y1, y2⟩ := set3S (u := .int .i64 0) (x := .int .u64 0) (y := .int .i64 0) c0 c1 c2
  have yB := set3B hb4 (Nat.le_refl _) (.int .i64 0) (.int .u64 0) (.int .i64 0)
  clear tri3
  go_wp2
  generalize (((w2.setCell ⟨w.heap.size, 0, none⟩ (.int .i64 0)).setCell ⟨w.heap.size, 1, none⟩ (.int .u64 0)).setCell ⟨w.heap.size, 2, none⟩ (.int .i64 0)) = WF at y0 y1 y2 yB ⊢
  refine bodyPost_ret (v := .tuple #[.agg #[.int .i64 0, .int .u64 0, .int .i64 0], .string (bs []), .int .i64 (getR l).2.2]) (by simp [results, Tryd.results12, go_sem, y0, y1, y2]; rfl) rfl ?_
  refine ⟨?_, yB⟩
  rw [getR_err H.out]
  rfl

set_option maxRecDepth 100000 in
set_option maxHeartbeats 1000000 in
theorem Get_ok (s : Sn) (t : SnL) (l : List UInt8) (h : (getR l).2.2 = 0) (w : World) (hs : SentL s t w) : Calls Tryd.prog 12 #[.string (bs l)] w (GLPost (getR l) w) := by
  have H := Lib.hid h
  clear h
  have hn0 := Below.new w (.cells #[.int .i64 0, .int .u64 0, .int .i64 0] 24)
  have hn1 := Below.new (w.alloc (.cells #[.int .i64 0, .int .u64 0, .int .i64 0] 24)) (.cells #[.string (bs l), .int .i64 0] 60)
  have hB := below_more hn0 hn1
  have tri0 := (tri_new w 24 (.int .i64 0) (.int .u64 0) (.int .i64 0)).below hn1
  have C0 := Lib.hid (by have := Cd.new (w.alloc (.cells #[.int .i64 0, .int .u64 0, .int .i64 0] 24)) l 0; rw [World.size_alloc] at this; exact this : Cd ((w.alloc (.cells #[.int .i64 0, .int .u64 0, .int .i64 0] 24)).alloc (.cells #[.string (bs l), .int .i64 0] 60)) (w.heap.size + 1) l 0)
  have HN := Lib.hid (next_any s t w hs (w.heap.size + 1) l 0 _ hB C0.out)
  have HS := Lib.hid hs
  clear hs hn0 hn1
  go_enter Tryd.func12, Tryd.ntmps12
  go_wp2_with (go_at_call 30; refine (readL_any l _).mono ?_; rintro e w' ⟨rfl, rfl⟩)
  go_wp2_with (go_at_call 31; refine HN.out.mono ?_)
  rintro e w1 ⟨ev, hev, rfl, hg, hok⟩
  have hb1 : Below w.heap.size w w1 := below_only hB hg (Nat.le_refl _) (by omega)
  have tri1 := tri0.kept hg (by omega)
  obtain ⟨a, ha⟩ : ∃ a, (getR l).1 = a := ⟨_, rfl⟩
  rw [H.out] at hev
  obtain rfl := errL_zero hev
  obtain ⟨k1, hC1⟩ := hok H.out
  rw [ha]
  have HA := Lib.hid ha
  have hn2 := Below.new w1 (.cells #[.int .i64 a.l, .int .u64 a.c, .int .i64 a.i] 24)
  have tri2 := tri1.below hn2
  have hb2 := below_more hb1 hn2
  have tl := tri_new w1 24 (.int .i64 a.l) (.int .u64 a.c) (.int .i64 a.i)
  have r0 := (hC1.more hn2).c0
  have hR := hC1.lt
  clear tri0 tri1 hok hev hg ha hC1
  have c0 := tri2.c0
  have c1 := tri2.c1
  have c2 := tri2.c2
  have f0 := tri2.f0
  have f1 := tri2.f1
  have f2 := tri2.f2
  have l0 := tl.c0
  have l1 := tl.c1
  have l2 := tl.c2
  obtain ⟨W, hW⟩ : ∃ W, w1.alloc (.cells #[.int .i64 a.l, .int .u64 a.c, .int .i64 a.i] 24) = W := ⟨_, rfl⟩
  obtain ⟨y0, y1, y2⟩ := set3S (u := .int .i64 a.l) (x := .int .u64 a.c) (y := .int .i64 a.i) c0 c1 c2
  have yB := set3B hb2 (Nat.le_refl _) (.int .i64 a.l) (.int .u64 a.c) (.int .i64 a.i)
  have z0 : ∀ u x y, (((W.setCell ⟨w.heap.size, 0, none⟩ u).setCell ⟨w.heap.size, 1, none⟩ x).setCell ⟨w.heap.size, 2, none⟩ y).cell? ⟨w1.heap.size, 0, none⟩ = some (.int .i64 a.l) := fun u x y => set3O (hW ▸ l0) (by omega)
  have z1 : ∀ u x y, (((W.setCell ⟨w.heap.size, 0, none⟩ u).setCell ⟨w.heap.size, 1, none⟩ x).setCell ⟨w.heap.size, 2, none⟩ y).cell? ⟨w1.heap.size, 1, none⟩ = some (.int .u64 a.c) := fun u x y => set3O (hW ▸ l1) (by omega)
  have z2 : ∀ u x y, (((W.setCell ⟨w.heap.size, 0, none⟩ u).setCell ⟨w.heap.size, 1, none⟩ x).setCell ⟨w.heap.size, 2, none⟩ y).cell? ⟨w1.heap.size, 2, none⟩ = some (.int .i64 a.i) := fun u x y => set3O (hW ▸ l2) (by omega)
  have z3 : ∀ u x y, (((W.setCell ⟨w.heap.size, 0, none⟩ u).setCell ⟨w.heap.size, 1, none⟩ x).setCell ⟨w.heap.size, 2, none⟩ y).cell? ⟨w.heap.size + 1, 0, none⟩ = some (.string (bs (l.drop 10))) := fun u x y => set3O (hW ▸ r0) (by omega)
  rw [hW] at c0 c1 c2 f0 f1 f2 l0 l1 l2 r0 y0 y1 y2 yB
  clear tri2 tl hn2 hb2
  go_wp2
  try rw [hW]
  go_region_held3 (fun w' => w'.cell? ⟨w1.heap.size, 0, none⟩ = some (.int .i64 a.l) ∧ w'.cell? ⟨w1.heap.size, 1, none⟩ = some (.int .u64 a.c) ∧ w'.cell? ⟨w1.heap.size, 2, none⟩ = some (.int .i64 a.i) ∧ w'.cell? ⟨w.heap.size + 1, 0, none⟩ = some (.string (bs (l.drop 10))))
    (first | (simp only [World.cell?_drew, l0, l1, l2, r0, z0, z1, z2, z3, and_self]; done)) (fail)
  all_goals go_wp2
  all_goals
    generalize (((W.setCell ⟨w.heap.size, 0, none⟩ (.int .i64 a.l)).setCell ⟨w.heap.size, 1, none⟩ (.int .u64 a.c)).setCell ⟨w.heap.size, 2, none⟩ (.int .i64 a.i)) = WF at y0 y1 y2 yB ⊢
    refine bodyPost_ret (v := .tuple #[.agg #[.int .i64 a.l, .int .u64 a.c, .int .i64 a.i], .string (bs (l.drop 10)), .int .i64 0]) (by simp [results, Tryd.results12, go_sem, y0, y1, y2]) rfl ?_
    refine ⟨?_, below_drew yB⟩
    have e := (getR_zero H.out).2.2
    have ea := HA.out
    rw [e] at ea ⊢
    rw [← ea]

theorem Get_any (s : Sn) (t : SnL) (l : List UInt8) (w : World) (hs : SentL s t w) : Calls Tryd.prog 12 #[.string (bs l)] w (GLPost (getR l) w) := by
  by_cases h : (getR l).2.2 = 0
  · exact Get_ok s t l h w hs
  · exact Get_err s t l h w hs

set_option maxHeartbeats 1000000 in
theorem GetList_any (s : Sn) (t : SnL) (l : List UInt8) (hl : l.length ≤ 1048576) (w : World) (hs : SentL s t w) : Calls Tryd.prog 21 #[.string (bs l)] w (LLPost (getListR l) w) := by
  have hn := Below.new w (.cells #[.string (bs l), .int .i64 0] 60)
  have HN := Lib.hid ((callsIn_wide (n := 3)).1 (list_in 3 (by omega) s t w hs w.heap.size (Nat.le_refl _) l hl 0 _ hn (Cd.new w l 0)))
  have HS := Lib.hid hs
  clear hs
  go_enter Tryd.func21, Tryd.ntmps21
  go_wp2_with (go_at_call 30; refine (readL_any l _).mono ?_; rintro e w' ⟨rfl, rfl⟩)
  go_wp2_with (go_at_call 36; refine HN.out.mono ?_)
  rintro e w1 ⟨v, ev, hev, rfl, hg, hlabs⟩
  have hb1 : Below w.heap.size w w1 := below_only hn hg (Nat.le_refl _) (Nat.le_refl _)
  have hlb2 := hlabs
  obtain ⟨va, vc, rfl, _⟩ := hlabs
  have HE := Lib.hid (And.intro hev hlb2)
  clear hev hlb2 hg hn
  go_wp2_with (go_at_call 27; refine (Lc.toldL_any s t HE.out.1 w1 (HS.out.more hb1)).mono ?_)
  rintro e w2 ⟨rfl, b3⟩
  go_wp2
  go_ret2
  have hc : (getListR l).2 = listC l := by
    by_cases h : listC l = 0
    · rw [getListR_ok h, h]
    · rw [getListR_no h]
  exact ⟨va, vc, by rw [hc]; rfl, (HE.out.2.below b3).mono b3.size, below_more hb1 b3⟩

theorem rangeR_err {l : List UInt8} (h : (getRangeR l).2.2.2 ≠ 0) : getRangeR l = (Lab.zero, Lab.zero, [], (getRangeR l).2.2.2) := by
  by_cases h1 : (getR l).2.2 = 0
  · by_cases h2 : (getR (getR l).2.1).2.2 = 0
    · cases h3 : (getR l).1.under (getR (getR l).2.1).1
      · rw [rangeR_3 h1 h2 h3]
      · rw [rangeR_4 h1 h2 h3] at h; exact absurd rfl h
    · rw [rangeR_2 h1 h2]
  · rw [rangeR_1 h1]

set_option maxRecDepth 100000 in
set_option maxHeartbeats 1000000 in
theorem GetRange_err (s : Sn) (t : SnL) (hq : t.q = true) (l : List UInt8) (h : (getRangeR l).2.2.2 ≠ 0) (w : World) (hs : SentL s t w) : Calls Tryd.prog 17 #[.string (bs l)] w (GRPost (getRangeR l) w) := by
  have H := Lib.hid h
  clear h
  have hn0 := Below.new w (.cells #[.int .i64 0, .int .u64 0, .int .i64 0] 24)
  have hn1 := Below.new (w.alloc (.cells #[.int .i64 0, .int .u64 0, .int .i64 0] 24)) (.cells #[.int .i64 0, .int .u64 0, .int .i64 0] 24)
  have hn2 := Below.new ((w.alloc (.cells #[.int .i64 0, .int .u64 0, .int .i64 0] 24)).alloc (.cells #[.int .i64 0, .int .u64 0, .int .i64 0] 24)) (.cells #[.string (bs l), .int .i64 0] 60)
  have hB := below_more (below_more hn0 hn1) hn2
  have triA := ((tri_new w 24 (.int .i64 0) (.int .u64 0) (.int .i64 0)).below hn1).below hn2
  have triB0 := tri_new (w.alloc (.cells #[.int .i64 0, .int .u64 0, .int .i64 0] 24)) 24 (.int .i64 0) (.int .u64 0) (.int .i64 0)
  rw [World.size_alloc] at triB0
  have triB := triB0.below hn2
  have C0 := Lib.hid (by have := Cd.new ((w.alloc (.cells #[.int .i64 0, .int .u64 0, .int .i64 0] 24)).alloc (.cells #[.int .i64 0, .int .u64 0, .int .i64 0] 24)) l 0; rw [World.size_alloc, World.size_alloc] at this; exact this : Cd (((w.alloc (.cells #[.int .i64 0, .int .u64 0, .int .i64 0] 24)).alloc (.cells #[.int .i64 0, .int .u64 0, .int .i64 0] 24)).alloc (.cells #[.string (bs l), .int .i64 0] 60)) (w.heap.size + 1 + 1) l 0)
  have HN := Lib.hid (two_any s t hq w hs (w.heap.size + 1 + 1) (by omega) l 0 _ hB C0.out)
  have HS := Lib.hid hs
  clear hs hn0 hn1 hn2 triB0
  go_enter Tryd.func17, Tryd.ntmps17
  go_wp2_with (go_at_call 30; refine (readL_any l _).mono ?_; rintro e w' ⟨rfl, rfl⟩)
  go_wp2_with (go_at_call 35; refine HN.out.mono ?_)
  rintro e w1 ⟨ev, hev, rfl, hg, hok⟩
  have hb1 : Below w.heap.size w w1 := below_only hB hg (Nat.le_refl _) (by omega)
  have triA1 := triA.kept hg (by omega)
  have triB1 := triB.kept hg (by omega)
  obtain ⟨fv, rfl⟩ := errL_some hev H.out
  have hz0 : (getRangeR l).1 = ⟨0, 0, 0⟩ := by rw [rangeR_err H.out]; rfl
  have hz1 : (getRangeR l).2.1 = ⟨0, 0, 0⟩ := by rw [rangeR_err H.out]; rfl
  rw [hz0, hz1]
  simp only
  have hn2 := Below.new w1 (.cells #[.int .i64 0, .int .u64 0, .int .i64 0, .int .i64 0, .int .u64 0, .int .i64 0] 64)
  have hb2 := below_more hb1 hn2
  have HE := Lib.hid hev
  have HT := Lib.hid (And.intro (triA1.below hn2) (triB1.below hn2))
  clear triA triB triA1 triB1 hok hev hg hz0 hz1 hn2
  go_wp2_with (go_at_call 27; refine (Lc.toldL_any s t HE.out _ (HS.out.more hb2)).mono ?_)
  rintro e w2 ⟨rfl, hb3⟩
  have tA := HT.out.1.below hb3
  have tB := HT.out.2.below hb3
  have hb4 := below_more hb2 hb3
  have hne : w.heap.size ≠ w.heap.size + 1 := by omega
  have tB2 := tB.set (u0 := .int .i64 0) (u1 := .int .u64 0) (u2 := .int .i64 0) hne
  obtain ⟨x0, x1, x2⟩ := set3S (u := .int .i64 0) (x := .int .u64 0) (y := .int .i64 0) tA.c0 tA.c1 tA.c2
  have yB := set3B (set3B hb4 (Nat.le_refl _) (.int .i64 0) (.int .u64 0) (.int .i64 0)) (b := w.heap.size + 1) (by omega) (.int .i64 0) (.int .u64 0) (.int .i64 0)
  obtain ⟨y3, y4, y5⟩ := set3S (u := .int .i64 0) (x := .int .u64 0) (y := .int .i64 0) tB2.c0 tB2.c1 tB2.c2
  have y0 := set3O (b := w.heap.size + 1) (u := .int .i64 0) (x := .int .u64 0) (y := .int .i64 0) x0 (by omega)
  have y1 := set3O (b := w.heap.size + 1) (u := .int .i64 0) (x := .int .u64 0) (y := .int .i64 0) x1 (by omega)
  have y2 := set3O (b := w.heap.size + 1) (u := .int .i64 0) (x := .int .u64 0) (y := .int .i64 0) x2 (by omega)
  have c0 := tA.c0
  have c1 := tA.c1
  have c2 := tA.c2
  have f0 := tA.f0
  have f1 := tA.f1
  have f2 := tA.f2
  have d0 := tB2.c0
  have d1 := tB2.c1
  have d2 := tB2.c2
  have g0 := tB2.f0
  have g1 := tB2.f1
  have g2 := tB2.f2
  clear tA tB tB2 x0 x1 x2
  go_wp2
  generalize ((((((w2.setCell ⟨w.heap.size, 0, none⟩ (.int .i64 0)).setCell ⟨w.heap.size, 1, none⟩ (.int .u64 0)).setCell ⟨w.heap.size, 2, none⟩ (.int .i64 0)).setCell ⟨w.heap.size + 1, 0, none⟩ (.int .i64 0)).setCell ⟨w.heap.size + 1, 1, none⟩ (.int .u64 0)).setCell ⟨w.heap.size + 1, 2, none⟩ (.int .i64 0)) = WF at y0 y1 y2 y3 y4 y5 yB ⊢
  refine bodyPost_ret (v := .tuple #[.agg #[.int .i64 0, .int .u64 0, .int .i64 0], .agg #[.int .i64 0, .int .u64 0, .int .i64 0], .string (bs []), .int .i64 (getRangeR l).2.2.2]) (by simp [results, Tryd.results17, go_sem, y0, y1, y2, y3, y4, y5]; rfl) rfl ?_
  refine ⟨?_, yB⟩
  rw [rangeR_err H.out]
  rfl

set_option maxRecDepth 100000 in
set_option maxHeartbeats 2000000 in
theorem GetRange_ok (s : Sn) (t : SnL) (hq : t.q = true) (l : List UInt8) (h : (getRangeR l).2.2.2 = 0) (w : World) (hs : SentL s t w) : Calls Tryd.prog 17 #[.string (bs l)] w (GRPost (getRangeR l) w) := by
  have H := Lib.hid h
  clear h
  have hn0 := Below.new w (.cells #[.int .i64 0, .int .u64 0, .int .i64 0] 24)
  have hn1 := Below.new (w.alloc (.cells #[.int .i64 0, .int .u64 0, .int .i64 0] 24)) (.cells #[.int .i64 0, .int .u64 0, .int .i64 0] 24)
  have hn2 := Below.new ((w.alloc (.cells #[.int .i64 0, .int .u64 0, .int .i64 0] 24)).alloc (.cells #[.int .i64 0, .int .u64 0, .int .i64 0] 24)) (.cells #[.string (bs l), .int .i64 0] 60)
  have hB := below_more (below_more hn0 hn1) hn2
  have triA := ((tri_new w 24 (.int .i64 0) (.int .u64 0) (.int .i64 0)).below hn1).below hn2
  have triB0 := tri_new (w.alloc (.cells #[.int .i64 0, .int .u64 0, .int .i64 0] 24)) 24 (.int .i64 0) (.int .u64 0) (.int .i64 0)
  rw [World.size_alloc] at triB0
  have triB := triB0.below hn2
  have C0 := Lib.hid (by have := Cd.new ((w.alloc (.cells #[.int .i64 0, .int .u64 0, .int .i64 0] 24)).alloc (.cells #[.int .i64 0, .int .u64 0, .int .i64 0] 24)) l 0; rw [World.size_alloc, World.size_alloc] at this; exact this : Cd (((w.alloc (.cells #[.int .i64 0, .int .u64 0, .int .i64 0] 24)).alloc (.cells #[.int .i64 0, .int .u64 0, .int .i64 0] 24)).alloc (.cells #[.string (bs l), .int .i64 0] 60)) (w.heap.size + 1 + 1) l 0)
  have HN := Lib.hid (two_any s t hq w hs (w.heap.size + 1 + 1) (by omega) l 0 _ hB C0.out)
  have HS := Lib.hid hs
  clear hs hn0 hn1 hn2 triB0
  go_enter Tryd.func17, Tryd.ntmps17
  go_wp2_with (go_at_call 30; refine (readL_any l _).mono ?_; rintro e w' ⟨rfl, rfl⟩)
  go_wp2_with (go_at_call 35; refine HN.out.mono ?_)
  rintro e w1 ⟨ev, hev, rfl, hg, hok⟩
  have hb1 : Below w.heap.size w w1 := below_only hB hg (Nat.le_refl _) (by omega)
  have triA1 := triA.kept hg (by omega)
  have triB1 := triB.kept hg (by omega)
  obtain ⟨a, ha⟩ : ∃ a, (getRangeR l).1 = a := ⟨_, rfl⟩
  obtain ⟨b, hb⟩ : ∃ b, (getRangeR l).2.1 = b := ⟨_, rfl⟩
  obtain ⟨r, hr⟩ : ∃ r, (getRangeR l).2.2.1 = r := ⟨_, rfl⟩
  rw [H.out] at hev
  obtain rfl := errL_zero hev
  obtain ⟨k1, hC1⟩ := hok H.out
  rw [hr] at hC1
  rw [ha, hb]
  have HA := Lib.hid (And.intro ha (And.intro hb hr))
  have hn2 := Below.new w1 (.cells #[.int .i64 a.l, .int .u64 a.c, .int .i64 a.i, .int .i64 b.l, .int .u64 b.c, .int .i64 b.i] 64)
  have tA := triA1.below hn2
  have tB := triB1.below hn2
  have hb2 := below_more hb1 hn2
  have r0 := (hC1.more hn2).c0
  have hR := hC1.lt
  clear triA triB triA1 triB1 hok hev hg ha hb hr hC1
  obtain ⟨W, hW⟩ : ∃ W, w1.alloc (.cells #[.int .i64 a.l, .int .u64 a.c, .int .i64 a.i, .int .i64 b.l, .int .u64 b.c, .int .i64 b.i] 64) = W := ⟨_, rfl⟩
  have l0 : W.cell? ⟨w1.heap.size, 0, none⟩ = some (.int .i64 a.l) := by rw [← hW, World.cell?_alloc_at _ _ _ _ rfl]; rfl
  have l1 : W.cell? ⟨w1.heap.size, 1, none⟩ = some (.int .u64 a.c) := by rw [← hW, World.cell?_alloc_at _ _ _ _ rfl]; rfl
  have l2 : W.cell? ⟨w1.heap.size, 2, none⟩ = some (.int .i64 a.i) := by rw [← hW, World.cell?_alloc_at _ _ _ _ rfl]; rfl
  have l3 : W.cell? ⟨w1.heap.size, 3, none⟩ = some (.int .i64 b.l) := by rw [← hW, World.cell?_alloc_at _ _ _ _ rfl]; rfl
  have l4 : W.cell? ⟨w1.heap.size, 4, none⟩ = some (.int .u64 b.c) := by rw [← hW, World.cell?_alloc_at _ _ _ _ rfl]; rfl
  have l5 : W.cell? ⟨w1.heap.size, 5, none⟩ = some (.int .i64 b.i) := by rw [← hW, World.cell?_alloc_at _ _ _ _ rfl]; rfl
  rw [hW] at tA tB hb2 r0
  have hne : w.heap.size ≠ w.heap.size + 1 := by omega
  have tB2 := tB.set (u0 := .int .i64 a.l) (u1 := .int .u64 a.c) (u2 := .int .i64 a.i) hne
  obtain ⟨x0, x1, x2⟩ := set3S (u := .int .i64 a.l) (x := .int .u64 a.c) (y := .int .i64 a.i) tA.c0 tA.c1 tA.c2
  have yB := set3B (set3B hb2 (Nat.le_refl _) (.int .i64 a.l) (.int .u64 a.c) (.int .i64 a.i)) (b := w.heap.size + 1) (by omega) (.int .i64 b.l) (.int .u64 b.c) (.int .i64 b.i)
  obtain ⟨y3, y4, y5⟩ := set3S (u := .int .i64 b.l) (x := .int .u64 b.c) (y := .int .i64 b.i) tB2.c0 tB2.c1 tB2.c2
  have y0 := set3O (b := w.heap.size + 1) (u := .int .i64 b.l) (x := .int .u64 b.c) (y := .int .i64 b.i) x0 (by omega)
  have y1 := set3O (b := w.heap.size + 1) (u := .int .i64 b.l) (x := .int .u64 b.c) (y := .int .i64 b.i) x1 (by omega)
  have y2 := set3O (b := w.heap.size + 1) (u := .int .i64 b.l) (x := .int .u64 b.c) (y := .int .i64 b.i) x2 (by omega)
  have c0 := tA.c0
  have c1 := tA.c1
  have c2 := tA.c2
  have f0 := tA.f0
  have f1 := tA.f1
  have f2 := tA.f2
  have e0 := tB.c0
  have e1 := tB.c1
  have e2 := tB.c2
  have g0 := tB.f0
  have g1 := tB.f1
  have g2 := tB.f2
  have m0 := tB2.c0
  have m1 := tB2.c1
  have m2 := tB2.c2
  have n0 := tB2.f0
  have n1 := tB2.f1
  have n2 := tB2.f2
  have z0 : ∀ u x y, (((W.setCell ⟨w.heap.size, 0, none⟩ u).setCell ⟨w.heap.size, 1, none⟩ x).setCell ⟨w.heap.size, 2, none⟩ y).cell? ⟨w1.heap.size, 0, none⟩ = some (.int .i64 a.l) := fun u x y => set3O l0 (by omega)
  have z1 : ∀ u x y, (((W.setCell ⟨w.heap.size, 0, none⟩ u).setCell ⟨w.heap.size, 1, none⟩ x).setCell ⟨w.heap.size, 2, none⟩ y).cell? ⟨w1.heap.size, 1, none⟩ = some (.int .u64 a.c) := fun u x y => set3O l1 (by omega)
  have z2 : ∀ u x y, (((W.setCell ⟨w.heap.size, 0, none⟩ u).setCell ⟨w.heap.size, 1, none⟩ x).setCell ⟨w.heap.size, 2, none⟩ y).cell? ⟨w1.heap.size, 2, none⟩ = some (.int .i64 a.i) := fun u x y => set3O l2 (by omega)
  have z3 : ∀ u x y, (((W.setCell ⟨w.heap.size, 0, none⟩ u).setCell ⟨w.heap.size, 1, none⟩ x).setCell ⟨w.heap.size, 2, none⟩ y).cell? ⟨w1.heap.size, 3, none⟩ = some (.int .i64 b.l) := fun u x y => set3O l3 (by omega)
  have z4 : ∀ u x y, (((W.setCell ⟨w.heap.size, 0, none⟩ u).setCell ⟨w.heap.size, 1, none⟩ x).setCell ⟨w.heap.size, 2, none⟩ y).cell? ⟨w1.heap.size, 4, none⟩ = some (.int .u64 b.c) := fun u x y => set3O l4 (by omega)
  have z5 : ∀ u x y, (((W.setCell ⟨w.heap.size, 0, none⟩ u).setCell ⟨w.heap.size, 1, none⟩ x).setCell ⟨w.heap.size, 2, none⟩ y).cell? ⟨w1.heap.size, 5, none⟩ = some (.int .i64 b.i) := fun u x y => set3O l5 (by omega)
  have z6 : ∀ u x y, (((W.setCell ⟨w.heap.size, 0, none⟩ u).setCell ⟨w.heap.size, 1, none⟩ x).setCell ⟨w.heap.size, 2, none⟩ y).cell? ⟨w.heap.size + 1 + 1, 0, none⟩ = some (.string (bs r)) := fun u x y => set3O r0 (by omega)
  have q0 : ∀ u x y u' x' y', ((((((W.setCell ⟨w.heap.size, 0, none⟩ u).setCell ⟨w.heap.size, 1, none⟩ x).setCell ⟨w.heap.size, 2, none⟩ y).setCell ⟨w.heap.size + 1, 0, none⟩ u').setCell ⟨w.heap.size + 1, 1, none⟩ x').setCell ⟨w.heap.size + 1, 2, none⟩ y').cell? ⟨w1.heap.size, 0, none⟩ = some (.int .i64 a.l) := fun u x y u' x' y' => set3O (z0 u x y) (by omega)
  have q1 : ∀ u x y u' x' y', ((((((W.setCell ⟨w.heap.size, 0, none⟩ u).setCell ⟨w.heap.size, 1, none⟩ x).setCell ⟨w.heap.size, 2, none⟩ y).setCell ⟨w.heap.size + 1, 0, none⟩ u').setCell ⟨w.heap.size + 1, 1, none⟩ x').setCell ⟨w.heap.size + 1, 2, none⟩ y').cell? ⟨w1.heap.size, 1, none⟩ = some (.int .u64 a.c) := fun u x y u' x' y' => set3O (z1 u x y) (by omega)
  have q2 : ∀ u x y u' x' y', ((((((W.setCell ⟨w.heap.size, 0, none⟩ u).setCell ⟨w.heap.size, 1, none⟩ x).setCell ⟨w.heap.size, 2, none⟩ y).setCell ⟨w.heap.size + 1, 0, none⟩ u').setCell ⟨w.heap.size + 1, 1, none⟩ x').setCell ⟨w.heap.size + 1, 2, none⟩ y').cell? ⟨w1.heap.size, 2, none⟩ = some (.int .i64 a.i) := fun u x y u' x' y' => set3O (z2 u x y) (by omega)
  have q3 : ∀ u x y u' x' y', ((((((W.setCell ⟨w.heap.size, 0, none⟩ u).setCell ⟨w.heap.size, 1, none⟩ x).setCell ⟨w.heap.size, 2, none⟩ y).setCell ⟨w.heap.size + 1, 0, none⟩ u').setCell ⟨w.heap.size + 1, 1, none⟩ x').setCell ⟨w.heap.size + 1, 2, none⟩ y').cell? ⟨w1.heap.size, 3, none⟩ = some (.int .i64 b.l) := fun u x y u' x' y' => set3O (z3 u x y) (by omega)
  have q4 : ∀ u x y u' x' y', ((((((W.setCell ⟨w.heap.size, 0, none⟩ u).setCell ⟨w.heap.size, 1, none⟩ x).setCell ⟨w.heap.size, 2, none⟩ y).setCell ⟨w.heap.size + 1, 0, none⟩ u').setCell ⟨w.heap.size + 1, 1, none⟩ x').setCell ⟨w.heap.size + 1, 2, none⟩ y').cell? ⟨w1.heap.size, 4, none⟩ = some (.int .u64 b.c) := fun u x y u' x' y' => set3O (z4 u x y) (by omega)
  have q5 : ∀ u x y u' x' y', ((((((W.setCell ⟨w.heap.size, 0, none⟩ u).setCell ⟨w.heap.size, 1, none⟩ x).setCell ⟨w.heap.size, 2, none⟩ y).setCell ⟨w.heap.size + 1, 0, none⟩ u').setCell ⟨w.heap.size + 1, 1, none⟩ x').setCell ⟨w.heap.size + 1, 2, none⟩ y').cell? ⟨w1.heap.size, 5, none⟩ = some (.int .i64 b.i) := fun u x y u' x' y' => set3O (z5 u x y) (by omega)
  have q6 : ∀ u x y u' x' y', ((((((W.setCell ⟨w.heap.size, 0, none⟩ u).setCell ⟨w.heap.size, 1, none⟩ x).setCell ⟨w.heap.size, 2, none⟩ y).setCell ⟨w.heap.size + 1, 0, none⟩ u').setCell ⟨w.heap.size + 1, 1, none⟩ x').setCell ⟨w.heap.size + 1, 2, none⟩ y').cell? ⟨w.heap.size + 1 + 1, 0, none⟩ = some (.string (bs r)) := fun u x y u' x' y' => set3O (z6 u x y) (by omega)
  clear tA tB tB2 hn2 hb2 x0 x1 x2
  go_wp2
  try rw [hW]
  go_region_held3 (fun w' => w'.cell? ⟨w1.heap.size, 0, none⟩ = some (.int .i64 a.l) ∧ w'.cell? ⟨w1.heap.size, 1, none⟩ = some (.int .u64 a.c) ∧ w'.cell? ⟨w1.heap.size, 2, none⟩ = some (.int .i64 a.i) ∧ w'.cell? ⟨w1.heap.size, 3, none⟩ = some (.int .i64 b.l) ∧ w'.cell? ⟨w1.heap.size, 4, none⟩ = some (.int .u64 b.c) ∧ w'.cell? ⟨w1.heap.size, 5, none⟩ = some (.int .i64 b.i) ∧ w'.cell? ⟨w.heap.size + 1 + 1, 0, none⟩ = some (.string (bs r)))
    (first | (simp only [World.cell?_drew, l0, l1, l2, l3, l4, l5, r0, z0, z1, z2, z3, z4, z5, z6, q0, q1, q2, q3, q4, q5, q6, and_self]; done)) (fail)
  all_goals go_wp2
  all_goals
    generalize ((((((W.setCell ⟨w.heap.size, 0, none⟩ (.int .i64 a.l)).setCell ⟨w.heap.size, 1, none⟩ (.int .u64 a.c)).setCell ⟨w.heap.size, 2, none⟩ (.int .i64 a.i)).setCell ⟨w.heap.size + 1, 0, none⟩ (.int .i64 b.l)).setCell ⟨w.heap.size + 1, 1, none⟩ (.int .u64 b.c)).setCell ⟨w.heap.size + 1, 2, none⟩ (.int .i64 b.i)) = WF at y0 y1 y2 y3 y4 y5 yB ⊢
    refine bodyPost_ret (v := .tuple #[.agg #[.int .i64 a.l, .int .u64 a.c, .int .i64 a.i], .agg #[.int .i64 b.l, .int .u64 b.c, .int .i64 b.i], .string (bs r), .int .i64 0]) (by simp [results, Tryd.results17, go_sem, y0, y1, y2, y3, y4, y5]) rfl ?_
    refine ⟨?_, below_drew yB⟩
    rw [HA.out.1, HA.out.2.1, HA.out.2.2, H.out]

theorem GetRange_any (s : Sn) (t : SnL) (hq : t.q = true) (l : List UInt8) (w : World) (hs : SentL s t w) : Calls Tryd.prog 17 #[.string (bs l)] w (GRPost (getRangeR l) w) := by
  by_cases h : (getRangeR l).2.2.2 = 0
  · exact GetRange_ok s t hq l h w hs
  · exact GetRange_err s t hq l h w hs

end Go.Proofs.YtfpjbefhfkembaaDoor
