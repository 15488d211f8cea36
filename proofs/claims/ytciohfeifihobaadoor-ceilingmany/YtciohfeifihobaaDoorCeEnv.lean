/- What the walks of stage 12 lean on: labels in blocks of their own; what is told. -/
import Derived.Test.YtciohfeifihobaaDoorCeMath
import Derived.Test.YtciohfeifihobaaDoorCeSent
import Derived.Deep.RegionHeld3
import Derived.Lib.QuietBelow
namespace Go.Proofs.YtciohfeifihobaaDoor
open Go.RowKit Go.Proofs.Cats Go.Proofs.Cel Go.Shelf

/-- What the walks lean on. -/
structure Ce (w : World) : Prop where
  et : ErrT w
  sn : ∃ s, Sent s w
theorem Ce.more {A B : World} (h : Ce A) (k : Below A.heap.size A B) : Ce B := ⟨h.et.more k, h.sn.imp fun _ hs => hs.more k⟩
/-- A law's world. -/
structure WC (w0 w : World) : Prop where
  below : Below w0.heap.size w0 w
  ev : Ce w
theorem WC.more {w0 w w' : World} (h : WC w0 w) (k : Below w.heap.size w w') : WC w0 w' := ⟨below_more h.below k, h.ev.more k⟩
theorem WC.of {w : World} (h : Ce w) : WC w w := ⟨Below.refl _ _, h⟩
/-- Block B is a variable's own, of a label's three cells. -/
def BoxL (W : World) (B : Nat) (a : Lab) : Prop := W.heap[B]? = some (.cells #[.int .i64 a.l, .int .u64 a.c, .int .i64 a.i] 24 (0, 0))
theorem BoxL.lt {W : World} {B : Nat} {a : Lab} (h : BoxL W B a) : B < W.heap.size := (Array.getElem?_eq_some_iff.1 h).1
theorem BoxL.lab {W : World} {B : Nat} {a : Lab} (h : BoxL W B a) : W.cell? ⟨B, 0, none⟩ = some (.int .i64 a.l) ∧ W.cell? ⟨B, 1, none⟩ = some (.int .u64 a.c) ∧ W.cell? ⟨B, 2, none⟩ = some (.int .i64 a.i) := ⟨by simp [World.cell?, show W.heap[B]? = _ from h], by simp [World.cell?, show W.heap[B]? = _ from h], by simp [World.cell?, show W.heap[B]? = _ from h]⟩
theorem BoxL.frozen {W : World} {B : Nat} {a : Lab} (h : BoxL W B a) : W.frozen? ⟨B, 0, none⟩ = false ∧ W.frozen? ⟨B, 1, none⟩ = false ∧ W.frozen? ⟨B, 2, none⟩ = false := ⟨by simp [World.frozen?, show W.heap[B]? = _ from h], by simp [World.frozen?, show W.heap[B]? = _ from h], by simp [World.frozen?, show W.heap[B]? = _ from h]⟩
theorem BoxL.new (W : World) (a : Lab) : BoxL (W.alloc (.cells #[.int .i64 a.l, .int .u64 a.c, .int .i64 a.i] 24)) W.heap.size a := World.alloc_heap_new W _
theorem BoxL.eq {A B : World} {b : Nat} {a : Lab} (h : BoxL A b a) (e : B.heap[b]? = A.heap[b]?) : BoxL B b a := e.trans h
theorem BoxL.more {A B : World} {b : Nat} {a : Lab} (h : BoxL A b a) (k : Below A.heap.size A B) : BoxL B b a := h.eq (k.block b h.lt)
theorem BoxL.other {W : World} {b b' o : Nat} {a : Lab} {x : Value} (h : BoxL W b a) (hne : b ≠ b') : BoxL (W.setCell ⟨b', o, none⟩ x) b a := h.eq (Below.heap_setCell _ _ _ _ (fun e => hne e))
theorem heap_set {W : World} {B i : Nat} {cs : Array Value} {t : TypeId} {f : Nat × Nat} (v : Value) (h : W.heap[B]? = some (.cells cs t f)) : (W.setCell ⟨B, i, none⟩ v).heap[B]? = some (.cells (cs.setIfInBounds i v) t f) := by
  obtain ⟨hlt, hk⟩ := Array.getElem?_eq_some_iff.1 h
  show (W.heap.modify B _)[B]? = _
  rw [Array.getElem?_eq_getElem (by rw [Array.size_modify]; exact hlt), Array.getElem_modify_self, hk]
  rfl
theorem BoxL.set {W : World} {B : Nat} {a : Lab} (x : Lab) (h : BoxL W B a) : BoxL (((W.setCell ⟨B, 0, none⟩ (.int .i64 x.l)).setCell ⟨B, 1, none⟩ (.int .u64 x.c)).setCell ⟨B, 2, none⟩ (.int .i64 x.i)) B x := by
  have h1 := heap_set (i := 2) (.int .i64 x.i) (heap_set (i := 1) (.int .u64 x.c) (heap_set (i := 0) (.int .i64 x.l) h))
  simpa [BoxL] using h1
theorem BoxL.other3 {W : World} {b b' : Nat} {a : Lab} {x y z : Value} (h : BoxL W b a) (hne : b ≠ b') : BoxL (((W.setCell ⟨b', 0, none⟩ x).setCell ⟨b', 1, none⟩ y).setCell ⟨b', 2, none⟩ z) b a := ((h.other hne).other hne).other hne
theorem below_set3 {n b : Nat} {W A : World} (h : Below n W A) (hb : n ≤ b) (u v x : Value) : Below n W (((A.setCell ⟨b, 0, none⟩ u).setCell ⟨b, 1, none⟩ v).setCell ⟨b, 2, none⟩ x) := ((h.setCell (p := ⟨b, 0, none⟩) hb u).setCell (p := ⟨b, 1, none⟩) hb v).setCell (p := ⟨b, 2, none⟩) hb x

/-- What is told. -/
def BoolP (b : Bool) (w : World) (e : Ending) (w' : World) : Prop := e = .returned (.bool b) ∧ Below w.heap.size w w'
def LaP (c : Int) (x : Lab) (w : World) (e : Ending) (w' : World) : Prop := e = .returned (.tuple #[.agg #[.int .i64 x.l, .int .u64 x.c, .int .i64 x.i], .int .i64 c]) ∧ Below w.heap.size w w'
def LnP (c : Int) (n : Nat) (x : Lab) (w : World) (e : Ending) (w' : World) : Prop := e = .returned (.tuple #[.agg #[.int .i64 x.l, .int .u64 x.c, .int .i64 x.i], .int .i64 (n : Int), .int .i64 c]) ∧ Below w.heap.size w w'
def BeP (c : Int) (b : Bool) (w : World) (e : Ending) (w' : World) : Prop := e = .returned (.tuple #[.bool b, .int .i64 c]) ∧ Below w.heap.size w w'
section
variable {a b x : Lab} {c : Int} {r : Bool} {w : World}
theorem Join_w (ha : a.fits) (hb : b.fits) (hx : twoJ a b = x) (hc : twoE a b = c) (hs : Ce w) : Calls Tryd.prog 26 #[.agg #[.int .i64 a.l, .int .u64 a.c, .int .i64 a.i], .agg #[.int .i64 b.l, .int .u64 b.c, .int .i64 b.i]] w (LaP c x w) := hx ▸ hc ▸ Join_any a b ha hb w hs.et
theorem RJoin_w (ha : a.fits) (hb : b.fits) (hx : twoJ a b = x) (hc : twoE a b = c) (hs : Ce w) : Calls Tryd.prog 31 #[.agg #[.int .i64 a.l, .int .u64 a.c, .int .i64 a.i], .agg #[.int .i64 b.l, .int .u64 b.c, .int .i64 b.i]] w (LaP c x w) := hx ▸ hc ▸ refJoin_any a b ha hb w hs.et
theorem Under_w (ha : a.fits) (hb : b.fits) (hr : a.under b = r) : Calls Tryd.prog 24 #[.agg #[.int .i64 a.l, .int .u64 a.c, .int .i64 a.i], .agg #[.int .i64 b.l, .int .u64 b.c, .int .i64 b.i]] w (BoolP r w) := hr ▸ Under_any a b ha hb w
theorem RUnder_w (ha : a.fits) (hb : b.fits) (hr : a.under b = r) (hs : Ce w) : Calls Tryd.prog 33 #[.agg #[.int .i64 a.l, .int .u64 a.c, .int .i64 a.i], .agg #[.int .i64 b.l, .int .u64 b.c, .int .i64 b.i]] w (BoolP r w) := hr ▸ refUnder_any a b ha hb w hs.et
theorem RRight_w (hr : a.right = r) : Calls Tryd.prog 32 #[.agg #[.int .i64 a.l, .int .u64 a.c, .int .i64 a.i]] w (BoolP r w) := hr ▸ refRight_any a w
theorem Least_w {ao : Option Addr} {len cap : Nat} {zs : List Lab} (hn : zs.length ≤ 1000) (hI : Labs w.heap.size w (.slice ao len cap) zs) (hx : toldJ Lab.bot zs = x) (hc : toldE zs = c) (hs : Ce w) : Calls Tryd.prog 25 #[.slice ao len cap] w (LaP c x w) := hx ▸ hc ▸ least_any ao len cap zs (by omega) w hI hs.et
end
end Go.Proofs.YtciohfeifihobaaDoor
