/- judge: whether one of some labels is none. Boxes of floaters and climbers. -/
import Derived.Test.YtciohfeifihobaaDoorCeEnv
import Derived.Test.YtciohfeifihobaaDoorLabIn
namespace Go.Proofs.YtciohfeifihobaaDoor
open Go.RowKit Go.Proofs.Cats Go.Proofs.Cel Go.Shelf Go.Sort

/-- A value is told. -/
def ValP (v : Value) (w : World) (e : Ending) (w' : World) : Prop := e = .returned v ∧ Below w.heap.size w w'
/-- What judge tells. -/
def judgeV (s : Sn) (b : Bool) : Value := if b = true then .nilIface else errV s.n
theorem GRight_w {a : Lab} {r : Bool} {w : World} (ha : a.fits) (hr : a.right = r) : Calls Tryd.prog 40 #[.agg #[.int .i64 a.l, .int .u64 a.c, .int .i64 a.i]] w (BoolP r w) := hr ▸ right_any a ha w
theorem allr_nx {zs : List Lab} {k : Nat} {y : Lab} (hy : zs[k]? = some y) : (zs.take (k + 1)).all Lab.right = ((zs.take k).all Lab.right && y.right) := by
  rw [List.take_add_one, hy, List.all_append]
  simp

set_option maxRecDepth 100000 in
set_option maxHeartbeats 2000000 in
theorem judgeC_any {s : Sn} {zs : List Lab} {ao : Option Addr} {len cap : Nat} {b : Bool} {w : World} (hI : Labs w.heap.size w (.slice ao len cap) zs) (hn : zs.length ≤ 1000) (hb : zs.all Lab.right = b) (hs : Sent s w) :
    Calls Tryd.prog 44 #[.slice ao len cap] w (ValP (judgeV s b) w) := by
  obtain ⟨ao', cap', he, hz⟩ := hI
  injection he with he1 he2 he3
  subst he1 he3
  have hlen := he2.symm
  clear he2
  have hln : len ≤ 1000 := by omega
  have HF := Lib.hid (And.intro hz (And.intro hlen (And.intro hb hs)))
  clear hz hlen hn hb hs
  go_enter Tryd.func44, Tryd.ntmps44
  go_wp2
  go_loopw [7] (fun v wr => ∃ k : Nat, k ≤ len ∧ v = .int .i64 k ∧ Hid ((zs.take k).all Lab.right = true) ∧ Hid (Below w.heap.size w wr)) (fun v _ => len - (intOf v).toNat)
  case atStart => exact ⟨0, Nat.zero_le _, rfl, Lib.hid (by simp), Lib.hid (Below.refl _ _)⟩
  case round =>
    obtain ⟨k, hk, rfl, HA, HB⟩ := hrel
    by_cases hlt : k < len
    · obtain ⟨y, hy⟩ : ∃ y, zs[k]? = some y := ⟨_, List.getElem?_eq_getElem (by have := HF.out.2.1; omega)⟩
      have hd1 : decide ((k : Int) < (len : Int)) = true := decide_eq_true (by omega)
      have HN := Lib.hid (allr_nx hy)
      obtain ⟨bb, off, rfl, hbl, hcs⟩ := HF.out.1 (fun e => by rw [e] at hy; simp at hy)
      obtain ⟨q0, q1, q2⟩ := (hcs k y hy).2.below HB.out hbl
      have HYf := Lib.hid (hcs k y hy).1
      have HY := Lib.hid hy
      have hi1 : (k : Int) < (len : Int) := by omega
      have hN := Below.new wr (.cells #[.int .i64 y.l, .int .u64 y.c, .int .i64 y.i] 24)
      have HB1 := Lib.hid (below_more HB.out hN)
      clear hy hcs hbl hN
      cases hr : y.right with
      | true =>
        have HQ := Lib.hid (fun W => GRight_w (w := W) HYf.out hr)
        have HR := Lib.hid hr
        clear hr
        go_wp2_with (go_at_call 40; refine (HQ.out _).mono ?_)
        rintro e w3 ⟨rfl, hb3⟩
        have HB3 := Lib.hid (below_more HB1.out hb3)
        clear hb3 q0 q1 q2
        go_wp2
        go_roundw
        case rel => exact ⟨k + 1, by omega, by simp, Lib.hid (by rw [HN.out, HA.out, HR.out]; rfl), HB3⟩
        case measure => simp [intOf]; omega
      | false =>
        have HQ := Lib.hid (fun W => GRight_w (w := W) HYf.out hr)
        have HR := Lib.hid hr
        clear hr
        go_wp2_with (go_at_call 40; refine (HQ.out _).mono ?_)
        rintro e w3 ⟨rfl, hb3⟩
        have HB3 := Lib.hid (below_more HB1.out hb3)
        have g0 := (HF.out.2.2.2.more HB3.out).cn
        clear hb3 q0 q1 q2
        go_wp2
        refine bodyPost_ret (results_tmp rfl _ _ _) rfl ⟨?_, HB3.out⟩
        have hbf : b = false := by
          rw [← HF.out.2.2.1, List.all_eq_false]
          exact ⟨y, List.mem_of_getElem? HY.out, by rw [HR.out]; simp⟩
        rw [hbf]
        rfl
    · obtain rfl : k = len := by omega
      have hd1 : decide ((k : Int) < (k : Int)) = false := decide_eq_false (by omega)
      have HAll := Lib.hid (show b = true by have := HA.out; rw [List.take_of_length_le (by have := HF.out.2.1; omega)] at this; rw [← HF.out.2.2.1, this])
      go_wp2
      refine bodyPost_ret (results_tmp rfl _ _ _) rfl ⟨?_, HB.out⟩
      rw [HAll.out]
      rfl

/-- Block B is a variable's own, of a floater's three cells. -/
def BoxF (W : World) (B : Nat) (a : Lab) : Prop := W.heap[B]? = some (.cells #[.int .i64 a.l, .int .u64 a.c, .int .i64 a.i] 42 (0, 0))
theorem BoxF.lt {W : World} {B : Nat} {a : Lab} (h : BoxF W B a) : B < W.heap.size := (Array.getElem?_eq_some_iff.1 h).1
theorem BoxF.lab {W : World} {B : Nat} {a : Lab} (h : BoxF W B a) : W.cell? ⟨B, 0, none⟩ = some (.int .i64 a.l) ∧ W.cell? ⟨B, 1, none⟩ = some (.int .u64 a.c) ∧ W.cell? ⟨B, 2, none⟩ = some (.int .i64 a.i) := ⟨by simp [World.cell?, show W.heap[B]? = _ from h], by simp [World.cell?, show W.heap[B]? = _ from h], by simp [World.cell?, show W.heap[B]? = _ from h]⟩
theorem BoxF.frozen {W : World} {B : Nat} {a : Lab} (h : BoxF W B a) : W.frozen? ⟨B, 0, none⟩ = false ∧ W.frozen? ⟨B, 1, none⟩ = false ∧ W.frozen? ⟨B, 2, none⟩ = false := ⟨by simp [World.frozen?, show W.heap[B]? = _ from h], by simp [World.frozen?, show W.heap[B]? = _ from h], by simp [World.frozen?, show W.heap[B]? = _ from h]⟩
theorem BoxF.new (W : World) (a : Lab) : BoxF (W.alloc (.cells #[.int .i64 a.l, .int .u64 a.c, .int .i64 a.i] 42)) W.heap.size a := World.alloc_heap_new W _
theorem boxF_zero (W : World) : BoxF (W.alloc (.cells #[.int .i64 0, .int .u64 0, .int .i64 0] 42)) W.heap.size Lab.zero := BoxF.new W Lab.zero
theorem BoxF.eq {A B : World} {b : Nat} {a : Lab} (h : BoxF A b a) (e : B.heap[b]? = A.heap[b]?) : BoxF B b a := e.trans h
theorem BoxF.more {A B : World} {b : Nat} {a : Lab} (h : BoxF A b a) (k : Below A.heap.size A B) : BoxF B b a := h.eq (k.block b h.lt)
theorem BoxF.other {W : World} {b b' o : Nat} {a : Lab} {x : Value} (h : BoxF W b a) (hne : b ≠ b') : BoxF (W.setCell ⟨b', o, none⟩ x) b a := h.eq (Below.heap_setCell _ _ _ _ (fun e => hne e))
theorem BoxF.set {W : World} {B : Nat} {a : Lab} (x : Lab) (h : BoxF W B a) : BoxF (((W.setCell ⟨B, 0, none⟩ (.int .i64 x.l)).setCell ⟨B, 1, none⟩ (.int .u64 x.c)).setCell ⟨B, 2, none⟩ (.int .i64 x.i)) B x := by
  have h1 := heap_set (i := 2) (.int .i64 x.i) (heap_set (i := 1) (.int .u64 x.c) (heap_set (i := 0) (.int .i64 x.l) h))
  simpa [BoxF] using h1
theorem BoxF.other3 {W : World} {b b' : Nat} {a : Lab} {x y z : Value} (h : BoxF W b a) (hne : b ≠ b') : BoxF (((W.setCell ⟨b', 0, none⟩ x).setCell ⟨b', 1, none⟩ y).setCell ⟨b', 2, none⟩ z) b a := ((h.other hne).other hne).other hne
/-- .. of a climber's six. -/
def BoxC (W : World) (B : Nat) (a h : Lab) : Prop := W.heap[B]? = some (.cells #[.int .i64 a.l, .int .u64 a.c, .int .i64 a.i, .int .i64 h.l, .int .u64 h.c, .int .i64 h.i] 47 (0, 0))
theorem BoxC.lt {W : World} {B : Nat} {a c : Lab} (h : BoxC W B a c) : B < W.heap.size := (Array.getElem?_eq_some_iff.1 h).1
theorem BoxC.lab {W : World} {B : Nat} {a c : Lab} (h : BoxC W B a c) : (W.cell? ⟨B, 0, none⟩ = some (.int .i64 a.l) ∧ W.cell? ⟨B, 1, none⟩ = some (.int .u64 a.c) ∧ W.cell? ⟨B, 2, none⟩ = some (.int .i64 a.i)) ∧ (W.cell? ⟨B, 3, none⟩ = some (.int .i64 c.l) ∧ W.cell? ⟨B, 4, none⟩ = some (.int .u64 c.c) ∧ W.cell? ⟨B, 5, none⟩ = some (.int .i64 c.i)) := by
  refine ⟨⟨?_, ?_, ?_⟩, ?_, ?_, ?_⟩ <;> simp [World.cell?, show W.heap[B]? = _ from h]
theorem BoxC.frozen {W : World} {B : Nat} {a c : Lab} (h : BoxC W B a c) : W.frozen? ⟨B, 0, none⟩ = false ∧ W.frozen? ⟨B, 1, none⟩ = false ∧ W.frozen? ⟨B, 2, none⟩ = false := ⟨by simp [World.frozen?, show W.heap[B]? = _ from h], by simp [World.frozen?, show W.heap[B]? = _ from h], by simp [World.frozen?, show W.heap[B]? = _ from h]⟩
theorem BoxC.new (W : World) (a h : Lab) : BoxC (W.alloc (.cells #[.int .i64 a.l, .int .u64 a.c, .int .i64 a.i, .int .i64 h.l, .int .u64 h.c, .int .i64 h.i] 47)) W.heap.size a h := World.alloc_heap_new W _
theorem BoxC.eq {A B : World} {b : Nat} {a c : Lab} (h : BoxC A b a c) (e : B.heap[b]? = A.heap[b]?) : BoxC B b a c := e.trans h
theorem BoxC.more {A B : World} {b : Nat} {a c : Lab} (h : BoxC A b a c) (k : Below A.heap.size A B) : BoxC B b a c := h.eq (k.block b h.lt)
theorem BoxC.other {W : World} {b b' o : Nat} {a c : Lab} {x : Value} (h : BoxC W b a c) (hne : b ≠ b') : BoxC (W.setCell ⟨b', o, none⟩ x) b a c := h.eq (Below.heap_setCell _ _ _ _ (fun e => hne e))
theorem BoxC.other3 {W : World} {b b' : Nat} {a c : Lab} {x y z : Value} (h : BoxC W b a c) (hne : b ≠ b') : BoxC (((W.setCell ⟨b', 0, none⟩ x).setCell ⟨b', 1, none⟩ y).setCell ⟨b', 2, none⟩ z) b a c := ((h.other hne).other hne).other hne
theorem BoxC.set {W : World} {B : Nat} {a c : Lab} (x : Lab) (h : BoxC W B a c) : BoxC (((W.setCell ⟨B, 0, none⟩ (.int .i64 x.l)).setCell ⟨B, 1, none⟩ (.int .u64 x.c)).setCell ⟨B, 2, none⟩ (.int .i64 x.i)) B x c := by
  have h1 := heap_set (i := 2) (.int .i64 x.i) (heap_set (i := 1) (.int .u64 x.c) (heap_set (i := 0) (.int .i64 x.l) h))
  simpa [BoxC] using h1
end Go.Proofs.YtciohfeifihobaaDoor
