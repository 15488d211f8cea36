/- How labels lie in memory; writing a cell. -/
import Derived.Test.YtpaaeojojbdikaaDoorLabOps
import Derived.Test.YtpaaeojojbdikaaDoorLabJudge
import Derived.WalkKit
import Derived.WalkSpells
import Derived.WalkLawsBesides
import Derived.Lib.Hide
import Derived.BigCall
import Derived.RegionTactic
import Derived.LaidEql
import Derived.OwnWalk
import Derived.BigQuiet
import Derived.Lib.QuietBelow
import Derived.RangeFuncNested
import Derived.RangeFuncBound
import Derived.RangeFuncCalls
import Derived.RangeFuncLeaves
import Derived.RangeFuncBox
import Derived.Shelf.Abstract
import Derived.Shelf.RegionOpen
import Derived.OwnWalkIn
import Derived.TacticsInMore
import Derived.LoopNIn
import Derived.LoopIn
import Derived.WalkMore
namespace Go.Proofs.YtpaaeojojbdikaaDoor
open Go.RowKit Go.Proofs.Cats Go.Shelf

/-- The three cells of a label, at block b from o on. -/
def LabAt (W : World) (b o : Nat) (x : Lab) : Prop :=
  W.cell? ⟨b, o, none⟩ = some (.int .i64 x.l) ∧ W.cell? ⟨b, o + 1, none⟩ = some (.int .u64 x.c) ∧ W.cell? ⟨b, o + 2, none⟩ = some (.int .i64 x.i)
theorem LabAt.below {n : Nat} {A B : World} {b o : Nat} {x : Lab} (h : LabAt A b o x) (k : Below n A B) (hb : b < n) : LabAt B b o x :=
  ⟨(k.cell (p := ⟨b, o, none⟩) hb).trans h.1, (k.cell (p := ⟨b, o + 1, none⟩) hb).trans h.2.1, (k.cell (p := ⟨b, o + 2, none⟩) hb).trans h.2.2⟩

/-- The slice value sv holds the labels zs, in a block below n₀, if there are any. -/
def Labs (n₀ : Nat) (W : World) (sv : Value) (zs : List Lab) : Prop :=
  ∃ ao cap, sv = .slice ao zs.length cap ∧ (zs ≠ [] → ∃ b off, ao = some ⟨b, off, none⟩ ∧ b < n₀ ∧ ∀ j x, zs[j]? = some x → x.fits ∧ LabAt W b (off + j * 3) x)
theorem Labs.below {n₀ : Nat} {A B : World} (h : Below n₀ A B) {sv : Value} {zs : List Lab} : Labs n₀ A sv zs → Labs n₀ B sv zs
  | ⟨ao, cap, e, k⟩ => ⟨ao, cap, e, fun hz => let ⟨b, off, e1, hb, hc⟩ := k hz; ⟨b, off, e1, hb, fun j x hj => ⟨(hc j x hj).1, (hc j x hj).2.below h hb⟩⟩⟩
theorem Labs.mono {n₀ n₁ : Nat} (h : n₀ ≤ n₁) {A : World} {sv : Value} {zs : List Lab} : Labs n₀ A sv zs → Labs n₁ A sv zs
  | ⟨ao, cap, e, k⟩ => ⟨ao, cap, e, fun hz => let ⟨b, off, e1, hb, hc⟩ := k hz; ⟨b, off, e1, by omega, hc⟩⟩
theorem Labs.fits {n₀ : Nat} {A : World} {sv : Value} {zs : List Lab} : Labs n₀ A sv zs → ∀ x ∈ zs, x.fits
  | ⟨_, _, _, k⟩ => fun x hx => by
    obtain ⟨b, off, _, _, hc⟩ := k (fun e => by subst e; cases hx)
    obtain ⟨j, hj⟩ := List.getElem?_of_mem hx
    exact (hc j x hj).1

theorem below_grown {w w' : World} (h : Below w.heap.size w w') : w.grownBy w' none := ⟨h.os, h.tape, h.output, h.size, fun k hk _ => h.block k hk⟩
theorem take_next {α : Type} (zs : List α) (k : Nat) (x : α) (h : zs[k]? = some x) : zs.take (k + 1) = zs.take k ++ [x] := by
  obtain ⟨hk, rfl⟩ := List.getElem?_eq_some_iff.1 h
  rw [List.take_append_getElem hk]

/-- errors.errorType's cell. -/
def ErrT (w : World) : Prop := w.cell? ⟨0, 0, none⟩ = some (.iface 100 (.agg #[.pointer (some ⟨1, 47, none⟩)]))
theorem ErrT.lt {w : World} (h : ErrT w) : 0 < w.heap.size := World.block_lt_of_cell? w _ h
theorem ErrT.below {n : Nat} {A B : World} (h : ErrT A) (hn : 0 < n) (hb : Below n A B) : ErrT B := (hb.cell (p := ⟨0, 0, none⟩) hn).trans h
theorem ErrT.more {A B : World} (h : ErrT A) (hb : Below A.heap.size A B) : ErrT B := h.below h.lt hb

theorem one_at (w : World) (x : Lab) (hg : ErrT w) : Below w.heap.size w (w.alloc (.cells #[.int .i64 x.l, .int .u64 x.c, .int .i64 x.i] 25)) ∧ ErrT (w.alloc (.cells #[.int .i64 x.l, .int .u64 x.c, .int .i64 x.i] 25)) ∧ (w.alloc (.cells #[.int .i64 x.l, .int .u64 x.c, .int .i64 x.i] 25)).cell? ⟨w.heap.size, 0, none⟩ = some (.int .i64 x.l) ∧ (w.alloc (.cells #[.int .i64 x.l, .int .u64 x.c, .int .i64 x.i] 25)).cell? ⟨w.heap.size, 1, none⟩ = some (.int .u64 x.c) ∧ (w.alloc (.cells #[.int .i64 x.l, .int .u64 x.c, .int .i64 x.i] 25)).cell? ⟨w.heap.size, 2, none⟩ = some (.int .i64 x.i) := by
  have hB : Below w.heap.size w (w.alloc (.cells #[.int .i64 x.l, .int .u64 x.c, .int .i64 x.i] 25)) := ((Below.refl _ w).alloc (Nat.le_refl _) _)
  refine ⟨hB, hg.more hB, ?_, ?_, ?_⟩ <;> go_simp
theorem two_at (w : World) (x y : Lab) (hg : ErrT w) : Below w.heap.size w ((w.alloc (.cells #[.int .i64 x.l, .int .u64 x.c, .int .i64 x.i] 25)).alloc (.cells #[.int .i64 y.l, .int .u64 y.c, .int .i64 y.i] 25)) ∧ ErrT ((w.alloc (.cells #[.int .i64 x.l, .int .u64 x.c, .int .i64 x.i] 25)).alloc (.cells #[.int .i64 y.l, .int .u64 y.c, .int .i64 y.i] 25)) ∧ ((w.alloc (.cells #[.int .i64 x.l, .int .u64 x.c, .int .i64 x.i] 25)).alloc (.cells #[.int .i64 y.l, .int .u64 y.c, .int .i64 y.i] 25)).cell? ⟨w.heap.size, 0, none⟩ = some (.int .i64 x.l) ∧ ((w.alloc (.cells #[.int .i64 x.l, .int .u64 x.c, .int .i64 x.i] 25)).alloc (.cells #[.int .i64 y.l, .int .u64 y.c, .int .i64 y.i] 25)).cell? ⟨w.heap.size, 1, none⟩ = some (.int .u64 x.c) ∧ ((w.alloc (.cells #[.int .i64 x.l, .int .u64 x.c, .int .i64 x.i] 25)).alloc (.cells #[.int .i64 y.l, .int .u64 y.c, .int .i64 y.i] 25)).cell? ⟨w.heap.size, 2, none⟩ = some (.int .i64 x.i) ∧ ((w.alloc (.cells #[.int .i64 x.l, .int .u64 x.c, .int .i64 x.i] 25)).alloc (.cells #[.int .i64 y.l, .int .u64 y.c, .int .i64 y.i] 25)).cell? ⟨w.heap.size + 1, 0, none⟩ = some (.int .i64 y.l) ∧ ((w.alloc (.cells #[.int .i64 x.l, .int .u64 x.c, .int .i64 x.i] 25)).alloc (.cells #[.int .i64 y.l, .int .u64 y.c, .int .i64 y.i] 25)).cell? ⟨w.heap.size + 1, 1, none⟩ = some (.int .u64 y.c) ∧ ((w.alloc (.cells #[.int .i64 x.l, .int .u64 x.c, .int .i64 x.i] 25)).alloc (.cells #[.int .i64 y.l, .int .u64 y.c, .int .i64 y.i] 25)).cell? ⟨w.heap.size + 1, 2, none⟩ = some (.int .i64 y.i) := by
  have hB : Below w.heap.size w ((w.alloc (.cells #[.int .i64 x.l, .int .u64 x.c, .int .i64 x.i] 25)).alloc (.cells #[.int .i64 y.l, .int .u64 y.c, .int .i64 y.i] 25)) := (((Below.refl _ w).alloc (Nat.le_refl _) _).alloc (by simp) _)
  refine ⟨hB, hg.more hB, ?_, ?_, ?_, ?_, ?_, ?_⟩ <;> go_simp

theorem setO {W : World} {a b : Addr} {v x : Value} (h : W.cell? a = some v) (hne : b ≠ a) : (W.setCell b x).cell? a = some v := (World.cell?_setCell_other _ _ _ _ (fun e => hne e)).trans h
theorem setS {W : World} {a : Addr} {v : Value} (x : Value) (h : W.cell? a = some v) : (W.setCell a x).cell? a = some x := World.cell?_setCell_same' _ _ _ (by rw [h]; rfl)
theorem setF {W : World} {a b : Addr} {x : Value} (h : W.frozen? a = false) : (W.setCell b x).frozen? a = false := by rw [World.frozen?_setCell]; exact h
theorem ne_blk {b b' o o' : Nat} (h : b ≠ b') : (⟨b, o, none⟩ : Addr) ≠ ⟨b', o', none⟩ := fun e => h (congrArg Addr.block e)
theorem ne_off {b b' o o' : Nat} (h : o ≠ o') : (⟨b, o, none⟩ : Addr) ≠ ⟨b', o', none⟩ := fun e => h (congrArg Addr.off e)

end Go.Proofs.YtpaaeojojbdikaaDoor
