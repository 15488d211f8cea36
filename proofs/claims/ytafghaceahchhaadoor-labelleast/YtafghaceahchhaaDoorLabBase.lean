/- What a fold keeps in memory. -/
import Derived.Test.YtafghaceahchhaaDoorLabIter
import Derived.Test.YtafghaceahchhaaDoorLabOps
import Derived.Laws.EntriesVeiled
namespace Go.Proofs.YtafghaceahchhaaDoor
open Go.RowKit Go.Proofs.Cats Go.Shelf

/-- A scope that no goto leaves, at the wide fence. -/
theorem wpIn_scope_wide {n : Nat} {P : Program} {c : Code} {Q : Exit → Act → World → Prop} {a : Act} {w : World} (h : c.wpIn Fence.wide n P (Exit.noGoto Q) a w) : (Code.scope c).wpIn Fence.wide n P Q a w :=
  wpIn_wide.2 (wp_scope_straight (wpIn_wide.1 h))

theorem keeps_below {W W1 : World} (h : Below W.heap.size W W1) : KeepsOthers W W1 := KeepsOthers.of_grownBy (below_grown h) (fun j o e _ => by cases e)

/-- Three cells that may be written. -/
def Free3 (W : World) (b : Nat) : Prop := W.frozen? ⟨b, 0, none⟩ = false ∧ W.frozen? ⟨b, 1, none⟩ = false ∧ W.frozen? ⟨b, 2, none⟩ = false

theorem cellK {W W' : World} {row : Option Nat} {a : Addr} {v : Value} (h : W.cell? a = some v) (hg : W.grownBy W' row) (hr : ∀ r, row = some r → ∃ o : Obj, W.heap[r]? = some o ∧ o.isCells = false) : W'.cell? a = some v := cell_kept h hg hr
theorem frozenK {W W' : World} {row : Option Nat} {a : Addr} {v : Value} {b : Bool} (h : W.cell? a = some v) (f : W.frozen? a = b) (hg : W.grownBy W' row) (hr : ∀ r, row = some r → ∃ o : Obj, W.heap[r]? = some o ∧ o.isCells = false) : W'.frozen? a = b := (frozen_kept h hg hr).trans f

/-- What a fold keeps: its function; the label made so far; what is wrong; the answer's room. -/
structure FoldB (n : Nat) (W : World) (m : Lab) (ev fv : Value) : Prop where
  f : W.cell? ⟨n, 3, none⟩ = some fv
  r0 : W.cell? ⟨n + 1, 0, none⟩ = some (.int .i64 0)
  r1 : W.cell? ⟨n + 1, 1, none⟩ = some (.int .u64 0)
  r2 : W.cell? ⟨n + 1, 2, none⟩ = some (.int .i64 0)
  fr0 : W.frozen? ⟨n + 1, 0, none⟩ = false
  fr1 : W.frozen? ⟨n + 1, 1, none⟩ = false
  fr2 : W.frozen? ⟨n + 1, 2, none⟩ = false
  m0 : W.cell? ⟨n + 1 + 1, 0, none⟩ = some (.int .i64 m.l)
  m1 : W.cell? ⟨n + 1 + 1, 1, none⟩ = some (.int .u64 m.c)
  m2 : W.cell? ⟨n + 1 + 1, 2, none⟩ = some (.int .i64 m.i)
  fm0 : W.frozen? ⟨n + 1 + 1, 0, none⟩ = false
  fm1 : W.frozen? ⟨n + 1 + 1, 1, none⟩ = false
  fm2 : W.frozen? ⟨n + 1 + 1, 2, none⟩ = false
  e : W.cell? ⟨n + 1 + 1 + 1, 0, none⟩ = some ev
  fe : W.frozen? ⟨n + 1 + 1 + 1, 0, none⟩ = false

theorem FoldB.kept {n : Nat} {W W' : World} {m : Lab} {ev fv : Value} {row : Option Nat} (h : FoldB n W m ev fv) (hg : W.grownBy W' row) (hr : ∀ r, row = some r → ∃ o : Obj, W.heap[r]? = some o ∧ o.isCells = false) : FoldB n W' m ev fv :=
  ⟨cellK h.f hg hr, cellK h.r0 hg hr, cellK h.r1 hg hr, cellK h.r2 hg hr, frozenK h.r0 h.fr0 hg hr, frozenK h.r1 h.fr1 hg hr, frozenK h.r2 h.fr2 hg hr,
   cellK h.m0 hg hr, cellK h.m1 hg hr, cellK h.m2 hg hr, frozenK h.m0 h.fm0 hg hr, frozenK h.m1 h.fm1 hg hr, frozenK h.m2 h.fm2 hg hr, cellK h.e hg hr, frozenK h.e h.fe hg hr⟩
theorem FoldB.below {n : Nat} {W W' : World} {m : Lab} {ev fv : Value} (h : FoldB n W m ev fv) (k : Below W.heap.size W W') : FoldB n W' m ev fv :=
  h.kept (below_grown k) (fun r e => by cases e)

theorem setO {W : World} {a b : Addr} {v x : Value} (h : W.cell? a = some v) (hne : b ≠ a) : (W.setCell b x).cell? a = some v := (World.cell?_setCell_other _ _ _ _ (fun e => hne e)).trans h
theorem setS {W : World} {a : Addr} {v : Value} (x : Value) (h : W.cell? a = some v) : (W.setCell a x).cell? a = some x := World.cell?_setCell_same' _ _ _ (by rw [h]; rfl)
theorem setF {W : World} {a b : Addr} {x : Value} (h : W.frozen? a = false) : (W.setCell b x).frozen? a = false := by rw [World.frozen?_setCell]; exact h
theorem ne_blk {b b' o o' : Nat} (h : b ≠ b') : (⟨b, o, none⟩ : Addr) ≠ ⟨b', o', none⟩ := fun e => h (congrArg Addr.block e)
theorem ne_off {b b' o o' : Nat} (h : o ≠ o') : (⟨b, o, none⟩ : Addr) ≠ ⟨b', o', none⟩ := fun e => h (congrArg Addr.off e)

theorem FoldB.set {n : Nat} {W : World} {m : Lab} {ev fv : Value} (h : FoldB n W m ev fv) (k : Lab) :
    FoldB n (((W.setCell ⟨n + 1 + 1, 0, none⟩ (.int .i64 k.l)).setCell ⟨n + 1 + 1, 1, none⟩ (.int .u64 k.c)).setCell ⟨n + 1 + 1, 2, none⟩ (.int .i64 k.i)) k ev fv where
  f := setO (setO (setO h.f (ne_blk (by omega))) (ne_blk (by omega))) (ne_blk (by omega))
  r0 := setO (setO (setO h.r0 (ne_blk (by omega))) (ne_blk (by omega))) (ne_blk (by omega))
  r1 := setO (setO (setO h.r1 (ne_blk (by omega))) (ne_blk (by omega))) (ne_blk (by omega))
  r2 := setO (setO (setO h.r2 (ne_blk (by omega))) (ne_blk (by omega))) (ne_blk (by omega))
  fr0 := setF (setF (setF h.fr0))
  fr1 := setF (setF (setF h.fr1))
  fr2 := setF (setF (setF h.fr2))
  m0 := setO (setO (setS _ h.m0) (ne_off (by omega))) (ne_off (by omega))
  m1 := setO (setS _ (setO h.m1 (ne_off (by omega)))) (ne_off (by omega))
  m2 := setS _ (setO (setO h.m2 (ne_off (by omega))) (ne_off (by omega)))
  fm0 := setF (setF (setF h.fm0))
  fm1 := setF (setF (setF h.fm1))
  fm2 := setF (setF (setF h.fm2))
  e := setO (setO (setO h.e (ne_blk (by omega))) (ne_blk (by omega))) (ne_blk (by omega))
  fe := setF (setF (setF h.fe))
theorem FoldB.err {n : Nat} {W : World} {m : Lab} {ev fv : Value} (h : FoldB n W m ev fv) (ev' : Value) : FoldB n (W.setCell ⟨n + 1 + 1 + 1, 0, none⟩ ev') m ev' fv where
  f := setO h.f (ne_blk (by omega))
  r0 := setO h.r0 (ne_blk (by omega))
  r1 := setO h.r1 (ne_blk (by omega))
  r2 := setO h.r2 (ne_blk (by omega))
  fr0 := setF h.fr0
  fr1 := setF h.fr1
  fr2 := setF h.fr2
  m0 := setO h.m0 (ne_blk (by omega))
  m1 := setO h.m1 (ne_blk (by omega))
  m2 := setO h.m2 (ne_blk (by omega))
  fm0 := setF h.fm0
  fm1 := setF h.fm1
  fm2 := setF h.fm2
  e := setS _ h.e
  fe := setF h.fe

theorem foldB_new (w : World) (s : Lab) (fv sv : Value) : FoldB w.heap.size (((((w.alloc (.cells #[.int .i64 s.l, .int .u64 s.c, .int .i64 s.i, fv] 39)).alloc (.cells #[.int .i64 0, .int .u64 0, .int .i64 0] 24)).alloc (.cells #[.int .i64 s.l, .int .u64 s.c, .int .i64 s.i] 24)).alloc (.cells #[.nilIface] 44)).alloc (.cells #[sv] 33)) s .nilIface fv := by
  constructor <;> go_simp

/-- The block for the rounds' deferred calls is shut: the cells read as they did. -/
theorem cellP {W : World} {D : Nat} {a : Addr} {v : Value} (hK : W.heap[D]? = some (.deferred (some []))) (h : W.cell? a = some v) : (W.putObj D (.deferred none)).cell? a = some v :=
  cellK h (grownBy_putObj' _ D _) (fun r e => by cases e; exact ⟨_, hK, rfl⟩)

end Go.Proofs.YtafghaceahchhaaDoor
