/- Texts as lists of bytes, in memory; frames: what the other texts lean on. -/
import Derived.Test.YtmaolhaddgecpaaDoorChecked
import Derived.WalkKit
import Derived.WalkSpells
import Derived.WalkLawsBesides
import Derived.Lib.Hide
import Derived.Lib.QuietBelow
import Derived.Deep.RegionWith
import Derived.BigCall
import Derived.RegionTactic
import Derived.LaidEql
import Derived.Stop.Asserts
import Derived.RowKitTokens
import Derived.Shelf.Abstract
import Derived.ArgAppend
import Derived.Deep.Onto
import Derived.Lib.AppendZerosOnto
import Derived.Laws.AppendOwnNone
import Derived.ScopeJumps
import Derived.Lib.Strings
import Derived.OwnWalk
import Derived.BigQuiet
import Derived.RangeFuncNested
import Derived.RangeFuncBound
import Derived.RangeFuncCalls
import Derived.RangeFuncLeaves
import Derived.RangeFuncBox
import Derived.Shelf.RegionOpen
import Derived.OwnWalkIn
import Derived.TacticsInMore
import Derived.LoopNIn
import Derived.LoopIn
import Derived.WalkMore
import Derived.Test.YtmaolhaddgecpaaDoorFlMath
import Derived.Lib.LazyBuf
import Derived.Lib.BufferWrite
import Derived.Laws.IdiomStrings
import Derived.Lib.SlBuf
namespace Go.Proofs.YtmaolhaddgecpaaDoor
open Go.RowKit Go.Proofs.Fld Go.Proofs.Fil Go.Shelf Go.Extern.Stop Go.Stop Go.Extern Go.Sort

attribute [local go_sem] Oper.semAt_some

theorem below_more {n : Nat} {w w1 w2 : World} (h : Below n w w1) (k : Below w1.heap.size w1 w2) (hn : n ≤ w.heap.size := by exact Nat.le_refl _) : Below n w w2 := h.trans (k.mono (Nat.le_trans hn h.size))
theorem Below.new (w : World) (o : Obj) : Below w.heap.size w (w.alloc o) := (Below.refl _ w).alloc (Nat.le_refl _) _
theorem bs_toList (l : List UInt8) : (bs l).toList = l := by
  rw [Lib.toList_data]
  rfl
theorem bs_extract (l : List UInt8) (a b : Nat) : (bs l).extract a b = bs ((l.drop a).take (b - a)) := by
  have h := Lib.extract_data (bs l) a b
  rw [bs_all ((bs l).extract a b), h]
  rfl
theorem str_eql (l m : List UInt8) (w : World) : (binOp .eql 9 (.string (bs l)) (.string (bs m))).run Tryd.prog w = .ok (.bool (decide (l = m))) w := by
  simp [go_sem, bs_toList]
  by_cases h : l = m <;> simp [h]
theorem str_neq (l m : List UInt8) (w : World) : (binOp .neq 9 (.string (bs l)) (.string (bs m))).run Tryd.prog w = .ok (.bool (!decide (l = m))) w := by
  simp [go_sem, bs_toList]
  by_cases h : l = m <;> simp [h]
theorem str_upto (l : List UInt8) (k : Nat) (h : k ≤ l.length) (w : World) : (Instr.slice 9 (.string (bs l)) none (some (.int .i64 (k : Int))) none).run Tryd.prog w = .ok (.string (bs (l.take k))) w := by
  simp [go_sem, Tryd.underlying9, bs_size, bs_extract, h]
theorem infoS : (Tryd.prog.info? 9).map (fun i => (i.zero, i.size, i.bytes)) = some (some (.string { data := #[] }), 1, 16) := by kernel_rfl
/-- The slice holds the texts zs. -/
structure Txs (W : World) (ao : Option Addr) (len cap : Nat) (zs : List It) : Prop where
  hlen : zs.length = len
  hle : len ≤ cap
  hmax : cap ≤ maxLen
  hnone : ao = none → cap = 0
  hfits : ∀ x ∈ zs, x.length ≤ 9223372036854775807
  hcells : zs ≠ [] → ∃ b off, ao = some ⟨b, off, none⟩ ∧ ∀ j x, zs[j]? = some x → W.cell? ⟨b, off + j, none⟩ = some (.string (bs x))
theorem Txs.of_block {A B : World} {ao : Option Addr} {len cap : Nat} {zs : List It} (h : Txs A ao len cap zs) (k : ∀ a, ao = some a → a.block < A.heap.size → B.heap[a.block]? = A.heap[a.block]?) : Txs B ao len cap zs :=
  ⟨h.hlen, h.hle, h.hmax, h.hnone, h.hfits, fun hz => by
    obtain ⟨b, off, e, hc⟩ := h.hcells hz
    exact ⟨b, off, e, fun j x hj => (World.cell?_of_block (a := ⟨b, off + j, none⟩) (k ⟨b, off, none⟩ e (World.block_lt_of_cell? A ⟨b, off + j, none⟩ (hc j x hj)))).trans (hc j x hj)⟩⟩
theorem Txs.more {A B : World} {ao : Option Addr} {len cap : Nat} {zs : List It} (h : Txs A ao len cap zs) (k : Below A.heap.size A B) : Txs B ao len cap zs := h.of_block fun _ _ hb => k.block _ hb
theorem Txs.nil (W : World) : Txs W none 0 0 [] := ⟨rfl, Nat.le_refl _, Nat.zero_le _, fun _ => rfl, fun _ h => (by cases h), fun h => absurd rfl h⟩
theorem Txs.at {W : World} {ao : Option Addr} {len cap : Nat} {zs : List It} (h : Txs W ao len cap zs) (hp : 0 < len) : ∃ b off, ao = some ⟨b, off, none⟩ ∧ b < W.heap.size ∧ ∀ j x, zs[j]? = some x → W.cell? ⟨b, off + j, none⟩ = some (.string (bs x)) := by
  have hz : zs ≠ [] := fun e => by have := h.hlen; rw [e] at this; simp at this; omega
  obtain ⟨b, off, e, hc⟩ := h.hcells hz
  obtain ⟨x, hx⟩ : ∃ x, zs[0]? = some x := ⟨_, List.getElem?_eq_getElem (by rw [h.hlen]; exact hp)⟩
  exact ⟨b, off, e, World.block_lt_of_cell? W ⟨b, off + 0, none⟩ (hc 0 x hx), hc⟩
theorem Txs.apart {w W : World} {ao : Option Addr} {len cap : Nat} {zs : List It} (h : Txs w ao len cap zs) (k : Below w.heap.size w W) {X : Nat} (hX : w.heap.size ≤ X) : 0 < len → ∀ a, ao = some a → a.block < W.heap.size ∧ a.block ≠ X := by
  intro hp a e
  obtain ⟨b, off, e', hb, _⟩ := h.at hp
  rw [e] at e'
  obtain rfl := Option.some.inj e'
  have := k.size
  exact ⟨Nat.lt_of_lt_of_le hb this, fun q => by simp only at q; omega⟩
theorem add_at (b off j : Nat) : (⟨b, off, none⟩ : Addr).add j = ⟨b, off + j, none⟩ := by
  unfold Addr.add
  by_cases hj0 : j = 0
  · subst hj0; simp
  · simp [hj0]
/-- It tells b. -/
def BoolP (b : Bool) (w : World) (e : Ending) (w' : World) : Prop := e = .returned (.bool b) ∧ Below w.heap.size w w'
def IntP (v : Int) (w : World) (e : Ending) (w' : World) : Prop := e = .returned (.int .i64 v) ∧ Below w.heap.size w w'
/-- A value, all else as it was. -/
def ValP (v : Value) (w : World) (e : Ending) (w' : World) : Prop := e = .returned v ∧ Below w.heap.size w w'
theorem below_grown {w w' : World} (h : Below w.heap.size w w') : w.grownBy w' none := ⟨h.os, h.tape, h.output, h.size, fun k hk _ => h.block k hk⟩
theorem take_next {α : Type} (zs : List α) (k : Nat) (x : α) (h : zs[k]? = some x) : zs.take (k + 1) = zs.take k ++ [x] := by
  obtain ⟨hk, rfl⟩ := List.getElem?_eq_some_iff.1 h
  rw [List.take_append_getElem hk]
theorem setO {W : World} {a b : Addr} {v x : Value} (h : W.cell? a = some v) (hne : b ≠ a) : (W.setCell b x).cell? a = some v := (World.cell?_setCell_other _ _ _ _ (fun e => hne e)).trans h
theorem setS {W : World} {a : Addr} {v : Value} (x : Value) (h : W.cell? a = some v) : (W.setCell a x).cell? a = some x := World.cell?_setCell_same' _ _ _ (by rw [h]; rfl)
theorem setF {W : World} {a b : Addr} {x : Value} (h : W.frozen? a = false) : (W.setCell b x).frozen? a = false := by rw [World.frozen?_setCell]; exact h
theorem ne_blk {b b' o o' : Nat} (h : b ≠ b') : (⟨b, o, none⟩ : Addr) ≠ ⟨b', o', none⟩ := fun e => h (congrArg Addr.block e)
theorem ne_off {b b' o o' : Nat} (h : o ≠ o') : (⟨b, o, none⟩ : Addr) ≠ ⟨b', o', none⟩ := fun e => h (congrArg Addr.off e)
theorem keeps_below {W W1 : World} (h : Below W.heap.size W W1) : KeepsOthers W W1 := KeepsOthers.of_grownBy (below_grown h) (fun j o e _ => by cases e)
def TruePost (w : World) (e : Ending) (w' : World) : Prop := e = .returned (.bool true) ∧ Below w.heap.size w w'
/-- All blocks below m but those from lo up to hi lie as they lay. -/
def KR (lo hi m : Nat) (A B : World) : Prop := A.heap.size ≤ B.heap.size ∧ ∀ k, k < m → (k < lo ∨ hi ≤ k) → B.heap[k]? = A.heap[k]?
theorem KR.refl (lo hi m : Nat) (A : World) : KR lo hi m A A := ⟨Nat.le_refl _, fun _ _ _ => rfl⟩
theorem KR.trans {lo hi m : Nat} {A B C : World} (h : KR lo hi m A B) (k : KR lo hi m B C) : KR lo hi m A C := ⟨Nat.le_trans h.1 k.1, fun i hi hx => (k.2 i hi hx).trans (h.2 i hi hx)⟩
theorem KR.of_below {lo hi m : Nat} {A B : World} (h : Below m A B) : KR lo hi m A B := ⟨h.size, fun k hk _ => h.block k hk⟩
theorem krK_b {lo hi m : Nat} {w : World} (hn : m ≤ w.heap.size) (W : World) (l : Nat) (o o' : Obj) (hl : w.heap.size ≤ l) (h : W.heap[l]? = some o) (h1 : o.isCells = false) (h2 : o.isWalk = false) : KR lo hi m W (W.putObj l o') := KR.of_below (belowK_b hn W l o o' hl h h1 h2)
theorem KR.set {lo hi m : Nat} (A : World) (X o : Nat) (v : Value) (h1 : lo ≤ X) (h2 : X < hi) : KR lo hi m A (A.setCell ⟨X, o, none⟩ v) := ⟨by simp [World.setCell], fun k _ hx => Below.heap_setCell _ _ _ _ (fun e => by have e' : k = X := e; omega)⟩
theorem KR.cell {lo hi m : Nat} {A B : World} (h : KR lo hi m A B) {a : Addr} {v : Value} (hc : A.cell? a = some v) (hm : a.block < m) (hx : a.block < lo ∨ hi ≤ a.block) : B.cell? a = some v := (World.cell?_of_block (h.2 _ hm hx)).trans hc
/-- A scope that no goto leaves, at the wide fence. -/
theorem wpIn_scope_wide {n : Nat} {P : Program} {c : Code} {Q : Exit → Act → World → Prop} {a : Act} {w : World} (h : c.wpIn Fence.wide n P (Exit.noGoto Q) a w) : (Code.scope c).wpIn Fence.wide n P Q a w :=
  wpIn_wide.2 (wp_scope_straight (wpIn_wide.1 h))
theorem boxed_keep {A B : World} {row : Option Nat} {b : Nat} {t : TypeId} {v : Value} (h : Boxed A b t v) (hg : A.grownBy B row) (hr : ∀ r, row = some r → ∃ o : Obj, A.heap[r]? = some o ∧ o.isCells = false) : Boxed B b t v :=
  h.kept hg fun e => by
    obtain ⟨o, ho, hc⟩ := hr b e.symm
    rw [show A.heap[b]? = _ from h] at ho
    cases ho
    cases hc
theorem boxed_put {W : World} {b D : Nat} {t : TypeId} {v : Value} {o : Obj} (o' : Obj) (h : Boxed W b t v) (hD : W.heap[D]? = some o) (ho : o.isCells = false) : Boxed (W.putObj D o') b t v :=
  boxed_keep h (grownBy_putObj' W D o') (fun r e => by cases e; exact ⟨o, hD, ho⟩)
theorem boxed_more {A B : World} {b : Nat} {t : TypeId} {v : Value} (h : Boxed A b t v) (k : Below A.heap.size A B) : Boxed B b t v := (k.block b h.lt).trans h
theorem boxed_other {W : World} {b b' : Nat} {t : TypeId} {v x : Value} (h : Boxed W b t v) (hne : b ≠ b') : Boxed (W.setCell ⟨b', 0, none⟩ x) b t v := (Below.heap_setCell _ _ _ _ (fun e => hne e)).trans h
theorem heap_drewN (W : World) (k : Nat) : (W.drewN k).heap = W.heap := by simp
theorem Txs.apart3 {w W : World} {ao : Option Addr} {len cap : Nat} {zs : List It} (h : Txs w ao len cap zs) (k : Below w.heap.size w W) {lo hi : Nat} (hX : w.heap.size ≤ lo) : 0 < len → ∀ a, ao = some a → a.block < W.heap.size ∧ (a.block < lo ∨ hi ≤ a.block) := by
  intro hp a e
  obtain ⟨b, off, e', hb, _⟩ := h.at hp
  rw [e] at e'
  obtain rfl := Option.some.inj e'
  have := k.size
  exact ⟨Nat.lt_of_lt_of_le hb this, .inl (Nat.lt_of_lt_of_le hb hX)⟩
end Go.Proofs.YtmaolhaddgecpaaDoor
