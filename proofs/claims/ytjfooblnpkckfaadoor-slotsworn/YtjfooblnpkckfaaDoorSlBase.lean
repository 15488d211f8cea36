/- Slots in memory: what package heap asks of the list; what is kept. -/
import Derived.Test.YtjfooblnpkckfaaDoorChecked
import Derived.WalkKit
import Derived.WalkSpells
import Derived.WalkLawsBesides
import Derived.Lib.Hide
import Derived.Deep.RegionWith
import Derived.BigCall
import Derived.RegionTactic
import Derived.LaidEql
import Derived.Stop.Asserts
import Derived.RowKitTokens
import Derived.RangeFuncNested
import Derived.RangeFuncBound
import Derived.RangeFuncCalls
import Derived.RangeFuncLeaves
import Derived.RangeFuncBox
import Derived.Shelf.Abstract
import Derived.Shelf.RegionOpen
import Derived.OwnWalk
import Derived.OwnWalkIn
import Derived.TacticsInMore
import Derived.LoopNIn
import Derived.LoopIn
import Derived.WalkMore
import Derived.BigQuiet
import Derived.Lib.QuietBelow
import Derived.Laws.LoneSync
import Derived.Deep.Onto
namespace Go.Proofs.YtjfooblnpkckfaaDoor
open Go.RowKit

theorem below_more {n : Nat} {w w1 w2 : World} (h : Below n w w1) (k : Below w1.heap.size w1 w2) (hn : n ≤ w.heap.size := by exact Nat.le_refl _) : Below n w w2 := h.trans (k.mono (Nat.le_trans hn h.size))
theorem Below.new (w : World) (o : Obj) : Below w.heap.size w (w.alloc o) := (Below.refl _ w).alloc (Nat.le_refl _) _

/-- All blocks but a, b, c lie as they lay. -/
structure Fr (a b c : Nat) (w w' : World) : Prop where
  os : w'.os = w.os
  tape : w'.tape = w.tape
  output : w'.output = w.output
  size : w.heap.size ≤ w'.heap.size
  block : ∀ k, k < w.heap.size → k ≠ a → k ≠ b → k ≠ c → w'.heap[k]? = w.heap[k]?

theorem Fr.refl (a b c : Nat) (w : World) : Fr a b c w w := ⟨rfl, rfl, rfl, Nat.le_refl _, fun _ _ _ _ _ => rfl⟩
theorem Fr.trans {a b c : Nat} {x y z : World} (h : Fr a b c x y) (k : Fr a b c y z) : Fr a b c x z :=
  ⟨k.os.trans h.os, k.tape.trans h.tape, k.output.trans h.output, Nat.le_trans h.size k.size, fun i hi h1 h2 h3 => (k.block i (Nat.lt_of_lt_of_le hi h.size) h1 h2 h3).trans (h.block i hi h1 h2 h3)⟩
theorem Fr.of_below {a b c : Nat} {w w' : World} (h : Below w.heap.size w w') : Fr a b c w w' := ⟨h.os, h.tape, h.output, h.size, fun k hk _ _ _ => h.block k hk⟩
theorem Fr.below {n a b c : Nat} {w w' : World} (h : Fr a b c w w') (hn : n ≤ w.heap.size) (ha : n ≤ a) (hb : n ≤ b) (hc : n ≤ c) : Below n w w' :=
  ⟨h.os, h.tape, h.output, h.size, fun k hk => h.block k (by omega) (by omega) (by omega) (by omega)⟩
theorem Fr.grown {a b c : Nat} {w w' : World} {row : Option Nat} (h : w.grownBy w' row) (hr : ∀ k, row = some k → k = a ∨ k = b ∨ k = c) : Fr a b c w w' :=
  ⟨h.os, h.tape, h.output, h.size, fun k hk h1 h2 h3 => h.block k hk (fun e => by rcases hr k e.symm with h | h | h <;> contradiction)⟩
theorem Fr.set {a b c : Nat} (w : World) (p : Addr) (u : Value) (hp : p.block = a ∨ p.block = b ∨ p.block = c) : Fr a b c w (w.setCell p u) :=
  ⟨rfl, rfl, rfl, by simp [World.setCell], fun k _ h1 h2 h3 => Below.heap_setCell _ _ _ _ (fun e => by subst e; rcases hp with h | h | h <;> contradiction)⟩
theorem Fr.drew {a b c : Nat} {w w' : World} (h : Fr a b c w w') : Fr a b c w w'.drew := ⟨h.os, h.tape, h.output, h.size, h.block⟩
theorem Fr.cell {a b c : Nat} {w w' : World} (h : Fr a b c w w') {p : Addr} {v : Value} (hc : w.cell? p = some v) (h1 : p.block ≠ a) (h2 : p.block ≠ b) (h3 : p.block ≠ c) : w'.cell? p = some v :=
  (World.cell?_of_block (h.block _ (World.block_lt_of_cell? w _ hc) h1 h2 h3)).trans hc

theorem mrowLen : (Tryd.prog.info? 76).map (fun i => i.methods.find? (·.name == "Len")) = some (some { name := "Len", sig := 42, path := #[⟨50, 0, true⟩], func := some (38, false) }) := by kernel_rfl
theorem mrowLess : (Tryd.prog.info? 76).map (fun i => i.methods.find? (·.name == "Less")) = some (some { name := "Less", sig := 98, path := #[⟨50, 0, true⟩], func := some (60, false) }) := by kernel_rfl
theorem mrowSwap : (Tryd.prog.info? 76).map (fun i => i.methods.find? (·.name == "Swap")) = some (some { name := "Swap", sig := 99, path := #[⟨50, 0, true⟩], func := some (61, false) }) := by kernel_rfl
theorem mrowPush : (Tryd.prog.info? 76).map (fun i => i.methods.find? (·.name == "Push")) = some (some { name := "Push", sig := 89, path := #[⟨50, 0, true⟩], func := some (63, true) }) := by kernel_rfl
theorem mrowPop : (Tryd.prog.info? 76).map (fun i => i.methods.find? (·.name == "Pop")) = some (some { name := "Pop", sig := 101, path := #[⟨50, 0, true⟩], func := some (62, true) }) := by kernel_rfl
theorem sizeList : (Tryd.prog.info? 48).map (·.size) = some 1 := by kernel_rfl
theorem infoSlot : (Tryd.prog.info? 59).map (fun i => (i.zero, i.size, i.bytes)) = some (some (.agg #[.int .i64 0, .int .i64 0, .bool false]), 3, 24) := by kernel_rfl
theorem infoH : (Tryd.prog.info? 32).map (fun i => (i.zero, i.size, i.bytes)) = some (some (.agg #[.int .i64 0, .int .i64 0]), 2, 16) := by kernel_rfl
theorem infoInt : (Tryd.prog.info? 3).map (fun i => (i.zero, i.size, i.bytes)) = some (some (.int .i64 0), 1, 8) := by kernel_rfl
theorem infoBool : (Tryd.prog.info? 4).map (fun i => (i.zero, i.size, i.bytes)) = some (some (.bool false), 1, 1) := by kernel_rfl

theorem meth_val {n : Nat} {name : String} {sg f : Nat} (hrow : (Tryd.prog.info? 76).map (fun i => i.methods.find? (·.name == name)) = some (some { name := name, sig := sg, path := #[⟨50, 0, true⟩], func := some (f, false) })) (S o : Nat) (v : Value) (w : World) (h : w.cell? ⟨S, o, none⟩ = some v) : (Go.method (n + 1) 76 (.pointer (some ⟨S, o, none⟩)) name).run Tryd.prog w = .ok (f, v) w := by
  obtain ⟨i, hi, hm⟩ := Option.map_eq_some_iff.1 hrow
  obtain ⟨j, hj, hs⟩ := Option.map_eq_some_iff.1 sizeList
  unfold Go.method
  simp [typeInfo, hi, hm, follow, go_sem, fieldPlace, sizeOf, hj, hs, receiverAt, Place.get, loadVar, isAgg, h, Addr.add]
theorem meth_ptr {n : Nat} {name : String} {sg f : Nat} (hrow : (Tryd.prog.info? 76).map (fun i => i.methods.find? (·.name == name)) = some (some { name := name, sig := sg, path := #[⟨50, 0, true⟩], func := some (f, true) })) (S o : Nat) (w : World) : (Go.method (n + 1) 76 (.pointer (some ⟨S, o, none⟩)) name).run Tryd.prog w = .ok (f, .pointer (some ⟨S, o, none⟩)) w := by
  obtain ⟨i, hi, hm⟩ := Option.map_eq_some_iff.1 hrow
  obtain ⟨j, hj, hs⟩ := Option.map_eq_some_iff.1 sizeList
  unfold Go.method
  simp [typeInfo, hi, hm, follow, go_sem, fieldPlace, sizeOf, hj, hs, receiverAt, Place.get, Addr.add]
theorem mLen (S o : Nat) (v : Value) (w : World) (h : w.cell? ⟨S, o, none⟩ = some v) : (Go.method 251 76 (.pointer (some ⟨S, o, none⟩)) "Len").run Tryd.prog w = .ok (38, v) w := meth_val mrowLen S o v w h
theorem mLess (S o : Nat) (v : Value) (w : World) (h : w.cell? ⟨S, o, none⟩ = some v) : (Go.method 251 76 (.pointer (some ⟨S, o, none⟩)) "Less").run Tryd.prog w = .ok (60, v) w := meth_val mrowLess S o v w h
theorem mSwap (S o : Nat) (v : Value) (w : World) (h : w.cell? ⟨S, o, none⟩ = some v) : (Go.method 251 76 (.pointer (some ⟨S, o, none⟩)) "Swap").run Tryd.prog w = .ok (61, v) w := meth_val mrowSwap S o v w h
theorem mPush (S o : Nat) (w : World) : (Go.method 251 76 (.pointer (some ⟨S, o, none⟩)) "Push").run Tryd.prog w = .ok (63, .pointer (some ⟨S, o, none⟩)) w := meth_ptr mrowPush S o w
theorem mPop (S o : Nat) (w : World) : (Go.method 251 76 (.pointer (some ⟨S, o, none⟩)) "Pop").run Tryd.prog w = .ok (62, .pointer (some ⟨S, o, none⟩)) w := meth_ptr mrowPop S o w

/-- A list of numbers' cells. -/
def ic (l : List Int) : List Value := l.map (Value.int .i64)
theorem ic_length (l : List Int) : (ic l).length = l.length := by simp [ic]
/-- The list of numbers l lies in a row of its own, from n0 on; the slice has the capacity c. -/
def Row (n0 : Nat) (W : World) (g c : Nat) (l : List Int) : Prop := W.ownsRow n0 3 1 (.slice (some ⟨g, 0, none⟩) l.length c) l.length (ic l)
theorem Row.get {n0 : Nat} {W : World} {g c : Nat} {l : List Int} (h : Row n0 W g c l) (j : Nat) (x : Int) (hj : l[j]? = some x) : W.cell? ⟨g, j, none⟩ = some (.int .i64 x) := by
  have hl := (List.getElem?_eq_some_iff.1 hj).1
  rw [World.ownsRow.cellAt h j (by omega)]
  simp [ic, hj]
theorem Row.frozen {n0 : Nat} {W : World} {g c : Nat} {l : List Int} (h : Row n0 W g c l) (j : Nat) : W.frozen? ⟨g, j, none⟩ = false := World.ownsRow.frozenAt h j
theorem Row.set {n0 : Nat} {W : World} {g c : Nat} {l : List Int} (h : Row n0 W g c l) (j : Nat) (x : Int) : Row n0 (W.setCell ⟨g, j, none⟩ (.int .i64 x)) g c (l.set j x) := by
  have := (World.ownsRow.stored h j (.int .i64 x)).1
  unfold Row
  rw [List.length_set, show ic (l.set j x) = (ic l).set j (.int .i64 x) by simp [ic, List.map_set]]
  exact this
theorem Row.at {n0 : Nat} {W : World} {g c : Nat} {l : List Int} (h : Row n0 W g c l) : n0 ≤ g ∧ l.length ≤ c ∧ c ≤ maxLen ∧ ∃ cur, W.heap[g]? = some (.cells cur 3 (0, 0)) := by
  rcases h.2 with ⟨h', _⟩ | ⟨g', cap', cur, h', hb, hg, hnc, hcm, _⟩
  · simp at h'
  · simp only [Value.slice.injEq, Option.some.injEq, Addr.mk.injEq, and_true, true_and] at h'
    obtain ⟨rfl, rfl⟩ := h'
    exact ⟨hb, hnc, hcm, cur, hg⟩
theorem Row.of_block {n0 : Nat} {W W' : World} {g c : Nat} {l : List Int} (h : Row n0 W g c l) (e : W'.heap[g]? = W.heap[g]?) : Row n0 W' g c l := by
  refine ⟨h.1, ?_⟩
  rcases h.2 with ⟨h', _⟩ | ⟨g', cap', cur, h', hb, hg, rest⟩
  · simp at h'
  · have h'' := h'
    simp only [Value.slice.injEq, Option.some.injEq, Addr.mk.injEq, and_true, true_and] at h''
    obtain ⟨rfl, rfl⟩ := h''
    exact .inr ⟨g, c, cur, rfl, hb, e.trans hg, rest⟩
theorem Row.lt {n0 : Nat} {W : World} {g c : Nat} {l : List Int} (h : Row n0 W g c l) : g < W.heap.size := by
  obtain ⟨_, _, _, cur, hg⟩ := h.at
  exact (Array.getElem?_eq_some_iff.1 hg).1

/-- The struct at S: its three cells. -/
def Obj3 (W : World) (S : Nat) (v0 v1 v2 : Value) : Prop := W.heap[S]? = some (.cells #[v0, v1, v2] 57 (0, 0))
theorem Obj3.lt {W : World} {S : Nat} {v0 v1 v2 : Value} (h : Obj3 W S v0 v1 v2) : S < W.heap.size := (Array.getElem?_eq_some_iff.1 h).1
theorem Obj3.c0 {W : World} {S : Nat} {v0 v1 v2 : Value} (h : Obj3 W S v0 v1 v2) : W.cell? ⟨S, 0, none⟩ = some v0 := by simp [World.cell?, show W.heap[S]? = _ from h]
theorem Obj3.c1 {W : World} {S : Nat} {v0 v1 v2 : Value} (h : Obj3 W S v0 v1 v2) : W.cell? ⟨S, 1, none⟩ = some v1 := by simp [World.cell?, show W.heap[S]? = _ from h]
theorem Obj3.c2 {W : World} {S : Nat} {v0 v1 v2 : Value} (h : Obj3 W S v0 v1 v2) : W.cell? ⟨S, 2, none⟩ = some v2 := by simp [World.cell?, show W.heap[S]? = _ from h]
theorem Obj3.fz {W : World} {S : Nat} {v0 v1 v2 : Value} (h : Obj3 W S v0 v1 v2) (j : Nat) : W.frozen? ⟨S, j, none⟩ = false := by simp [World.frozen?, show W.heap[S]? = _ from h]
theorem Obj3.set0 {W : World} {S : Nat} {v0 v1 v2 : Value} (h : Obj3 W S v0 v1 v2) (u : Value) : Obj3 (W.setCell ⟨S, 0, none⟩ u) S u v1 v2 := heap_setCell_same W S 0 _ _ u h
theorem Obj3.set1 {W : World} {S : Nat} {v0 v1 v2 : Value} (h : Obj3 W S v0 v1 v2) (u : Value) : Obj3 (W.setCell ⟨S, 1, none⟩ u) S v0 u v2 := heap_setCell_same W S 1 _ _ u h
theorem Obj3.set2 {W : World} {S : Nat} {v0 v1 v2 : Value} (h : Obj3 W S v0 v1 v2) (u : Value) : Obj3 (W.setCell ⟨S, 2, none⟩ u) S v0 v1 u := heap_setCell_same W S 2 _ _ u h
theorem Obj3.of_block {W W' : World} {S : Nat} {v0 v1 v2 : Value} (h : Obj3 W S v0 v1 v2) (e : W'.heap[S]? = W.heap[S]?) : Obj3 W' S v0 v1 v2 := e.trans h

end Go.Proofs.YtjfooblnpkckfaaDoor
