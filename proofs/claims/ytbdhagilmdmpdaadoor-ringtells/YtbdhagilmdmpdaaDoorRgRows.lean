/- Texts in memory. -/
import Derived.Test.YtbdhagilmdmpdaaDoorRgBase
namespace Go.Proofs.YtbdhagilmdmpdaaDoor
open Go.RowKit Go.Proofs.Fld Go.Proofs.Rng Go.Shelf

theorem infoS : (Tryd.prog.info? 9).map (fun i => (i.zero, i.size, i.bytes)) = some (some (.string { data := #[] }), 1, 16) := by kernel_rfl
/-- The slice holds the texts zs. -/
structure Txs (W : World) (ao : Option Addr) (len cap : Nat) (zs : List It) : Prop where
  hlen : zs.length = len
  hle : len ≤ cap
  hmax : cap ≤ maxLen
  hnone : ao = none → cap = 0
  hfits : ∀ x ∈ zs, x.length ≤ 9223372036854775807
  hcells : zs ≠ [] → ∃ b off, ao = some ⟨b, off, none⟩ ∧ ∀ j x, zs[j]? = some x → W.cell? ⟨b, off + j, none⟩ = some (.string (bs x))
theorem Txs.of_block {A B : World} {ao : Option Addr} {len cap : Nat} {zs : List It} (h : Txs A ao len cap zs) (k : ∀ a, ao = some a → a.block < A.heap.size → B.heap[a.block]? = A.heap[a.block]?) : Txs B ao len cap zs :=
  ⟨h.hlen, h.hle, h.hmax, h.hnone, h.hfits, fun hz => by
    obtain ⟨b, off, e, hc⟩ := h.hcells hz
    exact ⟨b, off, e, fun j x hj => (World.cell?_of_block (a := ⟨b, off + j, none⟩) (k ⟨b, off, none⟩ e (World.block_lt_of_cell? A ⟨b, off + j, none⟩ (hc j x hj)))).trans (hc j x hj)⟩⟩
theorem Txs.more {A B : World} {ao : Option Addr} {len cap : Nat} {zs : List It} (h : Txs A ao len cap zs) (k : Below A.heap.size A B) : Txs B ao len cap zs := h.of_block fun _ _ hb => k.block _ hb
theorem Txs.nil (W : World) : Txs W none 0 0 [] := ⟨rfl, Nat.le_refl _, Nat.zero_le _, fun _ => rfl, fun _ h => (by cases h), fun h => absurd rfl h⟩
theorem Txs.at {W : World} {ao : Option Addr} {len cap : Nat} {zs : List It} (h : Txs W ao len cap zs) (hp : 0 < len) : ∃ b off, ao = some ⟨b, off, none⟩ ∧ b < W.heap.size ∧ ∀ j x, zs[j]? = some x → W.cell? ⟨b, off + j, none⟩ = some (.string (bs x)) := by
  have hz : zs ≠ [] := fun e => by have := h.hlen; rw [e] at this; simp at this; omega
  obtain ⟨b, off, e, hc⟩ := h.hcells hz
  obtain ⟨x, hx⟩ : ∃ x, zs[0]? = some x := ⟨_, List.getElem?_eq_getElem (by rw [h.hlen]; exact hp)⟩
  exact ⟨b, off, e, World.block_lt_of_cell? W ⟨b, off + 0, none⟩ (hc 0 x hx), hc⟩
theorem Txs.apart {w W : World} {ao : Option Addr} {len cap : Nat} {zs : List It} (h : Txs w ao len cap zs) (k : Below w.heap.size w W) {X : Nat} (hX : w.heap.size ≤ X) : 0 < len → ∀ a, ao = some a → a.block < W.heap.size ∧ a.block ≠ X := by
  intro hp a e
  obtain ⟨b, off, e', hb, _⟩ := h.at hp
  rw [e] at e'
  obtain rfl := Option.some.inj e'
  have := k.size
  exact ⟨Nat.lt_of_lt_of_le hb this, fun q => by simp only at q; omega⟩
theorem Txs.take {W : World} {ao : Option Addr} {len cap : Nat} {zs : List It} (h : Txs W ao len cap zs) (k c : Nat) (hk : k ≤ len) (hc : k ≤ c) (hcc : c ≤ cap) : Txs W ao k c (zs.take k) := by
  refine ⟨by rw [List.length_take, h.hlen]; omega, hc, Nat.le_trans hcc h.hmax, fun e => by have := h.hnone e; omega, fun x hx => h.hfits x (List.mem_of_mem_take hx), fun hz => ?_⟩
  obtain ⟨b, off, e, hcs⟩ := h.hcells (fun e => hz (by rw [e]; simp))
  refine ⟨b, off, e, fun j x hj => ?_⟩
  rw [List.getElem?_take] at hj
  split at hj
  · exact hcs j x hj
  · cases hj
theorem add_at (b off j : Nat) : (⟨b, off, none⟩ : Addr).add j = ⟨b, off + j, none⟩ := by
  unfold Addr.add
  by_cases hj0 : j = 0
  · subst hj0; simp
  · simp [hj0]
/-- Texts' cells. -/
def tcl (l : List It) : List Value := l.map fun x => Value.string (bs x)
theorem tcl_append (l m : List It) : tcl (l ++ m) = tcl l ++ tcl m := by simp [tcl]
theorem tcl_length (l : List It) : (tcl l).length = l.length := by simp [tcl]
theorem tcl_get (l : List It) (j : Nat) (x : It) (h : l[j]? = some x) : (tcl l)[j]? = some (.string (bs x)) := by simp [tcl, h]
theorem tcl_one (l : List It) : ∀ u ∈ tcl l, u.oneCell' = true := by
  intro u hu
  obtain ⟨x, _, rfl⟩ := List.mem_map.1 hu
  rfl
/-- The slice v has the texts l, in a row of its own from n0 on, or is nil. -/
def OwnT (n0 : Nat) (W : World) (v : Value) (l : List It) : Prop := W.ownsRow n0 9 1 v l.length (tcl l)
theorem OwnT.slice {n0 : Nat} {W : World} {v : Value} {l : List It} (h : OwnT n0 W v l) : ∃ a c, v = .slice a l.length c := by
  rcases h.2 with ⟨rfl, h0⟩ | ⟨g, cap, cur, rfl, _⟩
  · exact ⟨none, 0, by rw [h0]⟩
  · exact ⟨_, cap, rfl⟩
theorem OwnT.mono {n0 n1 : Nat} {W : World} {v : Value} {l : List It} (h : OwnT n0 W v l) (hn : n1 ≤ n0) : OwnT n1 W v l := World.ownsRow.mono h hn
theorem OwnT.nil (n0 : Nat) (W : World) : OwnT n0 W (.slice none 0 0) [] := World.ownsRow_nil _ _ _ _
theorem OwnT.more {n0 : Nat} {A B : World} {v : Value} {l : List It} (h : OwnT n0 A v l) (k : Below A.heap.size A B) : OwnT n0 B v l := by
  refine ⟨h.1, ?_⟩
  rcases h.2 with ⟨e, h0⟩ | ⟨g, cap, cur, e, hb, hg, rest⟩
  · exact .inl ⟨e, h0⟩
  · exact .inr ⟨g, cap, cur, e, hb, (k.block g (Array.getElem?_eq_some_iff.1 hg).1).trans hg, rest⟩
theorem OwnT.txs {n0 : Nat} {W : World} {a : Option Addr} {len c : Nat} {l : List It} (h : OwnT n0 W (.slice a len c) l) (hl : l.length = len) (hf : ∀ x ∈ l, x.length ≤ 9223372036854775807) : Txs W a len c l := by
  have h' : W.ownsRow n0 9 1 (.slice a len c) l.length (tcl l) := h
  rcases h.2 with ⟨e, h0⟩ | ⟨g, cap, cur, e, hb, hg, hn, hm, _⟩
  · injection e with e1 e2 e3
    subst e1 e2 e3
    obtain rfl := List.eq_nil_of_length_eq_zero h0
    exact Txs.nil W
  · injection e with e1 e2 e3
    subst e1 e2 e3
    refine ⟨hl, by omega, hm, (fun h => by cases h), hf, fun _ => ⟨g, 0, rfl, fun j x hj => ?_⟩⟩
    have hjl := (List.getElem?_eq_some_iff.1 hj).1
    rw [Nat.zero_add]
    exact (World.ownsRow.cellAt h' j (by omega)).trans (tcl_get l j x hj)
theorem txs_cells {W : World} {b off : Nat} {zs : List It} (h : ∀ j x, zs[j]? = some x → W.cell? ⟨b, off + j, none⟩ = some (.string (bs x))) : ∀ j u, (tcl zs)[j]? = some u → W.cell? ((⟨b, off, none⟩ : Addr).add j) = some u := by
  intro j u hu
  unfold tcl at hu
  rw [List.getElem?_map] at hu
  obtain ⟨x, hx, rfl⟩ := Option.map_eq_some_iff.1 hu
  rw [add_at]
  exact h j x hx
theorem Txs.news {W : World} {ao : Option Addr} {len cap : Nat} {zs : List It} (h : Txs W ao len cap zs) : ∀ b, ao = some b → ∀ j u, (tcl zs)[j]? = some u → W.cell? (b.add j) = some u := by
  intro b e j u hu
  by_cases hz : zs = []
  · subst hz; simp [tcl] at hu
  · obtain ⟨g, off, e', hc⟩ := h.hcells hz
    rw [e] at e'
    obtain rfl := Option.some.inj e'
    exact txs_cells hc j u hu
theorem Txs.nones {W : World} {ao : Option Addr} {len cap : Nat} {zs : List It} (h : Txs W ao len cap zs) : ao = none → len = 0 := fun e => by
  have := h.hnone e
  have := h.hle
  omega
/-- It tells b. -/
def BoolP (b : Bool) (w : World) (e : Ending) (w' : World) : Prop := e = .returned (.bool b) ∧ Below w.heap.size w w'
def IntP (v : Int) (w : World) (e : Ending) (w' : World) : Prop := e = .returned (.int .i64 v) ∧ Below w.heap.size w w'
/-- A value, all else as it was. -/
def ValP (v : Value) (w : World) (e : Ending) (w' : World) : Prop := e = .returned v ∧ Below w.heap.size w w'
theorem below_grown {w w' : World} (h : Below w.heap.size w w') : w.grownBy w' none := ⟨h.os, h.tape, h.output, h.size, fun k hk _ => h.block k hk⟩
theorem take_next {α : Type} (zs : List α) (k : Nat) (x : α) (h : zs[k]? = some x) : zs.take (k + 1) = zs.take k ++ [x] := by
  obtain ⟨hk, rfl⟩ := List.getElem?_eq_some_iff.1 h
  rw [List.take_append_getElem hk]
theorem setO {W : World} {a b : Addr} {v x : Value} (h : W.cell? a = some v) (hne : b ≠ a) : (W.setCell b x).cell? a = some v := (World.cell?_setCell_other _ _ _ _ (fun e => hne e)).trans h
theorem setS {W : World} {a : Addr} {v : Value} (x : Value) (h : W.cell? a = some v) : (W.setCell a x).cell? a = some x := World.cell?_setCell_same' _ _ _ (by rw [h]; rfl)
theorem setF {W : World} {a b : Addr} {x : Value} (h : W.frozen? a = false) : (W.setCell b x).frozen? a = false := by rw [World.frozen?_setCell]; exact h
theorem ne_blk {b b' o o' : Nat} (h : b ≠ b') : (⟨b, o, none⟩ : Addr) ≠ ⟨b', o', none⟩ := fun e => h (congrArg Addr.block e)
theorem ne_off {b b' o o' : Nat} (h : o ≠ o') : (⟨b, o, none⟩ : Addr) ≠ ⟨b', o', none⟩ := fun e => h (congrArg Addr.off e)
theorem keeps_below {W W1 : World} (h : Below W.heap.size W W1) : KeepsOthers W W1 := KeepsOthers.of_grownBy (below_grown h) (fun j o e _ => by cases e)
def TruePost (w : World) (e : Ending) (w' : World) : Prop := e = .returned (.bool true) ∧ Below w.heap.size w w'

end Go.Proofs.YtbdhagilmdmpdaaDoor
