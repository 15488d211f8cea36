/- The document's slots, in memory: New, Take. -/
import Derived.Test.YtjfooblnpkckfaaDoorSlLaws
namespace Go.Proofs.YtjfooblnpkckfaaDoor
open Go.RowKit Go.Proofs.Slt Go.Shelf

/-- Generations and marks as they lie. -/
def gc (st : St) : List Value := st.map fun x => .int .i64 (x.1 : Int)
def fc (st : St) : List Value := st.map fun x => .bool (!x.2)
theorem gc_get {st : St} {j g : Nat} {b : Bool} (h : st[j]? = some (g, b)) : (gc st)[j]? = some (.int .i64 (g : Int)) := by simp [gc, h]
theorem fc_get {st : St} {j g : Nat} {b : Bool} (h : st[j]? = some (g, b)) : (fc st)[j]? = some (.bool (!b)) := by simp [fc, h]

/-- Where the document's slots lie. -/
structure Pr where
  R : Nat
  G : Nat
  F : Nat
/-- The document's slots st lie at q, from n0 on. -/
structure Rf (n0 : Nat) (W : World) (q : Pr) (st : St) : Prop where
  obj : W.heap[q.R]? = some (.cells #[.slice (some ⟨q.G, 0, none⟩) st.length st.length, .slice (some ⟨q.F, 0, none⟩) st.length st.length] 63 (0, 0))
  rg : W.ownsRow n0 3 1 (.slice (some ⟨q.G, 0, none⟩) st.length st.length) st.length (gc st)
  rf : W.ownsRow n0 4 1 (.slice (some ⟨q.F, 0, none⟩) st.length st.length) st.length (fc st)
  base : n0 ≤ q.R
  few : st.length ≤ 64
section
variable {n0 : Nat} {W W' : World} {q : Pr} {st : St}
theorem ownsRow_at {e size g n c : Nat} {xs : List Value} (h : W.ownsRow n0 e size (.slice (some ⟨g, 0, none⟩) n c) n xs) : n0 ≤ g ∧ g < W.heap.size ∧ ∃ cur, W.heap[g]? = some (.cells cur e (0, 0)) := by
  rcases h.2 with ⟨h', _⟩ | ⟨g', cap', cur, h', hb, hg, _⟩
  · simp at h'
  · simp only [Value.slice.injEq, Option.some.injEq, Addr.mk.injEq, and_true, true_and] at h'
    obtain ⟨rfl, rfl⟩ := h'
    exact ⟨hb, (Array.getElem?_eq_some_iff.1 hg).1, cur, hg⟩
theorem ownsRow_block {e size g n c : Nat} {xs : List Value} (h : W.ownsRow n0 e size (.slice (some ⟨g, 0, none⟩) n c) n xs) (hb : W'.heap[g]? = W.heap[g]?) : W'.ownsRow n0 e size (.slice (some ⟨g, 0, none⟩) n c) n xs := by
  refine ⟨h.1, ?_⟩
  rcases h.2 with ⟨h', _⟩ | ⟨g', cap', cur, h', hb', hg, rest⟩
  · simp at h'
  · have h'' := h'
    simp only [Value.slice.injEq, Option.some.injEq, Addr.mk.injEq, and_true, true_and] at h''
    obtain ⟨rfl, rfl⟩ := h''
    exact .inr ⟨g, c, cur, rfl, hb', hb.trans hg, rest⟩
theorem Rf.lt (h : Rf n0 W q st) : q.R < W.heap.size ∧ q.G < W.heap.size ∧ q.F < W.heap.size := ⟨(Array.getElem?_eq_some_iff.1 h.obj).1, (ownsRow_at h.rg).2.1, (ownsRow_at h.rf).2.1⟩
theorem Rf.bases (h : Rf n0 W q st) : n0 ≤ q.R ∧ n0 ≤ q.G ∧ n0 ≤ q.F := ⟨h.base, (ownsRow_at h.rg).1, (ownsRow_at h.rf).1⟩
theorem Rf.ne (h : Rf n0 W q st) : q.G ≠ q.R ∧ q.F ≠ q.R ∧ q.G ≠ q.F := by
  obtain ⟨_, _, c1, h1⟩ := ownsRow_at h.rg
  obtain ⟨_, _, c2, h2⟩ := ownsRow_at h.rf
  have h3 := h.obj
  refine ⟨fun e => ?_, fun e => ?_, fun e => ?_⟩
  · rw [e, h3] at h1; cases h1
  · rw [e, h3] at h2; cases h2
  · rw [e, h2] at h1; cases h1
theorem Rf.kept (h : Rf n0 W q st) (h0 : W'.heap[q.R]? = W.heap[q.R]?) (h1 : W'.heap[q.G]? = W.heap[q.G]?) (h2 : W'.heap[q.F]? = W.heap[q.F]?) : Rf n0 W' q st := ⟨h0.trans h.obj, ownsRow_block h.rg h1, ownsRow_block h.rf h2, h.base, h.few⟩
theorem Rf.more (h : Rf n0 W q st) (hb : Below W.heap.size W W') : Rf n0 W' q st := h.kept (hb.block _ h.lt.1) (hb.block _ h.lt.2.1) (hb.block _ h.lt.2.2)
theorem Rf.mono {n1 : Nat} (h : Rf n0 W q st) (hn : n1 ≤ n0) : Rf n1 W q st := ⟨h.obj, World.ownsRow.mono h.rg hn, World.ownsRow.mono h.rf hn, Nat.le_trans hn h.base, h.few⟩
theorem Rf.c0 (h : Rf n0 W q st) : W.cell? ⟨q.R, 0, none⟩ = some (.slice (some ⟨q.G, 0, none⟩) st.length st.length) := by simp [World.cell?, h.obj]
theorem Rf.c1 (h : Rf n0 W q st) : W.cell? ⟨q.R, 1, none⟩ = some (.slice (some ⟨q.F, 0, none⟩) st.length st.length) := by simp [World.cell?, h.obj]
theorem Rf.gen (h : Rf n0 W q st) {j g : Nat} {b : Bool} (hj : st[j]? = some (g, b)) : W.cell? ⟨q.G, j, none⟩ = some (.int .i64 (g : Int)) :=
  (World.ownsRow.cellAt h.rg j (by have := (List.getElem?_eq_some_iff.1 hj).1; omega)).trans (gc_get hj)
theorem Rf.free (h : Rf n0 W q st) {j g : Nat} {b : Bool} (hj : st[j]? = some (g, b)) : W.cell? ⟨q.F, j, none⟩ = some (.bool (!b)) :=
  (World.ownsRow.cellAt h.rf j (by have := (List.getElem?_eq_some_iff.1 hj).1; omega)).trans (fc_get hj)
theorem Rf.zG (h : Rf n0 W q st) (j : Nat) : W.frozen? ⟨q.G, j, none⟩ = false := World.ownsRow.frozenAt h.rg j
theorem Rf.zF (h : Rf n0 W q st) (j : Nat) : W.frozen? ⟨q.F, j, none⟩ = false := World.ownsRow.frozenAt h.rf j
theorem Rf.setF (h : Rf n0 W q st) {j g : Nat} {b : Bool} (hj : st[j]? = some (g, b)) (b' : Bool) : Rf n0 (W.setCell ⟨q.F, j, none⟩ (.bool (!b'))) q (st.set j (g, b')) := by
  have hne := h.ne
  have hl := (List.getElem?_eq_some_iff.1 hj).1
  have k1 := ownsRow_block (W' := W.setCell ⟨q.F, j, none⟩ (.bool (!b'))) h.rg (Below.heap_setCell _ _ _ _ hne.2.2)
  have k2 := (World.ownsRow.stored h.rf j (.bool (!b'))).1
  have eg : gc (st.set j (g, b')) = gc st := by
    unfold gc
    rw [List.map_set]
    apply List.ext_getElem?
    intro i
    by_cases e : j = i
    · subst e
      rw [List.getElem?_set_self (by simpa using hl)]
      simp [hj]
    · rw [List.getElem?_set_ne e]
  have ef : fc (st.set j (g, b')) = (fc st).set j (.bool (!b')) := by simp [fc, List.map_set]
  refine ⟨?_, by rw [List.length_set, eg]; exact k1, by rw [List.length_set, ef]; exact k2, h.base, by rw [List.length_set]; exact h.few⟩
  rw [List.length_set]
  exact (Below.heap_setCell _ _ _ _ (fun e => hne.2.1 e.symm)).trans h.obj
theorem Rf.setG (h : Rf n0 W q st) {j g : Nat} {b : Bool} (hj : st[j]? = some (g, b)) (g' : Nat) : Rf n0 (W.setCell ⟨q.G, j, none⟩ (.int .i64 (g' : Int))) q (st.set j (g', b)) := by
  have hne := h.ne
  have hl := (List.getElem?_eq_some_iff.1 hj).1
  have k1 := (World.ownsRow.stored h.rg j (.int .i64 (g' : Int))).1
  have k2 := ownsRow_block (W' := W.setCell ⟨q.G, j, none⟩ (.int .i64 (g' : Int))) h.rf (Below.heap_setCell _ _ _ _ (fun e => hne.2.2 e.symm))
  have eg : gc (st.set j (g', b)) = (gc st).set j (.int .i64 (g' : Int)) := by simp [gc, List.map_set]
  have ef : fc (st.set j (g', b)) = fc st := by
    unfold fc
    rw [List.map_set]
    apply List.ext_getElem?
    intro i
    by_cases e : j = i
    · subst e
      rw [List.getElem?_set_self (by simpa using hl)]
      simp [hj]
    · rw [List.getElem?_set_ne e]
  refine ⟨?_, by rw [List.length_set, eg]; exact k1, by rw [List.length_set, ef]; exact k2, h.base, by rw [List.length_set]; exact h.few⟩
  rw [List.length_set]
  exact (Below.heap_setCell _ _ _ _ (fun e => hne.1 e.symm)).trans h.obj
end
/-- But for the document's slots' own blocks all is as it was. -/
def Pr.Fr (q : Pr) (w w' : World) : Prop := Go.Proofs.YtjfooblnpkckfaaDoor.Fr q.R q.G q.F w w'

/-- What the document's New tells. -/
def RNewPost (n : Nat) (w : World) (e : Ending) (w' : World) : Prop := ∃ q : Pr, e = .returned (.tuple #[.pointer (some ⟨q.R, 0, none⟩), .int .i64 0]) ∧ Rf w.heap.size w' q (fresh n) ∧ Below w.heap.size w w'

set_option maxHeartbeats 1000000 in
theorem RNew_bad (n : Int) (w : World) (h : n < 1 ∨ 64 < n) : Calls Tryd.prog 11 #[.int .i64 n] w fun e w' => e = .returned (.tuple #[.pointer none, .int .i64 2]) ∧ w = w' := by
  by_cases h1 : n < 1
  · clear h
    go_enter Tryd.func11, Tryd.ntmps11
    go_wp2
    go_ret2
    exact ⟨rfl, rfl⟩
  · have h2 : 64 < n := by omega
    clear h
    go_enter Tryd.func11, Tryd.ntmps11
    go_wp2
    go_ret2
    exact ⟨rfl, rfl⟩

end Go.Proofs.YtjfooblnpkckfaaDoor
