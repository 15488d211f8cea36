/- SlotsOnce: what is known between two rounds. -/
import Derived.Test.YtjfooblnpkckfaaDoorSlLaws
import Derived.Deep.AppendLies
namespace Go.Proofs.Slt

theorem takeS_some {st : St} (h : takeE st = 0) : ∃ i g, st[i]? = some (g, false) ∧ g < 1000 ∧ takeH st = (i, g + 1) ∧ takeS st = st.set i (g + 1, true) := by
  unfold takeE at h
  cases hf : st.findIdx? freeB with
  | none => rw [hf] at h; cases h
  | some i =>
    have hf' := hf
    rw [List.findIdx?_eq_some_iff_getElem] at hf'
    obtain ⟨hi, hb, _⟩ := hf'
    simp [freeB] at hb
    refine ⟨i, st[i].1, ?_, hb.2, ?_, ?_⟩
    · rw [List.getElem?_eq_getElem hi, ← hb.1]
    · simp [takeH, hf, genOf, hi]
    · simp [takeS, hf, genOf, hi]
theorem take_no {st : St} (h : takeE st ≠ 0) : takeS st = st ∧ takeE st = 60 := by
  unfold takeE takeS at *
  cases hf : st.findIdx? freeB with
  | none => simp
  | some i => rw [hf] at h; exact absurd rfl h

end Go.Proofs.Slt
namespace Go.Proofs.YtjfooblnpkckfaaDoor
open Go.RowKit Go.Proofs.Slt Go.Shelf

/-- T were told, G were given back. -/
structure OnceI (n i : Nat) (st : St) (T G : List Hnd) : Prop where
  ok : Okay n i st
  told : ∀ x ∈ T, x.2 ≤ genOf st x.1
  gone : ∀ x ∈ G, x.2 ≤ genOf st x.1 ∧ st[x.1]? ≠ some (x.2, true)
  sum : T.length = G.length + (allR st).length
  few : T.length ≤ i
theorem OnceI.zero (n : Nat) : OnceI n 0 (fresh n) [] [] := ⟨okay_fresh n, (fun _ h => by cases h), (fun _ h => by cases h), (by rw [fresh_all]; rfl), Nat.le_refl _⟩
theorem genOf_set {st : St} {i g : Nat} {b : Bool} (hi : i < st.length) (j : Nat) : genOf (st.set i (g, b)) j = if i = j then g else genOf st j := by
  unfold genOf
  by_cases e : i = j
  · subst e
    simp [hi]
  · rw [if_neg e, List.getElem?_set_ne e]
theorem OnceI.take {n i : Nat} {st : St} {T G : List Hnd} (h : OnceI n i st T G) (h0 : takeE st = 0) : OnceI n (i + 1) (takeS st) (T ++ [takeH st]) G ∧ takeH st ∉ T := by
  obtain ⟨f, g, hf, hg, e1, e2⟩ := takeS_some h0
  have hfl := (List.getElem?_eq_some_iff.1 hf).1
  have hgf := genOf_eq hf
  have hgs := genOf_set (g := g + 1) (b := true) hfl
  refine ⟨⟨okay_take h.ok, fun x hx => ?_, fun x hx => ?_, ?_, by simp; exact h.few⟩, fun hm => ?_⟩
  · rw [e2, hgs]
    rcases List.mem_append.1 hx with hx | hx
    · have := h.told x hx
      by_cases e : f = x.1
      · rw [if_pos e]; rw [← e, hgf] at this; omega
      · rw [if_neg e]; exact this
    · rw [List.mem_singleton.1 hx, e1, if_pos rfl]
      exact Nat.le_refl _
  · obtain ⟨k1, k2⟩ := h.gone x hx
    rw [e2, hgs]
    by_cases e : f = x.1
    · rw [if_pos e]
      rw [← e, hgf] at k1
      refine ⟨by omega, ?_⟩
      rw [← e, List.getElem?_set_self hfl]
      intro e'
      simp at e'
      omega
    · rw [if_neg e, List.getElem?_set_ne e]
      exact ⟨k1, k2⟩
  · rw [e2, allR_take hf, List.length_append, h.sum]
    simp
    omega
  · have := h.told _ hm
    rw [e1, hgf] at this
    dsimp only at this
    omega
theorem OnceI.skip {n i : Nat} {st : St} {T G : List Hnd} (h : OnceI n i st T G) (h0 : takeE st ≠ 0) : OnceI n (i + 1) (takeS st) T G := by
  have e := (take_no h0).1
  have h1 := okay_take h.ok
  rw [e] at h1 ⊢
  exact ⟨h1, h.told, h.gone, h.sum, Nat.le_succ_of_le h.few⟩
theorem OnceI.give {n i : Nat} {st : St} {T G : List Hnd} (h : OnceI n i st T G) {x : Hnd} (hx : x ∈ allR st) : OnceI n i (giveS st (toI x)) T (G ++ [x]) := by
  obtain ⟨f, g⟩ := x
  have hf := (mem_allR st (f, g)).1 hx
  dsimp only at hf
  have hfl := (List.getElem?_eq_some_iff.1 hf).1
  have hgf := genOf_eq hf
  have hgs := genOf_set (g := g) (b := false) hfl
  have hge : ∀ j, genOf (st.set f (g, false)) j = genOf st j := fun j => by
    rw [hgs]
    by_cases e : f = j
    · rw [if_pos e, ← e, hgf]
    · rw [if_neg e]
  have hal := allR_give (g' := g) hf
  have hok := okay_give h.ok (toI (f, g))
  rw [giveS_all hx] at hok ⊢
  dsimp only at hok ⊢
  refine ⟨hok, fun y hy => by rw [hge]; exact h.told y hy, fun y hy => ?_, ?_, h.few⟩
  · rw [hge]
    rcases List.mem_append.1 hy with hy | hy
    · obtain ⟨k1, k2⟩ := h.gone y hy
      refine ⟨k1, ?_⟩
      by_cases e : f = y.1
      · rw [← e, List.getElem?_set_self hfl]; simp
      · rw [List.getElem?_set_ne e]; exact k2
    · rw [List.mem_singleton.1 hy]
      exact ⟨Nat.le_of_eq hgf.symm, by rw [List.getElem?_set_self hfl]; simp⟩
  · rw [h.sum, List.length_append]
    simp
    omega
theorem OnceI.dead {n i : Nat} {st : St} {T G : List Hnd} (h : OnceI n i st T G) {x : Hnd} (hx : x ∈ G) : liveR st ((x.1 : Int), (x.2 : Int)) = false := by
  cases hl : liveR st ((x.1 : Int), (x.2 : Int)) with
  | false => rfl
  | true =>
    obtain ⟨a, b, e, hs⟩ := (liveR_iff _ _).1 hl
    have e1 : x.1 = a := by have := congrArg Prod.fst e; dsimp only at this; omega
    have e2 : x.2 = b := by have := congrArg Prod.snd e; dsimp only at this; omega
    exact absurd (by rw [e1, e2]; exact hs) (h.gone x hx).2

theorem Hs.of_block {n0 : Nat} {W W' : World} {v : Value} {l : List Hnd} (h : Hs n0 W v l) (hb : ∀ k, v.ownBlock = some k → W'.heap[k]? = W.heap[k]?) : Hs n0 W' v l := by
  refine ⟨h.1, ?_⟩
  rcases h.2 with h' | ⟨g, cap, cur, rfl, hg, hh, rest⟩
  · exact .inl h'
  · exact .inr ⟨g, cap, cur, rfl, hg, (hb g rfl).trans hh, rest⟩
theorem Hs.blk {n0 : Nat} {W : World} {v : Value} {l : List Hnd} (h : Hs n0 W v l) {k : Nat} (hk : v.ownBlock = some k) : n0 ≤ k ∧ k < W.heap.size := World.ownsRow.lt h k hk
theorem Hs.more {n0 : Nat} {W W' : World} {v : Value} {l : List Hnd} (h : Hs n0 W v l) (hb : Below W.heap.size W W') : Hs n0 W' v l := h.of_block fun _ hk => hb.block _ (h.blk hk).2
theorem Hs.run {t : Sn} {m : Nat} {w0 : World} {z n0 : Nat} {p : Pl} {st : St} {w w' : World} {v : Value} {l : List Hnd} (h : Hs n0 w v l) (hz : z ≤ n0) (r : Run t m w0 z p st w) (hf : p.Fr w w') : Hs n0 w' v l := h.of_block fun _ hk => r.block hf (h.blk hk).2 (Nat.le_trans hz (h.blk hk).1)
theorem Run.grown {t : Sn} {m : Nat} {w0 : World} {z : Nat} {p : Pl} {st : St} {w w' : World} {row : Option Nat} (h : Run t m w0 z p st w) (hg : w.grownBy w' row) (hr : ∀ k, row = some k → z ≤ k) : Run t m w0 z p st w' := by
  have hl := h.lt
  have hm : m ≤ p.S := by obtain ⟨fr, hs⟩ := h.sl; exact hs.base
  have hb : Below m w w' := (Below.refl m w).grown hg h.ctx.size (fun k e => by have := hr k e; omega)
  have hk : ∀ k, k < z → w'.heap[k]? = w.heap[k]? := fun k hk => hg.block k (Nat.lt_of_lt_of_le hk h.z) (fun e => by have := hr k e.symm; omega)
  obtain ⟨fr, hs⟩ := h.sl
  exact ⟨h.ctx.below hb, ⟨fr, hs.kept (hk _ hl.1) (hk _ hl.2.1) (hk _ hl.2.2)⟩, h.below.trans hb, h.lt, Nat.le_trans h.z hg.size⟩

/-- The law's world between two steps: told and gone in rows of their own. -/
structure OW (t : Sn) (m : Nat) (w0 : World) (z : Nat) (p : Pl) (st : St) (v8 v9 : Value) (T G : List Hnd) (w : World) : Prop where
  run : Run t m w0 z p st w
  h8 : Hs z w v8 T
  h9 : Hs z w v9 G
  ne : ∀ k, v8.ownBlock = some k → v9.ownBlock ≠ some k
section
variable {t : Sn} {m : Nat} {w0 : World} {z : Nat} {p : Pl} {st st' : St} {v8 v9 : Value} {T G : List Hnd} {w w' : World}
theorem OW.more (h : OW t m w0 z p st v8 v9 T G w) (hb : Below w.heap.size w w') : OW t m w0 z p st v8 v9 T G w' := ⟨h.run.more hb, h.h8.more hb, h.h9.more hb, h.ne⟩
theorem OW.step (h : OW t m w0 z p st v8 v9 T G w) (r : Run t m w0 z p st' w') (hf : p.Fr w w') : OW t m w0 z p st' v8 v9 T G w' := ⟨r, h.h8.run (Nat.le_refl _) h.run hf, h.h9.run (Nat.le_refl _) h.run hf, h.ne⟩
theorem OW.told (h : OW t m w0 z p st v8 v9 T G w) {tmp : Obj} {g c : Nat} {x : Hnd} (hown : w'.ownsRow z 32 2 (.slice (some ⟨g, 0, none⟩) (T.length + 1) c) (T.length + 1) (hcl T ++ [.int .i64 x.1, .int .i64 x.2])) (hg : (w.alloc tmp).grownBy w' v8.ownBlock) (hat : v8.ownBlock = some g ∨ g = w.heap.size + 1) :
    OW t m w0 z p st (.slice (some ⟨g, 0, none⟩) (T.length + 1) c) v9 (T ++ [x]) G w' := by
  refine ⟨(h.run.alloc tmp).grown hg (fun k e => (h.h8.blk e).1), ?_, (h.h9.more (Below.new w tmp)).of_block (fun k hk => hg.block k (by have := (h.h9.blk hk).2; simp; omega) (fun e => h.ne k e.symm hk)), fun k hk hk9 => ?_⟩
  · unfold Hs
    rw [hcl_append, List.length_append]
    simpa [hcl] using hown
  · have e : g = k := by simpa [Value.ownBlock] using hk
    subst e
    rcases hat with hat | hat
    · exact h.ne g hat hk9
    · have := (h.h9.blk hk9).2
      omega
theorem OW.gone (h : OW t m w0 z p st v8 v9 T G w) {tmp : Obj} {g c : Nat} {x : Hnd} (hown : w'.ownsRow z 32 2 (.slice (some ⟨g, 0, none⟩) (G.length + 1) c) (G.length + 1) (hcl G ++ [.int .i64 x.1, .int .i64 x.2])) (hg : (w.alloc tmp).grownBy w' v9.ownBlock) (hat : v9.ownBlock = some g ∨ g = w.heap.size + 1) :
    OW t m w0 z p st v8 (.slice (some ⟨g, 0, none⟩) (G.length + 1) c) T (G ++ [x]) w' := by
  refine ⟨(h.run.alloc tmp).grown hg (fun k e => (h.h9.blk e).1), (h.h8.more (Below.new w tmp)).of_block (fun k hk => hg.block k (by have := (h.h8.blk hk).2; simp; omega) (fun e => h.ne k hk e.symm)), ?_, fun k hk hk9 => ?_⟩
  · unfold Hs
    rw [hcl_append, List.length_append]
    simpa [hcl] using hown
  · have e : g = k := by simpa [Value.ownBlock] using hk9
    subst e
    rcases hat with hat | hat
    · exact h.ne g hk hat
    · have := (h.h8.blk hk).2
      omega
end

end Go.Proofs.YtjfooblnpkckfaaDoor
