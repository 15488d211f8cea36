/- Slots, as plain facts; slots in memory. -/
import Derived.Test.YtjfooblnpkckfaaDoorSlJudge
namespace Go.Proofs.Slt

def freeB (x : Nat × Bool) : Bool := !x.2 && decide (x.1 < 1000)
def genOf (st : St) (i : Nat) : Nat := (st[i]?.getD (0, false)).1
theorem genOf_eq {st : St} {i g : Nat} {b : Bool} (h : st[i]? = some (g, b)) : genOf st i = g := by simp [genOf, h]

theorem few_of_range : ∀ (n : Nat) (l : List Int), l.Nodup → (∀ x ∈ l, 0 ≤ x ∧ x < (n : Int)) → l.length ≤ n
  | 0, l, _, h => by
    cases l with
    | nil => simp
    | cons x r => have := h x (List.mem_cons_self ..); omega
  | n + 1, l, hn, h => by
    by_cases hm : (n : Int) ∈ l
    · have h1 := few_of_range n (l.erase (n : Int)) (hn.erase _) (fun x hx => by
        have hx' := (hn.mem_erase_iff).1 hx
        have := h x hx'.2
        have := hx'.1
        omega)
      rw [List.length_erase_of_mem hm] at h1
      omega
    · have h1 := few_of_range n l hn (fun x hx => by
        have := h x hx
        have : x ≠ n := fun e => hm (e ▸ hx)
        omega)
      omega

theorem allFrom_count (k : Nat) (st : St) : (allFrom k st).length = st.countP (·.2) := by
  induction st generalizing k with
  | nil => rfl
  | cons x r ih =>
    obtain ⟨g, b⟩ := x
    cases b <;> simp [allFrom, ih]
theorem allR_count (st : St) : (allR st).length = st.countP (·.2) := allFrom_count 0 st
theorem allR_take {st : St} {i g g' : Nat} (h : st[i]? = some (g, false)) : (allR (st.set i (g', true))).length = (allR st).length + 1 := by
  obtain ⟨hi, e⟩ := List.getElem?_eq_some_iff.1 h
  rw [allR_count, allR_count, List.countP_set hi, e]
  simp
theorem allR_give {st : St} {i g g' : Nat} (h : st[i]? = some (g, true)) : (allR (st.set i (g', false))).length + 1 = (allR st).length := by
  obtain ⟨hi, e⟩ := List.getElem?_eq_some_iff.1 h
  have hp : 0 < st.countP (·.2) := List.countP_pos_iff.2 ⟨(g, true), List.mem_of_getElem? h, rfl⟩
  rw [allR_count, allR_count, List.countP_set hi, e]
  simp
  omega
theorem allR_le (st : St) : (allR st).length ≤ st.length := by rw [allR_count]; exact List.countP_le_length

/-- Which numbers stand in the heap. -/
structure FreeOk (st : St) (fr : List Int) : Prop where
  hp : Hp fr fr.length
  nd : fr.Nodup
  mem : ∀ x : Int, x ∈ fr ↔ ∃ i : Nat, x = i ∧ ∃ g, st[i]? = some (g, false) ∧ g < 1000
theorem FreeOk.few {st : St} {fr : List Int} (h : FreeOk st fr) : fr.length ≤ st.length :=
  few_of_range _ _ h.nd fun x hx => by
    obtain ⟨i, rfl, g, hg, _⟩ := (h.mem x).1 hx
    have := (List.getElem?_eq_some_iff.1 hg).1
    omega
theorem FreeOk.room {st : St} {fr : List Int} (h : FreeOk st fr) {i g : Nat} (hi : st[i]? = some (g, true)) : fr.length + 1 ≤ st.length := by
  have hni : (i : Int) ∉ fr := fun hm => by
    obtain ⟨j, e, g', hg, _⟩ := (h.mem _).1 hm
    obtain rfl : i = j := by omega
    rw [hi] at hg
    cases hg
  have := few_of_range st.length ((i : Int) :: fr) (List.nodup_cons.2 ⟨hni, h.nd⟩) (fun x hx => by
    rcases List.mem_cons.1 hx with rfl | hx
    · have := (List.getElem?_eq_some_iff.1 hi).1
      omega
    · obtain ⟨i, rfl, g, hg, _⟩ := (h.mem x).1 hx
      have := (List.getElem?_eq_some_iff.1 hg).1
      omega)
  simpa using this
/-- The least free one. -/
theorem FreeOk.least {st : St} {fr : List Int} (h : FreeOk st fr) (hne : 0 < fr.length) : ∃ i g : Nat, at_ fr 0 = (i : Int) ∧ st[i]? = some (g, false) ∧ g < 1000 ∧ st.findIdx? freeB = some i := by
  have h0 : fr[0]? = some (at_ fr 0) := at_eq hne
  obtain ⟨i, hx, g, hg, hg1⟩ := (h.mem _).1 (List.mem_of_getElem? h0)
  refine ⟨i, g, hx, hg, hg1, ?_⟩
  obtain ⟨hi, e⟩ := List.getElem?_eq_some_iff.1 hg
  rw [List.findIdx?_eq_some_iff_getElem]
  refine ⟨hi, by rw [e]; simp [freeB, hg1], fun j hj => ?_⟩
  intro hf
  obtain ⟨g', b'⟩ : ∃ x, x = st[j] := ⟨_, rfl⟩
  have hj2 : st[j]? = some st[j] := List.getElem?_eq_getElem _
  obtain ⟨gj, hgj⟩ : ∃ g, st[j] = (g, false) ∧ g < 1000 := by
    cases hs : st[j] with
    | mk a b =>
      rw [hs] at hf
      cases b <;> simp [freeB] at hf
      exact ⟨a, rfl, hf⟩
  have hm := (h.mem (j : Int)).2 ⟨j, rfl, gj, by rw [hj2, hgj.1], hgj.2⟩
  obtain ⟨k, hk⟩ := List.getElem?_of_mem hm
  have hkl := (List.getElem?_eq_some_iff.1 hk).1
  have := h.hp.min k hkl
  rw [at_of hk, hx] at this
  omega
theorem FreeOk.none {st : St} (h : FreeOk st []) : st.findIdx? freeB = none := by
  rw [List.findIdx?_eq_none_iff]
  intro x hx
  obtain ⟨j, hj⟩ := List.getElem?_of_mem hx
  obtain ⟨a, b⟩ := x
  cases b with
  | true => simp [freeB]
  | false =>
    by_cases h1 : a < 1000
    · have := (h.mem (j : Int)).2 ⟨j, rfl, a, hj, h1⟩
      cases this
    · simp [freeB, h1]
theorem FreeOk.take {st : St} {fr r : List Int} (h : FreeOk st fr) {i g g' : Nat} (hx : at_ fr 0 = (i : Int)) (hi : st[i]? = some (g, false)) (hp : (r ++ [at_ fr 0]).Perm fr) (hr : Hp r r.length) : FreeOk (st.set i (g', true)) r := by
  have hn : (r ++ [at_ fr 0]).Nodup := hp.symm.nodup h.nd
  rw [hx] at hp hn
  rw [List.nodup_append] at hn
  have hil := (List.getElem?_eq_some_iff.1 hi).1
  refine ⟨hr, hn.1, fun x => ?_⟩
  have hm : x ∈ r ↔ x ∈ fr ∧ x ≠ i := by
    rw [← hp.mem_iff, List.mem_append]
    constructor
    · intro hxr
      exact ⟨.inl hxr, fun e => hn.2.2 x hxr i (List.mem_singleton.2 rfl) e⟩
    · rintro ⟨h1 | h1, h2⟩
      · exact h1
      · exact absurd (List.mem_singleton.1 h1) h2
  rw [hm, h.mem]
  constructor
  · rintro ⟨⟨j, rfl, gj, hj, hlt⟩, hne⟩
    exact ⟨j, rfl, gj, by rw [List.getElem?_set_ne (by omega)]; exact hj, hlt⟩
  · rintro ⟨j, rfl, gj, hj, hlt⟩
    by_cases e : i = j
    · subst e
      rw [List.getElem?_set_self hil] at hj
      cases hj
    · rw [List.getElem?_set_ne e] at hj
      exact ⟨⟨j, rfl, gj, hj, hlt⟩, by omega⟩
theorem FreeOk.give {st : St} {fr l : List Int} (h : FreeOk st fr) {i g : Nat} (hi : st[i]? = some (g, true)) (hlt : g < 1000) (hp : l.Perm (fr ++ [(i : Int)])) (hr : Hp l l.length) : FreeOk (st.set i (g, false)) l := by
  have hil := (List.getElem?_eq_some_iff.1 hi).1
  have hni : (i : Int) ∉ fr := fun hm => by
    obtain ⟨j, e, g', hg, _⟩ := (h.mem _).1 hm
    obtain rfl : i = j := by omega
    rw [hi] at hg
    cases hg
  refine ⟨hr, hp.symm.nodup ?_, fun x => ?_⟩
  · rw [List.nodup_append]
    exact ⟨h.nd, by simp, fun a ha b hb e => by rw [List.mem_singleton.1 hb] at e; exact hni (e ▸ ha)⟩
  · rw [hp.mem_iff, List.mem_append, h.mem, List.mem_singleton]
    constructor
    · rintro (⟨j, rfl, gj, hj, hl⟩ | rfl)
      · have : i ≠ j := fun e => by subst e; rw [hi] at hj; cases hj
        exact ⟨j, rfl, gj, by rw [List.getElem?_set_ne this]; exact hj, hl⟩
      · exact ⟨i, rfl, g, List.getElem?_set_self hil, hlt⟩
    · rintro ⟨j, rfl, gj, hj, hl⟩
      by_cases e : i = j
      · exact .inr (by rw [e])
      · rw [List.getElem?_set_ne e] at hj
        exact .inl ⟨j, rfl, gj, hj, hl⟩
theorem FreeOk.worn {st : St} {fr : List Int} (h : FreeOk st fr) {i g : Nat} (hi : st[i]? = some (g, true)) (hlt : ¬ g < 1000) : FreeOk (st.set i (g, false)) fr := by
  have hil := (List.getElem?_eq_some_iff.1 hi).1
  refine ⟨h.hp, h.nd, fun x => ?_⟩
  rw [h.mem]
  constructor
  · rintro ⟨j, rfl, gj, hj, hl⟩
    have : i ≠ j := fun e => by subst e; rw [hi] at hj; cases hj
    exact ⟨j, rfl, gj, by rw [List.getElem?_set_ne this]; exact hj, hl⟩
  · rintro ⟨j, rfl, gj, hj, hl⟩
    by_cases e : i = j
    · subst e
      rw [List.getElem?_set_self hil] at hj
      cases hj
      exact absurd hl hlt
    · rw [List.getElem?_set_ne e] at hj
      exact ⟨j, rfl, gj, hj, hl⟩

/-- What Take makes and tells. -/
def takeS (st : St) : St := match st.findIdx? freeB with | none => st | some i => st.set i (genOf st i + 1, true)
def takeH (st : St) : Hnd := match st.findIdx? freeB with | none => (0, 0) | some i => (i, genOf st i + 1)
def takeE (st : St) : Int := match st.findIdx? freeB with | none => 60 | some _ => 0

end Go.Proofs.Slt
namespace Go.Proofs.YtjfooblnpkckfaaDoor
open Go.RowKit Go.Proofs.Slt Go.Shelf

/-- What Give makes and tells. -/
def giveS (st : St) (h : IH) : St := if liveR st h then st.set h.1.toNat (h.2.toNat, false) else st
def giveE (st : St) (h : IH) : Int := if liveR st h then 0 else 61
theorem liveR_iff (st : St) (h : IH) : liveR st h = true ↔ ∃ i g : Nat, h = ((i : Int), (g : Int)) ∧ st[i]? = some (g, true) := by
  unfold liveR
  rw [List.any_eq_true]
  constructor
  · rintro ⟨x, hx, he⟩
    obtain ⟨i, g⟩ := x
    obtain ⟨a, b⟩ := h
    rw [mem_allR] at hx
    simp [sameI, toI] at he
    exact ⟨i, g, by rw [he.1, he.2], hx⟩
  · rintro ⟨i, g, rfl, hs⟩
    exact ⟨(i, g), (mem_allR _ _).2 hs, by simp [sameI, toI]⟩

/-- Where slots lie: the struct, the slots' row and its capacity, the heap's row and its. -/
structure Pl where
  S : Nat
  g1 : Nat
  c1 : Nat
  g2 : Nat
  c2 : Nat

/-- Slots st lie at p, from n0 on; in the heap stands fr. -/
structure SlF (n0 : Nat) (W : World) (p : Pl) (st : St) (fr : List Int) : Prop where
  obj : Obj3 W p.S (.slice (some ⟨p.g1, 0, none⟩) st.length p.c1) (.slice (some ⟨p.g2, 0, none⟩) fr.length p.c2) (.int .i64 ((allR st).length : Int))
  rs : Rs n0 W p.g1 p.c1 st
  row : Row n0 W p.g2 p.c2 fr
  free : FreeOk st fr
  room : st.length ≤ p.c2
  few : st.length ≤ 64
  gen : ∀ (i g : Nat) (b : Bool), st[i]? = some (g, b) → g ≤ 1000
  base : n0 ≤ p.S
def Sl (n0 : Nat) (W : World) (p : Pl) (st : St) : Prop := ∃ fr, SlF n0 W p st fr
theorem SlF.n1 {n0 : Nat} {W : World} {p : Pl} {st : St} {fr : List Int} (h : SlF n0 W p st fr) : p.g1 ≠ p.S := fun e => by
  obtain ⟨_, _, _, cur, hc⟩ := h.rs.at
  rw [e, show W.heap[p.S]? = _ from h.obj] at hc
  cases hc
theorem SlF.n2 {n0 : Nat} {W : World} {p : Pl} {st : St} {fr : List Int} (h : SlF n0 W p st fr) : p.g2 ≠ p.S := fun e => by
  obtain ⟨_, _, _, cur, hc⟩ := h.row.at
  rw [e, show W.heap[p.S]? = _ from h.obj] at hc
  cases hc
theorem SlF.n12 {n0 : Nat} {W : World} {p : Pl} {st : St} {fr : List Int} (h : SlF n0 W p st fr) : p.g1 ≠ p.g2 := fun e => by
  obtain ⟨_, _, _, cur, hc⟩ := h.row.at
  obtain ⟨_, _, _, cur', hc'⟩ := h.rs.at
  rw [e, hc] at hc'
  cases hc'
theorem SlF.hv {n0 : Nat} {W : World} {p : Pl} {st : St} {fr : List Int} (h : SlF n0 W p st fr) : Hv n0 W p.S p.g2 p.c2 (.slice (some ⟨p.g1, 0, none⟩) st.length p.c1) (.int .i64 ((allR st).length : Int)) fr := ⟨h.obj, h.row⟩
theorem SlF.kept {n0 : Nat} {W W' : World} {p : Pl} {st : St} {fr : List Int} (h : SlF n0 W p st fr) (hs : W'.heap[p.S]? = W.heap[p.S]?) (h1 : W'.heap[p.g1]? = W.heap[p.g1]?) (h2 : W'.heap[p.g2]? = W.heap[p.g2]?) : SlF n0 W' p st fr :=
  ⟨h.obj.of_block hs, h.rs.of_block h1, h.row.of_block h2, h.free, h.room, h.few, h.gen, h.base⟩
theorem Sl.more {n0 : Nat} {W W' : World} {p : Pl} {st : St} (h : Sl n0 W p st) (hb : Below W.heap.size W W') : Sl n0 W' p st := by
  obtain ⟨fr, h⟩ := h
  exact ⟨fr, h.kept (hb.block _ h.obj.lt) (hb.block _ h.rs.lt) (hb.block _ h.row.lt)⟩
theorem Sl.fr {n0 : Nat} {W W' : World} {p : Pl} {st : St} (h : Sl n0 W p st) {a b c : Nat} (hf : Fr a b c W W') (hS : p.S ≠ a ∧ p.S ≠ b ∧ p.S ≠ c) (h1 : p.g1 ≠ a ∧ p.g1 ≠ b ∧ p.g1 ≠ c) (h2 : p.g2 ≠ a ∧ p.g2 ≠ b ∧ p.g2 ≠ c) : Sl n0 W' p st := by
  obtain ⟨fr, h⟩ := h
  exact ⟨fr, h.kept (hf.block _ h.obj.lt hS.1 hS.2.1 hS.2.2) (hf.block _ h.rs.lt h1.1 h1.2.1 h1.2.2) (hf.block _ h.row.lt h2.1 h2.2.1 h2.2.2)⟩
/-- But for the slots' own blocks all is as it was. -/
def Pl.Fr (p : Pl) (w w' : World) : Prop := Go.Proofs.YtjfooblnpkckfaaDoor.Fr p.S p.g1 p.g2 w w'
theorem Sl.below {n0 : Nat} {W W' : World} {p : Pl} {st : St} (h : Sl n0 W p st) (hf : p.Fr W W') (hn : n0 ≤ W.heap.size) : Below n0 W W' := by
  obtain ⟨fr, h⟩ := h
  exact Fr.below hf hn h.base h.rs.at.1 h.row.at.1

end Go.Proofs.YtjfooblnpkckfaaDoor
