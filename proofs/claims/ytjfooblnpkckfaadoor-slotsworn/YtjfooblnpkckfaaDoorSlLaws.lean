/- Plain facts for the laws over runs; slices of numbers that come in. -/
import Derived.Test.YtjfooblnpkckfaaDoorSlShown
namespace Go.Proofs.Slt

/-- n slots, none of them taken more than i times. -/
def Okay (n i : Nat) (st : St) : Prop := st.length = n ∧ ∀ (j g : Nat) (b : Bool), st[j]? = some (g, b) → g ≤ i
theorem okay_fresh (n : Nat) : Okay n 0 (fresh n) := ⟨fresh_length n, fun j g b h => by
  have hl := (List.getElem?_eq_some_iff.1 h).1
  rw [fresh_length] at hl
  rw [fresh_get hl] at h
  cases h
  exact Nat.le_refl _⟩
theorem okay_take {n i : Nat} {st : St} (h : Okay n i st) : Okay n (i + 1) (takeS st) := by
  unfold takeS
  cases hf : st.findIdx? freeB with
  | none => exact ⟨h.1, fun j g b hj => Nat.le_succ_of_le (h.2 j g b hj)⟩
  | some k =>
    refine ⟨by simp [h.1], fun j g b hj => ?_⟩
    by_cases e : k = j
    · subst e
      have hl := (List.getElem?_eq_some_iff.1 hj).1
      rw [List.length_set] at hl
      rw [List.getElem?_set_self hl] at hj
      cases hj
      have hgk : st[k]? = some (st[k].1, st[k].2) := List.getElem?_eq_getElem hl
      have := h.2 k _ _ hgk
      have e2 : genOf st k = st[k].1 := by simp [genOf, hl]
      omega
    · dsimp only at hj
      rw [List.getElem?_set_ne e] at hj
      exact Nat.le_succ_of_le (h.2 j g b hj)
/-- The number that least is: the first slot that can be taken, or how many there are. -/
def leastOf (st : St) : Nat := (st.findIdx? freeB).getD st.length
theorem allFrom_true : ∀ (k : Nat) (a : St), (∀ x ∈ a, x.2 = true) → (∀ j : Nat, (allFrom k a)[j]? = (a[j]?).map fun x => (k + j, x.1)) ∧ (allFrom k a).length = a.length
  | _, [], _ => ⟨fun j => by simp [allFrom], rfl⟩
  | k, (g, b) :: r, h => by
    have hb : b = true := h (g, b) (List.mem_cons_self ..)
    subst hb
    obtain ⟨i1, i2⟩ := allFrom_true (k + 1) r (fun x hx => h x (List.mem_cons_of_mem _ hx))
    refine ⟨fun j => ?_, by simp [allFrom, i2]⟩
    cases j with
    | zero => simp [allFrom]
    | succ j =>
      simp only [allFrom, if_true, List.singleton_append, List.getElem?_cons_succ, i1]
      congr 1
      funext x
      rw [show k + 1 + j = k + (j + 1) by omega]
theorem least_facts {n i : Nat} {st : St} (h : Okay n i st) (hi : i < 1000) :
    leastOf st ≤ (allR st).length ∧ (∀ k, k < leastOf st → ∃ g, (allR st)[k]? = some (k, g)) ∧ (∀ x, (allR st)[leastOf st]? = some x → leastOf st < x.1) ∧ (takeE st = 0 → (takeH st).1 = leastOf st) ∧ (takeE st = 0 ∨ (takeE st = 60 ∧ (allR st).length = n)) := by
  have key : ∀ F, F ≤ st.length → (∀ x ∈ st.take F, x.2 = true) → (∀ x, st[F]? = some x → x.2 = false) →
      F ≤ (allR st).length ∧ (∀ k, k < F → ∃ g, (allR st)[k]? = some (k, g)) ∧ (∀ x, (allR st)[F]? = some x → F < x.1) ∧ (F = st.length → (allR st).length = st.length) := by
    intro F hF h1 h2
    obtain ⟨e1, e2⟩ := allFrom_true 0 (st.take F) h1
    have hsp : allR st = allFrom 0 (st.take F) ++ allFrom F (st.drop F) := by
      have := allFrom_append 0 (st.take F) (st.drop F)
      rw [List.take_append_drop, List.length_take, Nat.min_eq_left hF, Nat.zero_add] at this
      exact this
    have hl1 : (allFrom 0 (st.take F)).length = F := by rw [e2, List.length_take, Nat.min_eq_left hF]
    refine ⟨by rw [hsp, List.length_append]; omega, fun k hk => ?_, fun x hx => ?_, fun hFl => ?_⟩
    · rw [hsp, List.getElem?_append_left (by omega), e1, List.getElem?_take_of_lt hk, List.getElem?_eq_getElem (by omega)]
      exact ⟨(st[k]'(by omega)).1, by simp⟩
    · rw [hsp, List.getElem?_append_right (by omega), hl1, Nat.sub_self] at hx
      have hm := List.mem_of_getElem? hx
      have hm2 := (mem_allFrom F (st.drop F) x).1 hm
      by_cases e : x.1 = F
      · rw [e, Nat.sub_self, List.getElem?_drop, Nat.add_zero] at hm2
        have := h2 _ hm2.2
        cases this
      · omega
    · rw [hsp, List.length_append, hl1, hFl, List.drop_of_length_le (Nat.le_refl _)]
      simp [allFrom]
  unfold leastOf takeE takeH
  cases hf : st.findIdx? freeB with
  | none =>
    rw [List.findIdx?_eq_none_iff] at hf
    have ht : ∀ x ∈ st, x.2 = true := fun x hx => by
      have := hf x hx
      obtain ⟨j, hj⟩ := List.getElem?_of_mem hx
      obtain ⟨g, b⟩ := x
      have hg := h.2 j g b hj
      cases b with
      | true => rfl
      | false => simp [freeB] at this; omega
    obtain ⟨k1, k2, k3, k4⟩ := key st.length (Nat.le_refl _) (fun x hx => ht x (List.mem_of_mem_take hx)) (fun x hx => by rw [List.getElem?_eq_none (Nat.le_refl _)] at hx; cases hx)
    exact ⟨k1, k2, k3, fun h => by simp at h, .inr ⟨rfl, (k4 rfl).trans h.1⟩⟩
  | some F =>
    rw [List.findIdx?_eq_some_iff_getElem] at hf
    obtain ⟨hF, hfr, hall⟩ := hf
    have ht : ∀ x ∈ st.take F, x.2 = true := fun x hx => by
      obtain ⟨j, hj⟩ := List.getElem?_of_mem hx
      have hjF : j < F := by have := (List.getElem?_eq_some_iff.1 hj).1; rw [List.length_take] at this; omega
      rw [List.getElem?_take_of_lt hjF, List.getElem?_eq_getElem (by omega)] at hj
      obtain rfl := Option.some.inj hj
      have h1 := hall j hjF
      have hg := h.2 j st[j].1 st[j].2 (List.getElem?_eq_getElem (by omega))
      cases hb : st[j].2 with
      | true => rfl
      | false => simp [freeB, hb] at h1; omega
    obtain ⟨k1, k2, k3, _⟩ := key F (Nat.le_of_lt hF) ht (fun x hx => by
      rw [List.getElem?_eq_getElem hF] at hx
      obtain rfl := Option.some.inj hx
      simp [freeB] at hfr
      exact hfr.1)
    exact ⟨k1, k2, k3, fun _ => rfl, .inl rfl⟩

end Go.Proofs.Slt
namespace Go.Proofs.YtjfooblnpkckfaaDoor
open Go.RowKit Go.Proofs.Slt Go.Shelf

theorem live_all {st : St} {x : Hnd} (h : x ∈ allR st) : liveR st (toI x) = true := by
  rw [liveR, List.any_eq_true]
  exact ⟨x, h, by simp [sameI]⟩
theorem give_all {st : St} {x : Hnd} (h : x ∈ allR st) : giveE st (toI x) = 0 := by rw [giveE, if_pos (live_all h)]
theorem giveS_all {st : St} {x : Hnd} (h : x ∈ allR st) : giveS st (toI x) = st.set x.1 (x.2, false) := giveS_eq rfl ((mem_allR st x).1 h)
theorem okay_give {n i : Nat} {st : St} (h : Okay n i st) (x : IH) : Okay n i (giveS st x) := by
  by_cases hl : liveR st x = true
  · obtain ⟨k, g, rfl, hk⟩ := (liveR_iff st x).1 hl
    rw [giveS_eq rfl hk]
    refine ⟨by rw [List.length_set]; exact h.1, fun j g' b hj => ?_⟩
    by_cases e : k = j
    · subst e
      have hkl := (List.getElem?_eq_some_iff.1 hk).1
      rw [List.getElem?_set_self hkl] at hj
      cases hj
      exact h.2 k g true hk
    · rw [List.getElem?_set_ne e] at hj
      exact h.2 j g' b hj
  · rw [giveS, if_neg hl]
    exact h

/-- A slice of numbers that came in. -/
def SlI (w : World) (a : Option Addr) (zs : List Int) : Prop := ∀ j, (h : j < zs.length) → ∃ g off, a = some ⟨g, off, none⟩ ∧ g < w.heap.size ∧ w.cell? ⟨g, off + j, none⟩ = some (.int .i64 zs[j])

end Go.Proofs.YtjfooblnpkckfaaDoor
