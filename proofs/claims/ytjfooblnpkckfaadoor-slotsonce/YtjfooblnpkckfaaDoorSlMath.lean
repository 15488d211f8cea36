/- Heaps, as plain facts of lists. -/
import Derived.Test.YtjfooblnpkckfaaDoorSlList
namespace Go.Proofs.Slt

def at_ (l : List Int) (k : Nat) : Int := l[k]?.getD 0
theorem at_eq {l : List Int} {k : Nat} (h : k < l.length) : l[k]? = some (at_ l k) := by simp [at_, h]
theorem at_of {l : List Int} {k : Nat} {x : Int} (h : l[k]? = some x) : at_ l k = x := by simp [at_, h]
/-- Two places change places. -/
def swp (l : List Int) (i j : Nat) : List Int := (l.set i (at_ l j)).set j (at_ l i)
theorem swp_length (l : List Int) (i j : Nat) : (swp l i j).length = l.length := by simp [swp]
theorem at_swp {l : List Int} {i j : Nat} (hi : i < l.length) (hj : j < l.length) (k : Nat) : at_ (swp l i j) k = if k = j then at_ l i else if k = i then at_ l j else at_ l k := by
  unfold swp
  by_cases h1 : k = j
  · subst h1
    simp [at_, hj]
  · rw [if_neg h1]
    by_cases h2 : k = i
    · subst h2
      simp [at_, hi, hj, Ne.symm h1]
    · rw [if_neg h2]
      simp [at_, Ne.symm h1, Ne.symm h2]
theorem swp_perm {l : List Int} {i j : Nat} (hi : i < l.length) (hj : j < l.length) : (swp l i j).Perm l := by
  have h := Array.swap_perm (xs := l.toArray) (i := i) (j := j) (by simpa using hi) (by simpa using hj)
  have e : (l.toArray.swap i j (by simpa using hi) (by simpa using hj)).toList = swp l i j := by
    simp [Array.swap, swp, at_, hi, hj]
  have := h.toList
  rw [e] at this
  simpa using this

/-- The first n are a heap. -/
def Hp (l : List Int) (n : Nat) : Prop := ∀ k, 0 < k → k < n → at_ l ((k - 1) / 2) ≤ at_ l k
theorem Hp.min {l : List Int} {n : Nat} (h : Hp l n) : ∀ k, k < n → at_ l 0 ≤ at_ l k := by
  intro k
  induction k using Nat.strongRecOn with
  | _ k ih =>
    intro hk
    by_cases h0 : k = 0
    · subst h0; exact Int.le_refl _
    · exact Int.le_trans (ih ((k - 1) / 2) (by omega) (by omega)) (h k (by omega) hk)
/-- .. but at j, which may be too small. -/
def UpOk (l : List Int) (n j : Nat) : Prop := (∀ k, 0 < k → k < n → k ≠ j → at_ l ((k - 1) / 2) ≤ at_ l k) ∧ (∀ k, 0 < k → k < n → (k - 1) / 2 = j → 0 < j → at_ l ((j - 1) / 2) ≤ at_ l k)
theorem UpOk.start {l : List Int} {n : Nat} {x : Int} (h : Hp l n) (hn : l.length = n) : UpOk (l ++ [x]) (n + 1) n := by
  have e : ∀ k, k < n → at_ (l ++ [x]) k = at_ l k := fun k hk => by simp [at_, List.getElem?_append, hn, hk]
  refine ⟨fun k h0 hk hne => ?_, fun k h0 hk hp hj => by omega⟩
  rw [e _ (by omega), e _ (by omega)]
  exact h k h0 (by omega)
theorem UpOk.done {l : List Int} {n j : Nat} (h : UpOk l n j) (hj : 0 < j → at_ l ((j - 1) / 2) ≤ at_ l j) : Hp l n := fun k h0 hk => by
  by_cases e : k = j
  · subst e; exact hj h0
  · exact h.1 k h0 hk e
theorem UpOk.step {l : List Int} {n j : Nat} (h : UpOk l n j) (hj : 0 < j) (hn : j < n) (hl : n ≤ l.length) (hlt : at_ l j < at_ l ((j - 1) / 2)) : UpOk (swp l ((j - 1) / 2) j) n ((j - 1) / 2) := by
  obtain ⟨i, hi⟩ : ∃ i, (j - 1) / 2 = i := ⟨_, rfl⟩
  rw [hi] at hlt ⊢
  have hs := at_swp (l := l) (i := i) (j := j) (by omega) (by omega)
  refine ⟨fun k h0 hk hne => ?_, fun k h0 hk hp h0i => ?_⟩
  · rw [hs, hs]
    have a1 := h.1 k h0 hk
    have a2 := h.2 k h0 hk
    by_cases e1 : k = j
    · subst e1
      rw [hi, if_neg (by omega), if_pos rfl, if_pos rfl]
      omega
    · rw [if_neg e1, if_neg hne]
      have a1 := a1 e1
      by_cases e2 : (k - 1) / 2 = j
      · rw [if_pos e2, ← hi]
        exact a2 e2 hj
      · rw [if_neg e2]
        by_cases e3 : (k - 1) / 2 = i
        · rw [if_pos e3]
          rw [e3] at a1
          omega
        · rw [if_neg e3]; exact a1
  · rw [hs, hs]
    have b1 := h.1 i h0i (by omega) (by omega)
    rw [if_neg (by omega), if_neg (by omega)]
    by_cases e1 : k = j
    · rw [if_pos e1]; exact b1
    · rw [if_neg e1, if_neg (by omega)]
      have a1 := h.1 k h0 hk e1
      rw [hp] at a1
      omega
/-- .. but at i, which may be too great. -/
def DnOk (l : List Int) (n i : Nat) : Prop := (∀ k, 0 < k → k < n → (k - 1) / 2 ≠ i → at_ l ((k - 1) / 2) ≤ at_ l k) ∧ (∀ k, 0 < k → k < n → (k - 1) / 2 = i → 0 < i → at_ l ((i - 1) / 2) ≤ at_ l k)
theorem DnOk.start {l : List Int} {n : Nat} (h : Hp l (n + 1)) (hl : n < l.length) : DnOk (swp l 0 n) n 0 := by
  have hs := at_swp (l := l) (i := 0) (j := n) (by omega) hl
  refine ⟨fun k h0 hk hp => ?_, fun _ _ _ _ h => by omega⟩
  rw [hs, hs, if_neg (by omega), if_neg hp, if_neg (by omega), if_neg (by omega)]
  exact h k h0 (by omega)
theorem DnOk.done {l : List Int} {n i : Nat} (h : DnOk l n i) (hc : ∀ k, 0 < k → k < n → (k - 1) / 2 = i → at_ l i ≤ at_ l k) : Hp l n := fun k h0 hk => by
  by_cases e : (k - 1) / 2 = i
  · rw [e]; exact hc k h0 hk e
  · exact h.1 k h0 hk e
theorem DnOk.step {l : List Int} {n i j : Nat} (h : DnOk l n i) (hj : 0 < j) (hp : (j - 1) / 2 = i) (hn : j < n) (hl : n ≤ l.length) (hlt : at_ l j < at_ l i) (hmin : ∀ k, 0 < k → k < n → (k - 1) / 2 = i → at_ l j ≤ at_ l k) : DnOk (swp l i j) n j := by
  have hs := at_swp (l := l) (i := i) (j := j) (by omega) (by omega)
  refine ⟨fun k h0 hk hne => ?_, fun k h0 hk hpk _ => ?_⟩
  · rw [hs, hs, if_neg hne]
    by_cases e1 : (k - 1) / 2 = i
    · rw [if_pos e1]
      by_cases e2 : k = j
      · rw [if_pos e2]; omega
      · rw [if_neg e2, if_neg (by omega)]
        exact hmin k h0 hk e1
    · rw [if_neg e1, if_neg (by rintro rfl; exact e1 hp)]
      by_cases e3 : k = i
      · subst e3
        rw [if_pos rfl]
        exact h.2 j hj hn hp h0
      · rw [if_neg e3]
        exact h.1 k h0 hk e1
  · rw [hp, hs, hs, if_neg (by omega), if_pos rfl, if_neg (by omega), if_neg (by omega)]
    have := h.1 k h0 hk (by omega)
    rw [hpk] at this
    exact this
theorem Hp.take {l r : List Int} {x : Int} (h : Hp l r.length) (e : l = r ++ [x]) : Hp r r.length := fun k h0 hk => by
  have e2 : ∀ k, k < r.length → at_ l k = at_ r k := fun k hk => by rw [e]; simp [at_, List.getElem?_append, hk]
  have := h k h0 hk
  rw [e2 _ (by omega), e2 _ hk] at this
  exact this

end Go.Proofs.Slt
