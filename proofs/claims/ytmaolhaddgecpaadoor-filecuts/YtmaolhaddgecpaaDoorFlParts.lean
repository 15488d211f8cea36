/- Parts, one behind the other: plain facts. -/
import Derived.Test.YtmaolhaddgecpaaDoorFlMath
namespace Go.Proofs.Fil
/-- How many bytes some parts have. -/
def tot : List It → Nat
  | [] => 0
  | x :: r => x.length + tot r
theorem tot_append (l k : List It) : tot (l ++ k) = tot l + tot k := by
  induction l with
  | nil => simp [tot]
  | cons a r ih => simp [tot, ih]; omega
theorem tot_take_le (l : List It) (k : Nat) : tot (l.take k) ≤ tot l := by
  have := tot_append (l.take k) (l.drop k)
  rw [List.take_append_drop] at this
  omega
theorem tot_next {l : List It} {k : Nat} {x : It} (h : l[k]? = some x) : tot (l.take (k + 1)) = tot (l.take k) + x.length := by
  obtain ⟨hk, rfl⟩ := List.getElem?_eq_some_iff.1 h
  have e : l.take (k + 1) = l.take k ++ [l[k]] := by rw [List.take_append_getElem hk]
  rw [e, tot_append]
  simp [tot]
theorem tot_flatten (l : List It) : l.flatten.length = tot l := by
  induction l with
  | nil => rfl
  | cons a r ih => simp [tot, ih]
/-- The parts, each with where it would end. -/
def prs (u : Nat) : List It → List (It × Nat)
  | [] => []
  | x :: r => (x, u + x.length) :: prs (u + x.length) r
theorem prs_length (u : Nat) (l : List It) : (prs u l).length = l.length := by
  induction l generalizing u with
  | nil => rfl
  | cons a r ih => simp [prs, ih]
theorem prs_get {u k : Nat} {l : List It} {x : It} (h : l[k]? = some x) : (prs u l)[k]? = some (x, u + tot (l.take k) + x.length) := by
  induction l generalizing u k with
  | nil => simp at h
  | cons a r ih =>
    cases k with
    | zero => simp at h; subst h; simp [prs, tot]
    | succ k =>
      have := ih (u := u + a.length) (k := k) (by simpa using h)
      simp only [prs, List.getElem?_cons_succ, this, List.take_succ_cons, tot]
      congr 2
      omega
theorem prs_next {u k : Nat} {l : List It} {x : It} (h : l[k]? = some x) : (prs u l).take (k + 1) = (prs u l).take k ++ [(x, u + tot (l.take k) + x.length)] := by
  rw [List.take_add_one, prs_get h]
  rfl
/-- What the pairs' parts are, put together. -/
def flat (l : List (It × Nat)) : It := (l.map (·.1)).flatten
theorem flat_snoc (l : List (It × Nat)) (x : It × Nat) : flat (l ++ [x]) = flat l ++ x.1 := by simp [flat]
theorem flat_nil : flat [] = [] := rfl
theorem flat_prs (u : Nat) (l : List It) : flat (prs u l) = l.flatten := by
  induction l generalizing u with
  | nil => rfl
  | cons a r ih =>
    have := ih (u + a.length)
    unfold flat at this ⊢
    simp [prs, this]
/-- A pair's number is where it ends. -/
theorem prs_ends {u : Nat} {l : List It} {pre : List (It × Nat)} {x : It × Nat} (h : pre ++ [x] <+: prs u l) : x.2 = u + (flat pre).length + x.1.length ∧ x.2 ≤ u + tot l := by
  obtain ⟨t, ht⟩ := h
  have hlen : pre.length < l.length := by rw [← prs_length u l, ← ht]; simp
  obtain ⟨y, hy⟩ : ∃ y, l[pre.length]? = some y := ⟨_, List.getElem?_eq_getElem hlen⟩
  have e2 := prs_get (u := u) hy
  rw [← ht] at e2
  simp at e2
  subst e2
  have e1 : flat pre = (l.take pre.length).flatten := by
    have : pre = (prs u l).take pre.length := by rw [← ht, List.append_assoc, List.take_left]
    rw [this]
    clear this ht hlen hy
    generalize pre.length = k
    revert k
    induction l generalizing u with
    | nil => intro k; simp [prs, flat]
    | cons a r ih =>
      intro k
      cases k with
      | zero => simp [flat]
      | succ k =>
        have := ih (u := u + a.length) k
        unfold flat at this ⊢
        simp only [prs, List.take_succ_cons, List.map_cons, List.flatten_cons, List.length_cons]
        rw [this]
  rw [e1, tot_flatten]
  refine ⟨rfl, ?_⟩
  have := tot_next hy
  have := tot_take_le l (pre.length + 1)
  simp only
  omega
end Go.Proofs.Fil
