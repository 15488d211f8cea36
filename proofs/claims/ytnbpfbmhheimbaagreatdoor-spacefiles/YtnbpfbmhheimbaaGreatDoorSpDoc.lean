/- What the document's functions come to: plain facts. -/
import Derived.Test.YtnbpfbmhheimbaaGreatDoorSpA
import Derived.Test.YtnbpfbmhheimbaaGreatDoorFlB
namespace Go.Proofs.Spc
open Go.Proofs.Rng
/-- Where an object of a name and a kind is, and the number that is told. -/
def placeC (l : List Ob) (n : It) (k : Int) : Int :=
  if rightB l = false then 110 else match l[findN l n]? with
    | none => 102
    | some o => if o.k ≠ k then 103 else 0
def placeI (l : List Ob) (n : It) (k : Int) : Nat := if placeC l n k = 0 then findN l n else 0
theorem placeC_0 {l : List Ob} {n : It} {k : Int} (h : rightB l = false) : placeC l n k = 110 := if_pos h
theorem placeC_1 {l : List Ob} {n : It} {k : Int} (h : rightB l = true) (h2 : getO l n = none) : placeC l n k = 102 := by
  unfold placeC
  rw [if_neg (by simp [h]), getO_find, h2]
theorem placeC_2 {l : List Ob} {n : It} {k : Int} {o : Ob} (h : rightB l = true) (h2 : getO l n = some o) : placeC l n k = if o.k ≠ k then 103 else 0 := by
  unfold placeC
  rw [if_neg (by simp [h]), getO_find, h2]
theorem placeI_0 {l : List Ob} {n : It} {k : Int} (h : placeC l n k ≠ 0) : placeI l n k = 0 := if_neg h
theorem placeI_1 {l : List Ob} {n : It} {k : Int} (h : placeC l n k = 0) : placeI l n k = findN l n := if_pos h
theorem place_or (l : List Ob) (n : It) (k : Int) : (placeC l n k ≠ 0 ∧ placeI l n k = 0) ∨ (placeC l n k = 0 ∧ rightB l = true ∧ ∃ o, getO l n = some o ∧ o.k = k ∧ l[placeI l n k]? = some o) := by
  by_cases h0 : placeC l n k = 0
  · refine .inr ⟨h0, ?_⟩
    rw [placeI_1 h0, getO_find]
    cases hr : rightB l with
    | false => rw [placeC_0 hr] at h0; cases h0
    | true =>
      refine ⟨rfl, ?_⟩
      cases ho : getO l n with
      | none => rw [placeC_1 hr ho] at h0; cases h0
      | some o =>
        rw [placeC_2 hr ho] at h0
        by_cases hk : o.k = k
        · exact ⟨o, rfl, hk, rfl⟩
        · rw [if_pos hk] at h0; cases h0
  · exact .inl ⟨h0, placeI_0 h0⟩
theorem done_place {l : List Ob} {n : It} {k : Int} (f : Ob → Int × Ob) (h : placeC l n k ≠ 0) : (doneR l n k f).1 = placeC l n k := by
  unfold doneR placeC at *
  by_cases hr : rightB l = false
  · rw [if_pos hr, if_pos hr]
  · rw [if_neg hr] at h
    rw [if_neg hr, if_neg hr]
    cases e : l[findN l n]? with
    | none => rfl
    | some o =>
      rw [e] at h
      simp only at h ⊢
      by_cases hk : o.k ≠ k
      · rw [if_pos hk, if_pos hk]
      · rw [if_neg hk] at h
        exact absurd rfl h
theorem done_there {l : List Ob} {n : It} {k : Int} (f : Ob → Int × Ob) {o : Ob} (h1 : rightB l = true) (h2 : getO l n = some o) (h3 : o.k = k) : (doneR l n k f).1 = (f o).1 := by
  unfold doneR
  rw [if_neg (by simp [h1]), getO_find, h2]
  simp only
  rw [if_neg (by simp [h3])]
  by_cases hf : (f o).1 ≠ 0
  · rw [if_pos hf]
  · rw [if_neg hf]; show 0 = _; omega
theorem chg_place {l : List Ob} {q : Int} {n : It} {k : Int} (f : Ob → Int × Ob) (h : placeC l n k ≠ 0) : chgR l q n k f = (placeC l n k, []) := by
  unfold chgR
  rw [done_place f h, if_pos h]
theorem chg_fail {l : List Ob} {q : Int} {n : It} {k : Int} (f : Ob → Int × Ob) {o : Ob} (h1 : rightB l = true) (h2 : getO l n = some o) (h3 : o.k = k) (h4 : (f o).1 ≠ 0) : chgR l q n k f = ((f o).1, []) := by
  unfold chgR
  rw [done_there f h1 h2 h3, if_pos h4]
theorem set_find {l : List Ob} {n : It} {x : Ob} (o : Ob) (h : getO l n = some x) : l.set (findN l n) o = setO n o l := by
  induction l with
  | nil => cases h
  | cons y r ih =>
    unfold getO at h
    unfold setO findN aheadN
    by_cases e : y.n = n
    · have e2 : (y.n == n) = true := by simp [e]
      rw [if_pos e2, if_pos e]
      rfl
    · have e2 : (y.n == n) = false := by simp [e]
      rw [if_neg e] at h
      simp only [e2, if_neg e, Bool.false_eq_true, if_false, List.set_cons_succ]
      exact congrArg _ (ih h)
theorem set_place {l : List Ob} {n : It} {k : Int} {x : Ob} (o : Ob) (h0 : placeC l n k = 0) (h : getO l n = some x) : l.set (placeI l n k) o = setO n o l := by
  rw [placeI_1 h0]
  exact set_find o h
/-- What the document's data tells. -/
def dataR (l : List Ob) (q : Int) (i : Nat) (y : Ob) : Int × List Ob := if q < costR (l.set i y) ∧ costR l < costR (l.set i y) then (104, []) else (0, l.set i y)
theorem chg_data {l : List Ob} {q : Int} {n : It} {k : Int} {f : Ob → Int × Ob} {o : Ob} (hf : Keep k f) (h0 : placeC l n k = 0) (h1 : rightB l = true) (h2 : getO l n = some o) (h3 : o.k = k) (h4 : (f o).1 = 0) : chgR l q n k f = dataR l q (placeI l n k) (f o).2 := by
  have hbig : chgR l (costS (setO n (f o).2 l)) n k f = (0, setO n (f o).2 l) := by
    rw [chg_ok h1 h2 h3 h4, if_neg (by omega)]
  have hr := chg_right hf hbig
  unfold dataR
  rw [set_place _ h0 h2, right_cost hr, right_cost h1]
  exact chg_ok h1 h2 h3 h4
theorem chg_same {l : List Ob} {q : Int} {n : It} {k : Int} {f : Ob → Int × Ob} {o : Ob} (h0 : placeC l n k = 0) (h1 : rightB l = true) (h2 : getO l n = some o) (h3 : o.k = k) (h4 : (f o).1 = 0) (h5 : costO (f o).2 = costO o) : chgR l q n k f = (0, l.set (placeI l n k) (f o).2) := by
  have := (set_get (f o).2 h2).2
  rw [set_place _ h0 h2, chg_ok h1 h2 h3 h4, if_neg (by omega)]
theorem put_cost {o : Ob} {x : It} (h : (putF x o).1 = 0) : costO (putF x o).2 = costO o := by
  obtain ⟨e1, e2⟩ := put_at (errN_zero h)
  show costO ⟨_, _, _, _, _⟩ = _
  rw [e1]
  rfl
theorem tk_cost {o : Ob} (h : (tkF o).1 = 0) : costO (tkF o).2 = costO o := by
  obtain ⟨e1, e2, _, _⟩ := take_at (errN_zero h)
  show costO ⟨_, _, _, _, _⟩ = _
  rw [e1]
  rfl
theorem fil_eq (r : Option It) (o : Ob) : filF r o = (Fil.errR r, ⟨o.n, o.k, Fil.txt r, o.m, o.l⟩) := by
  cases r <;> rfl
theorem seen_place {α : Type} {l : List Ob} {n : It} {k : Int} {z : α} (f : Ob → α) (h : placeC l n k ≠ 0) : seenR l n k z f = z := by
  unfold seenR placeC at *
  by_cases hr : rightB l = false
  · rw [if_pos hr]
  · rw [if_neg hr] at h
    rw [if_neg hr]
    cases e : l[findN l n]? with
    | none => rfl
    | some o =>
      rw [e] at h
      simp only at h ⊢
      by_cases hk : o.k ≠ k
      · rw [if_pos hk]
      · rw [if_neg hk] at h
        exact absurd rfl h
theorem seen_there {α : Type} {l : List Ob} {n : It} {k : Int} {z : α} (f : Ob → α) {o : Ob} (h1 : rightB l = true) (h2 : getO l n = some o) (h3 : o.k = k) : seenR l n k z f = f o := by
  unfold seenR
  rw [if_neg (by simp [h1]), getO_find, h2]
  simp only
  rw [if_neg (by simp [h3])]
end Go.Proofs.Spc
