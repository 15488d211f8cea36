/- Merged texts: SpMath, SpOps -/
import Derived.Test.YtlafcplcjpcikaaGreatDoorRgA
import Derived.Test.YtlafcplcjpcikaaGreatDoorFlA
/- Spaces as plain lists of objects, and what is done with them. -/
namespace Go.Proofs.Spc
open Go.Proofs.Rng

/-- An object: its name, kind, data; its ring's number and items. -/
structure Ob where
  n : It
  k : Int
  d : It
  m : Int
  l : List It

theorem Ob.ext {x y : Ob} (h1 : x.n = y.n) (h2 : x.k = y.k) (h3 : x.d = y.d) (h4 : x.m = y.m) (h5 : x.l = y.l) : x = y := by
  cases x; cases y; simp_all
/-- Texts' order. -/
def ltB (a b : It) : Bool := Op.bytesLess a b
theorem ltB_irrefl (a : It) : ltB a a = false := by
  unfold ltB
  induction a with
  | nil => rfl
  | cons x r ih => simp [Op.bytesLess, ih]

theorem ltB_total {a b : It} (h : a ≠ b) (h1 : ltB a b = false) : ltB b a = true := by
  unfold ltB at *
  induction a generalizing b with
  | nil =>
    cases b with
    | nil => exact absurd rfl h
    | cons y s => simp [Op.bytesLess] at h1
  | cons x r ih =>
    cases b with
    | nil => rfl
    | cons y s =>
      simp only [Op.bytesLess, Bool.or_eq_false_iff, decide_eq_false_iff_not, Bool.and_eq_false_iff, beq_eq_false_iff_ne] at h1
      simp only [Op.bytesLess, Bool.or_eq_true, decide_eq_true_eq, Bool.and_eq_true, beq_iff_eq]
      by_cases e : x = y
      · subst e
        right
        refine ⟨rfl, ih (fun e => h (by rw [e])) ?_⟩
        rcases h1.2 with h2 | h2
        · exact absurd rfl h2
        · exact h2
      · left
        have h2 := h1.1
        rw [UInt8.lt_iff_toNat_lt] at h2 ⊢
        have : x.toNat ≠ y.toNat := fun q => e (UInt8.toNat_inj.1 q)
        omega
theorem ltB_trans {a b c : It} (h1 : ltB a b = true) (h2 : ltB b c = true) : ltB a c = true := by
  unfold ltB at *
  induction a generalizing b c with
  | nil =>
    cases c with
    | nil => cases b <;> simp [Op.bytesLess] at h2
    | cons z t => rfl
  | cons x r ih =>
    cases b with
    | nil => simp [Op.bytesLess] at h1
    | cons y s =>
      cases c with
      | nil => simp [Op.bytesLess] at h2
      | cons z t =>
        simp only [Op.bytesLess, Bool.or_eq_true, decide_eq_true_eq, Bool.and_eq_true, beq_iff_eq] at h1 h2 ⊢
        rw [UInt8.lt_iff_toNat_lt] at *
        rcases h1 with h1 | ⟨rfl, h1⟩
        · rcases h2 with h2 | ⟨rfl, h2⟩
          · exact .inl (by omega)
          · exact .inl h1
        · rcases h2 with h2 | ⟨rfl, h2⟩
          · exact .inl h2
          · exact .inr ⟨rfl, ih h1 h2⟩
theorem ltB_asymm {a b : It} (h : ltB a b = true) : ltB b a = false := by
  cases e : ltB b a
  · rfl
  · have := ltB_trans h e
    rw [ltB_irrefl] at this
    cases this




/-- At or behind, and behind: the other way about. -/
theorem leB_not (a b : It) : (ltB a b || a == b) = !ltB b a := by
  by_cases e : a = b
  · subst e
    rw [ltB_irrefl]
    simp
  · have h2 : (a == b) = false := beq_eq_false_iff_ne.2 e
    rw [h2, Bool.or_false]
    cases h : ltB a b
    · rw [ltB_total e h]
      rfl
    · rw [ltB_asymm h]
      rfl

/-- A byte of a name. -/
def okC (c : UInt8) : Bool := (decide (97 ≤ c.toNat) && decide (c.toNat ≤ 122)) || (decide (48 ≤ c.toNat) && decide (c.toNat ≤ 57)) || decide (c.toNat = 46)
def nameB (s : It) : Bool := decide (1 ≤ s.length) && decide (s.length ≤ 20) && s.all okC
theorem nameB_iff {s : It} : nameB s = true ↔ 1 ≤ s.length ∧ s.length ≤ 20 ∧ ∀ c ∈ s, okC c = true := by
  simp only [nameB, Bool.and_eq_true, decide_eq_true_eq, List.all_eq_true, and_assoc]
theorem name_pos {s : It} (h : nameB s = true) : ltB [] s = true := by
  obtain ⟨h1, _, _⟩ := nameB_iff.1 h
  cases s with
  | nil => simp at h1
  | cons a r => rfl
/-- Has it what one of its kind has? -/
def wholeB (o : Ob) : Bool := if o.k = 1 then decide (o.d.length ≤ 1000) && decide (o.m = 0) && o.l.isEmpty else decide (o.k = 2) && o.d.isEmpty && rightR o.m o.l
/-- Is it an object? -/
def isB (o : Ob) : Bool := nameB o.n && wholeB o
/-- Objects, their names rising from a on. -/
def goodF : It → List Ob → Bool
  | _, [] => true
  | a, x :: r => nameB x.n && ltB a x.n && wholeB x && goodF x.n r
/-- Is it a space? -/
def rightB (l : List Ob) : Bool := decide (l.length ≤ 20) && goodF [] l
theorem rightB_iff {l : List Ob} : rightB l = true ↔ l.length ≤ 20 ∧ goodF [] l = true := by simp [rightB]
theorem goodF_cons {a : It} {x : Ob} {r : List Ob} : goodF a (x :: r) = true ↔ nameB x.n = true ∧ ltB a x.n = true ∧ wholeB x = true ∧ goodF x.n r = true := by
  simp only [goodF, Bool.and_eq_true, and_assoc]
/-- The last one's name. -/
def lastN (a : It) : List Ob → It
  | [] => a
  | x :: r => lastN x.n r
theorem lastN_snoc (a : It) (p : List Ob) (x : Ob) : lastN a (p ++ [x]) = x.n := by
  induction p generalizing a with
  | nil => rfl
  | cons y r ih => exact ih y.n
theorem goodF_append (a : It) (p q : List Ob) : goodF a (p ++ q) = (goodF a p && goodF (lastN a p) q) := by
  induction p generalizing a with
  | nil => simp [goodF, lastN]
  | cons x r ih => simp only [List.cons_append, goodF, lastN, ih, Bool.and_assoc]
/-- Is the next one right? -/
def nextB (a : It) (x : Ob) : Bool := nameB x.n && ltB a x.n && wholeB x
theorem goodF_snoc (a : It) (p : List Ob) (x : Ob) : goodF a (p ++ [x]) = (goodF a p && nextB (lastN a p) x) := by
  rw [goodF_append]
  simp [goodF, nextB]
theorem goodF_stop {a : It} {p q : List Ob} {x : Ob} (h : nextB (lastN a p) x = false) : goodF a (p ++ x :: q) = false := by
  rw [goodF_append]
  have : goodF (lastN a p) (x :: q) = (nextB (lastN a p) x && goodF x.n q) := by simp only [goodF, nextB]
  rw [this, h]
  simp






theorem goodF_mem {a : It} {r : List Ob} (h : goodF a r = true) : ∀ x ∈ r, isB x = true ∧ ltB a x.n = true := by
  induction r generalizing a with
  | nil => intro x hx; cases hx
  | cons y t ih =>
    obtain ⟨h1, h2, h3, h4⟩ := goodF_cons.1 h
    intro x hx
    rcases List.mem_cons.1 hx with rfl | hx
    · exact ⟨by unfold isB; rw [h1, h3]; rfl, h2⟩
    · have := ih h4 x hx
      exact ⟨this.1, ltB_trans h2 this.2⟩
theorem isB_bounds {x : Ob} (h : isB x = true) : 1 ≤ x.n.length ∧ x.n.length ≤ 20 ∧ x.d.length ≤ 1000 ∧ 0 ≤ x.m ∧ x.m ≤ 2000 ∧ takes x.l ≤ 2000 ∧ (∀ y ∈ x.l, y.length ≤ 200) := by
  unfold isB at h
  simp only [Bool.and_eq_true] at h
  obtain ⟨hn, hw⟩ := h
  obtain ⟨n1, n2, _⟩ := nameB_iff.1 hn
  unfold wholeB at hw
  split at hw
  · simp only [Bool.and_eq_true, decide_eq_true_eq, List.isEmpty_iff] at hw
    obtain ⟨⟨h1, h2⟩, h3⟩ := hw
    refine ⟨n1, n2, h1, by omega, by omega, by rw [h3]; simp [takes], by rw [h3]; intro y hy; cases hy⟩
  · simp only [Bool.and_eq_true, decide_eq_true_eq, List.isEmpty_iff] at hw
    obtain ⟨⟨h1, h2⟩, h3⟩ := hw
    obtain ⟨a, b, c, d⟩ := rightR_iff.1 h3
    exact ⟨n1, n2, by rw [h2]; simp, a, b, by omega, c⟩
theorem items_le_takes (l : List It) : l.length ≤ takes l := by
  induction l with
  | nil => simp
  | cons a r ih => simp only [takes, List.length_cons]; omega
/-- What they cost. -/
def costO (o : Ob) : Int := 10 + (o.n.length : Int) + (o.d.length : Int) + o.m
def costS : List Ob → Int
  | [] => 0
  | x :: r => costO x + costS r
theorem costS_append (p q : List Ob) : costS (p ++ q) = costS p + costS q := by
  induction p with
  | nil => simp [costS]
  | cons x r ih => simp only [List.cons_append, costS, ih]; omega
def costR (l : List Ob) : Int := if rightB l then costS l else 0
/-- Each is of some bound. -/
def fair (x : Ob) : Prop := x.n.length ≤ 5000 ∧ x.d.length ≤ 5000 ∧ 0 ≤ x.m ∧ x.m ≤ 5000
theorem fair_isB {x : Ob} (h : isB x = true) : fair x := by
  obtain ⟨_, a, b, c, d, _⟩ := isB_bounds h
  exact ⟨by omega, by omega, c, by omega⟩
theorem fair_cost {x : Ob} (h : fair x) : 10 ≤ costO x ∧ costO x ≤ 20000 := by
  obtain ⟨a, b, c, d⟩ := h
  unfold costO
  omega
theorem costS_fair {l : List Ob} (h : ∀ x ∈ l, fair x) : 0 ≤ costS l ∧ costS l ≤ l.length * 20000 := by
  induction l with
  | nil => simp [costS]
  | cons x r ih =>
    have h1 := fair_cost (h x (by simp))
    have h2 := ih fun y hy => h y (by simp [hy])
    simp only [costS, List.length_cons]
    omega
theorem fair_right {l : List Ob} (h : rightB l = true) : ∀ x ∈ l, fair x := fun x hx => fair_isB (goodF_mem (rightB_iff.1 h).2 x hx).1

/-- How many are ahead of the first one that is as is asked. -/
def aheadN (p : Ob → Bool) : List Ob → Nat
  | [] => 0
  | x :: r => if p x then 0 else aheadN p r + 1
theorem aheadN_le (p : Ob → Bool) (l : List Ob) : aheadN p l ≤ l.length := by
  induction l with
  | nil => simp [aheadN]
  | cons x r ih =>
    unfold aheadN
    split
    · omega
    · simp only [List.length_cons]; omega















theorem aheadN_get {p : Ob → Bool} {l : List Ob} (h : aheadN p l < l.length) : ∃ x, l[aheadN p l]? = some x ∧ p x = true := by
  induction l with
  | nil => simp at h
  | cons x r ih =>
    cases e : p x
    · have e2 : aheadN p (x :: r) = aheadN p r + 1 := by simp [aheadN, e]
      rw [e2] at h ⊢
      simpa using ih (by simpa using h)
    · have e2 : aheadN p (x :: r) = 0 := by simp [aheadN, e]
      rw [e2]
      exact ⟨x, rfl, e⟩


def befN (l : List Ob) (n : It) : Nat := aheadN (fun o => !ltB o.n n) l



























































def setO (n : It) (o : Ob) : List Ob → List Ob
  | [] => []
  | x :: r => if x.n = n then o :: r else x :: setO n o r





























































































































































































































end Go.Proofs.Spc

/- What is done with spaces: P10.2, P10.3 as plain facts. -/
namespace Go.Proofs.Spc
open Go.Proofs.Rng











def noO : Ob := ⟨[], 0, [], 0, []⟩











































































































































































































































































































































theorem right_cost {l : List Ob} (h : rightB l = true) : costR l = costS l := by unfold costR; rw [if_pos h]





















































end Go.Proofs.Spc
