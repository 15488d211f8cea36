/- Merged texts: SpMath, SpOps -/
import Derived.Test.YtnbpfbmhheimbaaGreatDoorRgA
import Derived.Test.YtnbpfbmhheimbaaGreatDoorFlA
/- Spaces as plain lists of objects, and what is done with them. -/
namespace Go.Proofs.Spc
open Go.Proofs.Rng

/-- An object: its name, kind, data; its ring's number and items. -/
structure Ob where
  n : It
  k : Int
  d : It
  m : Int
  l : List It

theorem Ob.ext {x y : Ob} (h1 : x.n = y.n) (h2 : x.k = y.k) (h3 : x.d = y.d) (h4 : x.m = y.m) (h5 : x.l = y.l) : x = y := by
  cases x; cases y; simp_all
/-- Texts' order. -/
def ltB (a b : It) : Bool := Op.bytesLess a b
theorem ltB_irrefl (a : It) : ltB a a = false := by
  unfold ltB
  induction a with
  | nil => rfl
  | cons x r ih => simp [Op.bytesLess, ih]
theorem ltB_nil (a : It) : ltB a [] = false := by cases a <;> rfl
theorem ltB_total {a b : It} (h : a ≠ b) (h1 : ltB a b = false) : ltB b a = true := by
  unfold ltB at *
  induction a generalizing b with
  | nil =>
    cases b with
    | nil => exact absurd rfl h
    | cons y s => simp [Op.bytesLess] at h1
  | cons x r ih =>
    cases b with
    | nil => rfl
    | cons y s =>
      simp only [Op.bytesLess, Bool.or_eq_false_iff, decide_eq_false_iff_not, Bool.and_eq_false_iff, beq_eq_false_iff_ne] at h1
      simp only [Op.bytesLess, Bool.or_eq_true, decide_eq_true_eq, Bool.and_eq_true, beq_iff_eq]
      by_cases e : x = y
      · subst e
        right
        refine ⟨rfl, ih (fun e => h (by rw [e])) ?_⟩
        rcases h1.2 with h2 | h2
        · exact absurd rfl h2
        · exact h2
      · left
        have h2 := h1.1
        rw [UInt8.lt_iff_toNat_lt] at h2 ⊢
        have : x.toNat ≠ y.toNat := fun q => e (UInt8.toNat_inj.1 q)
        omega
theorem ltB_trans {a b c : It} (h1 : ltB a b = true) (h2 : ltB b c = true) : ltB a c = true := by
  unfold ltB at *
  induction a generalizing b c with
  | nil =>
    cases c with
    | nil => cases b <;> simp [Op.bytesLess] at h2
    | cons z t => rfl
  | cons x r ih =>
    cases b with
    | nil => simp [Op.bytesLess] at h1
    | cons y s =>
      cases c with
      | nil => simp [Op.bytesLess] at h2
      | cons z t =>
        simp only [Op.bytesLess, Bool.or_eq_true, decide_eq_true_eq, Bool.and_eq_true, beq_iff_eq] at h1 h2 ⊢
        rw [UInt8.lt_iff_toNat_lt] at *
        rcases h1 with h1 | ⟨rfl, h1⟩
        · rcases h2 with h2 | ⟨rfl, h2⟩
          · exact .inl (by omega)
          · exact .inl h1
        · rcases h2 with h2 | ⟨rfl, h2⟩
          · exact .inl h2
          · exact .inr ⟨rfl, ih h1 h2⟩
theorem ltB_asymm {a b : It} (h : ltB a b = true) : ltB b a = false := by
  cases e : ltB b a
  · rfl
  · have := ltB_trans h e
    rw [ltB_irrefl] at this
    cases this
theorem ltB_ne {a b : It} (h : ltB a b = true) : a ≠ b := fun e => by
  subst e
  rw [ltB_irrefl] at h
  cases h
/-- At or behind, and behind: the other way about. -/
theorem leB_not (a b : It) : (ltB a b || a == b) = !ltB b a := by
  by_cases e : a = b
  · subst e
    rw [ltB_irrefl]
    simp
  · have h2 : (a == b) = false := beq_eq_false_iff_ne.2 e
    rw [h2, Bool.or_false]
    cases h : ltB a b
    · rw [ltB_total e h]
      rfl
    · rw [ltB_asymm h]
      rfl

/-- A byte of a name. -/
def okC (c : UInt8) : Bool := (decide (97 ≤ c.toNat) && decide (c.toNat ≤ 122)) || (decide (48 ≤ c.toNat) && decide (c.toNat ≤ 57)) || decide (c.toNat = 46)
def nameB (s : It) : Bool := decide (1 ≤ s.length) && decide (s.length ≤ 20) && s.all okC
theorem nameB_iff {s : It} : nameB s = true ↔ 1 ≤ s.length ∧ s.length ≤ 20 ∧ ∀ c ∈ s, okC c = true := by
  simp only [nameB, Bool.and_eq_true, decide_eq_true_eq, List.all_eq_true, and_assoc]
theorem name_pos {s : It} (h : nameB s = true) : ltB [] s = true := by
  obtain ⟨h1, _, _⟩ := nameB_iff.1 h
  cases s with
  | nil => simp at h1
  | cons a r => rfl
/-- Has it what one of its kind has? -/
def wholeB (o : Ob) : Bool := if o.k = 1 then decide (o.d.length ≤ 1000) && decide (o.m = 0) && o.l.isEmpty else decide (o.k = 2) && o.d.isEmpty && rightR o.m o.l
/-- Is it an object? -/
def isB (o : Ob) : Bool := nameB o.n && wholeB o
/-- Objects, their names rising from a on. -/
def goodF : It → List Ob → Bool
  | _, [] => true
  | a, x :: r => nameB x.n && ltB a x.n && wholeB x && goodF x.n r
/-- Is it a space? -/
def rightB (l : List Ob) : Bool := decide (l.length ≤ 20) && goodF [] l
theorem rightB_iff {l : List Ob} : rightB l = true ↔ l.length ≤ 20 ∧ goodF [] l = true := by simp [rightB]
theorem goodF_cons {a : It} {x : Ob} {r : List Ob} : goodF a (x :: r) = true ↔ nameB x.n = true ∧ ltB a x.n = true ∧ wholeB x = true ∧ goodF x.n r = true := by
  simp only [goodF, Bool.and_eq_true, and_assoc]
/-- The last one's name. -/
def lastN (a : It) : List Ob → It
  | [] => a
  | x :: r => lastN x.n r
theorem lastN_snoc (a : It) (p : List Ob) (x : Ob) : lastN a (p ++ [x]) = x.n := by
  induction p generalizing a with
  | nil => rfl
  | cons y r ih => exact ih y.n
theorem goodF_append (a : It) (p q : List Ob) : goodF a (p ++ q) = (goodF a p && goodF (lastN a p) q) := by
  induction p generalizing a with
  | nil => simp [goodF, lastN]
  | cons x r ih => simp only [List.cons_append, goodF, lastN, ih, Bool.and_assoc]
/-- Is the next one right? -/
def nextB (a : It) (x : Ob) : Bool := nameB x.n && ltB a x.n && wholeB x
theorem goodF_snoc (a : It) (p : List Ob) (x : Ob) : goodF a (p ++ [x]) = (goodF a p && nextB (lastN a p) x) := by
  rw [goodF_append]
  simp [goodF, nextB]
theorem goodF_stop {a : It} {p q : List Ob} {x : Ob} (h : nextB (lastN a p) x = false) : goodF a (p ++ x :: q) = false := by
  rw [goodF_append]
  have : goodF (lastN a p) (x :: q) = (nextB (lastN a p) x && goodF x.n q) := by simp only [goodF, nextB]
  rw [this, h]
  simp
theorem goodF_weak {a b : It} {r : List Ob} (h : ltB a b = true) (hr : goodF b r = true) : goodF a r = true := by
  cases r with
  | nil => rfl
  | cons x t =>
    obtain ⟨h1, h2, h3, h4⟩ := goodF_cons.1 hr
    exact goodF_cons.2 ⟨h1, ltB_trans h h2, h3, h4⟩
theorem goodF_mem {a : It} {r : List Ob} (h : goodF a r = true) : ∀ x ∈ r, isB x = true ∧ ltB a x.n = true := by
  induction r generalizing a with
  | nil => intro x hx; cases hx
  | cons y t ih =>
    obtain ⟨h1, h2, h3, h4⟩ := goodF_cons.1 h
    intro x hx
    rcases List.mem_cons.1 hx with rfl | hx
    · exact ⟨by unfold isB; rw [h1, h3]; rfl, h2⟩
    · have := ih h4 x hx
      exact ⟨this.1, ltB_trans h2 this.2⟩
theorem isB_bounds {x : Ob} (h : isB x = true) : 1 ≤ x.n.length ∧ x.n.length ≤ 20 ∧ x.d.length ≤ 1000 ∧ 0 ≤ x.m ∧ x.m ≤ 2000 ∧ takes x.l ≤ 2000 ∧ (∀ y ∈ x.l, y.length ≤ 200) := by
  unfold isB at h
  simp only [Bool.and_eq_true] at h
  obtain ⟨hn, hw⟩ := h
  obtain ⟨n1, n2, _⟩ := nameB_iff.1 hn
  unfold wholeB at hw
  split at hw
  · simp only [Bool.and_eq_true, decide_eq_true_eq, List.isEmpty_iff] at hw
    obtain ⟨⟨h1, h2⟩, h3⟩ := hw
    refine ⟨n1, n2, h1, by omega, by omega, by rw [h3]; simp [takes], by rw [h3]; intro y hy; cases hy⟩
  · simp only [Bool.and_eq_true, decide_eq_true_eq, List.isEmpty_iff] at hw
    obtain ⟨⟨h1, h2⟩, h3⟩ := hw
    obtain ⟨a, b, c, d⟩ := rightR_iff.1 h3
    exact ⟨n1, n2, by rw [h2]; simp, a, b, by omega, c⟩
theorem items_le_takes (l : List It) : l.length ≤ takes l := by
  induction l with
  | nil => simp
  | cons a r ih => simp only [takes, List.length_cons]; omega
/-- What they cost. -/
def costO (o : Ob) : Int := 10 + (o.n.length : Int) + (o.d.length : Int) + o.m
def costS : List Ob → Int
  | [] => 0
  | x :: r => costO x + costS r
theorem costS_append (p q : List Ob) : costS (p ++ q) = costS p + costS q := by
  induction p with
  | nil => simp [costS]
  | cons x r ih => simp only [List.cons_append, costS, ih]; omega
def costR (l : List Ob) : Int := if rightB l then costS l else 0
/-- Each is of some bound. -/
def fair (x : Ob) : Prop := x.n.length ≤ 5000 ∧ x.d.length ≤ 5000 ∧ 0 ≤ x.m ∧ x.m ≤ 5000
theorem fair_isB {x : Ob} (h : isB x = true) : fair x := by
  obtain ⟨_, a, b, c, d, _⟩ := isB_bounds h
  exact ⟨by omega, by omega, c, by omega⟩
theorem fair_cost {x : Ob} (h : fair x) : 10 ≤ costO x ∧ costO x ≤ 20000 := by
  obtain ⟨a, b, c, d⟩ := h
  unfold costO
  omega
theorem costS_fair {l : List Ob} (h : ∀ x ∈ l, fair x) : 0 ≤ costS l ∧ costS l ≤ l.length * 20000 := by
  induction l with
  | nil => simp [costS]
  | cons x r ih =>
    have h1 := fair_cost (h x (by simp))
    have h2 := ih fun y hy => h y (by simp [hy])
    simp only [costS, List.length_cons]
    omega
theorem fair_right {l : List Ob} (h : rightB l = true) : ∀ x ∈ l, fair x := fun x hx => fair_isB (goodF_mem (rightB_iff.1 h).2 x hx).1

/-- How many are ahead of the first one that is as is asked. -/
def aheadN (p : Ob → Bool) : List Ob → Nat
  | [] => 0
  | x :: r => if p x then 0 else aheadN p r + 1
theorem aheadN_le (p : Ob → Bool) (l : List Ob) : aheadN p l ≤ l.length := by
  induction l with
  | nil => simp [aheadN]
  | cons x r ih =>
    unfold aheadN
    split
    · omega
    · simp only [List.length_cons]; omega
theorem aheadN_all {p : Ob → Bool} {l : List Ob} (h : ∀ x ∈ l, p x = false) : aheadN p l = l.length := by
  induction l with
  | nil => rfl
  | cons x r ih =>
    unfold aheadN
    rw [h x (by simp), ih fun y hy => h y (by simp [hy])]
    rfl
theorem aheadN_at {p : Ob → Bool} {l q : List Ob} {x : Ob} (h : ∀ y ∈ l, p y = false) (hx : p x = true) : aheadN p (l ++ x :: q) = l.length := by
  induction l with
  | nil => simp [aheadN, hx]
  | cons y r ih =>
    show aheadN p (y :: (r ++ x :: q)) = _
    unfold aheadN
    rw [h y (by simp), ih fun z hz => h z (by simp [hz])]
    rfl
theorem aheadN_get {p : Ob → Bool} {l : List Ob} (h : aheadN p l < l.length) : ∃ x, l[aheadN p l]? = some x ∧ p x = true := by
  induction l with
  | nil => simp at h
  | cons x r ih =>
    cases e : p x
    · have e2 : aheadN p (x :: r) = aheadN p r + 1 := by simp [aheadN, e]
      rw [e2] at h ⊢
      simpa using ih (by simpa using h)
    · have e2 : aheadN p (x :: r) = 0 := by simp [aheadN, e]
      rw [e2]
      exact ⟨x, rfl, e⟩
/-- An object's place by its name; where one of that name would have to be. -/
def findN (l : List Ob) (n : It) : Nat := aheadN (fun o => o.n == n) l
def befN (l : List Ob) (n : It) : Nat := aheadN (fun o => !ltB o.n n) l
/-- The place, -1 where there is none. -/
def findI (l : List Ob) (n : It) : Int := if findN l n = l.length then -1 else (findN l n : Int)
def getO : List Ob → It → Option Ob
  | [], _ => none
  | x :: r, n => if x.n = n then some x else getO r n
theorem getO_find (l : List Ob) (n : It) : l[findN l n]? = getO l n := by
  induction l with
  | nil => rfl
  | cons x r ih =>
    unfold getO findN aheadN
    by_cases e : x.n = n
    · have e2 : (x.n == n) = true := beq_iff_eq.2 e
      rw [if_pos e, e2]
      rfl
    · have e2 : (x.n == n) = false := beq_eq_false_iff_ne.2 e
      rw [if_neg e, e2]
      exact ih
theorem getO_name {l : List Ob} {n : It} {x : Ob} (h : getO l n = some x) : x.n = n ∧ x ∈ l := by
  induction l with
  | nil => cases h
  | cons y r ih =>
    unfold getO at h
    split at h
    · rename_i e
      obtain rfl := Option.some.inj h
      exact ⟨e, by simp⟩
    · have := ih h
      exact ⟨this.1, by simp [this.2]⟩
theorem getO_none {l : List Ob} {n : It} : getO l n = none ↔ ∀ x ∈ l, x.n ≠ n := by
  induction l with
  | nil => simp [getO]
  | cons y r ih =>
    unfold getO
    by_cases e : y.n = n
    · simp [e]
    · simp [e, ih]
theorem find_none {l : List Ob} {n : It} : findN l n = l.length ↔ getO l n = none := by
  rw [← getO_find]
  constructor
  · intro h
    rw [h]
    simp
  · intro h
    have := aheadN_le (fun o : Ob => o.n == n) l
    have h2 := List.getElem?_eq_none_iff.1 h
    unfold findN at *
    omega
theorem find_lt {l : List Ob} {n : It} {x : Ob} (h : getO l n = some x) : findN l n < l.length := by
  rw [← getO_find] at h
  exact (List.getElem?_eq_some_iff.1 h).1
/-- Others in place of those from s to e. -/
def withL (l : List Ob) (s e : Nat) (put : List Ob) : List Ob := l.take s ++ put ++ l.drop e
/-- One put in, taken out, in place of the first one of a name. -/
def insO (o : Ob) : List Ob → List Ob
  | [] => [o]
  | x :: r => if ltB x.n o.n then x :: insO o r else o :: x :: r
def remO (n : It) : List Ob → List Ob
  | [] => []
  | x :: r => if x.n = n then r else x :: remO n r
def setO (n : It) (o : Ob) : List Ob → List Ob
  | [] => []
  | x :: r => if x.n = n then o :: r else x :: setO n o r
theorem with_ins (l : List Ob) (o : Ob) : withL l (befN l o.n) (befN l o.n) [o] = insO o l := by
  induction l with
  | nil => rfl
  | cons x r ih =>
    unfold insO
    cases e : ltB x.n o.n
    · have hb : befN (x :: r) o.n = 0 := by simp [befN, aheadN, e]
      rw [hb]
      simp [withL]
    · have hb : befN (x :: r) o.n = befN r o.n + 1 := by simp [befN, aheadN, e]
      rw [hb, if_pos rfl, ← ih]
      simp [withL]
theorem with_rem (l : List Ob) (n : It) : withL l (findN l n) (findN l n + 1) [] = remO n l := by
  induction l with
  | nil => simp [withL, remO, findN, aheadN]
  | cons x r ih =>
    unfold remO
    by_cases e : x.n = n
    · have hb : findN (x :: r) n = 0 := by simp [findN, aheadN, e]
      rw [hb, if_pos e]
      simp [withL]
    · have hb : findN (x :: r) n = findN r n + 1 := by simp [findN, aheadN, e]
      rw [hb, if_neg e, ← ih]
      simp [withL]
theorem with_set {l : List Ob} {n : It} (o : Ob) (h : findN l n < l.length) : withL l (findN l n) (findN l n + 1) [o] = setO n o l := by
  induction l with
  | nil => simp at h
  | cons x r ih =>
    unfold setO
    by_cases e : x.n = n
    · have hb : findN (x :: r) n = 0 := by simp [findN, aheadN, e]
      rw [hb, if_pos e]
      simp [withL]
    · have hb : findN (x :: r) n = findN r n + 1 := by simp [findN, aheadN, e]
      rw [hb] at h ⊢
      rw [if_neg e, ← ih (by simpa using h)]
      simp [withL]
theorem ins_length (o : Ob) (l : List Ob) : (insO o l).length = l.length + 1 := by
  induction l with
  | nil => rfl
  | cons x r ih => unfold insO; split <;> simp [ih]
theorem ins_cost (o : Ob) (l : List Ob) : costS (insO o l) = costO o + costS l := by
  induction l with
  | nil => rfl
  | cons x r ih =>
    unfold insO
    split
    · simp only [costS, ih]; omega
    · rfl
theorem rem_get {l : List Ob} {n : It} {x : Ob} (h : getO l n = some x) : (remO n l).length + 1 = l.length ∧ costS (remO n l) + costO x = costS l := by
  induction l with
  | nil => cases h
  | cons y r ih =>
    unfold getO at h
    unfold remO
    by_cases e : y.n = n
    · rw [if_pos e] at h ⊢
      obtain rfl := Option.some.inj h
      exact ⟨by simp only [List.length_cons], by simp only [costS]; omega⟩
    · rw [if_neg e] at h ⊢
      have := ih h
      exact ⟨by simp only [List.length_cons]; omega, by simp only [costS]; omega⟩
theorem set_get {l : List Ob} {n : It} {x : Ob} (o : Ob) (h : getO l n = some x) : (setO n o l).length = l.length ∧ costS (setO n o l) + costO x = costS l + costO o := by
  induction l with
  | nil => cases h
  | cons y r ih =>
    unfold getO at h
    unfold setO
    by_cases e : y.n = n
    · rw [if_pos e] at h ⊢
      obtain rfl := Option.some.inj h
      exact ⟨by simp only [List.length_cons], by simp only [costS]; omega⟩
    · rw [if_neg e] at h ⊢
      have := ih h
      exact ⟨by simp only [List.length_cons]; omega, by simp only [costS]; omega⟩
/-- What one names changes no other one. -/
theorem ins_other {o : Ob} {n : It} (l : List Ob) (h : o.n ≠ n) : getO (insO o l) n = getO l n := by
  induction l with
  | nil => simp [insO, getO, h]
  | cons x r ih =>
    unfold insO
    split
    · simp only [getO, ih]
    · simp [getO, h]
theorem rem_other {n m : It} (l : List Ob) (h : n ≠ m) : getO (remO n l) m = getO l m := by
  induction l with
  | nil => rfl
  | cons x r ih =>
    unfold remO
    by_cases e : x.n = n
    · rw [if_pos e]
      have : x.n ≠ m := fun q => h (e.symm.trans q)
      simp [getO, this]
    · rw [if_neg e]
      simp only [getO, ih]
theorem set_other {n m : It} {o : Ob} (l : List Ob) (hn : o.n = n) (h : n ≠ m) : getO (setO n o l) m = getO l m := by
  induction l with
  | nil => rfl
  | cons x r ih =>
    unfold setO
    by_cases e : x.n = n
    · rw [if_pos e]
      have h1 : x.n ≠ m := fun q => h (e.symm.trans q)
      have h2 : o.n ≠ m := fun q => h (hn.symm.trans q)
      simp [getO, h1, h2]
    · rw [if_neg e]
      simp only [getO, ih]
theorem ins_self {o : Ob} {l : List Ob} (h : getO l o.n = none) : getO (insO o l) o.n = some o := by
  induction l with
  | nil => simp [insO, getO]
  | cons x r ih =>
    have hx : x.n ≠ o.n := getO_none.1 h x (by simp)
    have hr : getO r o.n = none := by simpa [getO, hx] using h
    unfold insO
    split
    · simp [getO, hx, ih hr]
    · simp [getO]
theorem rem_ins {o : Ob} {l : List Ob} (h : getO l o.n = none) : remO o.n (insO o l) = l := by
  induction l with
  | nil => simp [insO, remO]
  | cons x r ih =>
    have hx : x.n ≠ o.n := getO_none.1 h x (by simp)
    have hr : getO r o.n = none := by simpa [getO, hx] using h
    unfold insO
    split
    · simp [remO, hx, ih hr]
    · simp [remO]
theorem set_self {n : It} {o x : Ob} {l : List Ob} (hn : o.n = n) (h : getO l n = some x) : getO (setO n o l) n = some o := by
  induction l with
  | nil => cases h
  | cons y r ih =>
    unfold getO at h
    unfold setO
    by_cases e : y.n = n
    · rw [if_pos e]
      simp [getO, hn]
    · rw [if_neg e] at h ⊢
      simp [getO, e, ih h]
theorem set_set {n : It} {o p x : Ob} {l : List Ob} (hn : o.n = n) (h : getO l n = some x) : setO n p (setO n o l) = setO n p l := by
  induction l with
  | nil => rfl
  | cons y r ih =>
    unfold getO at h
    by_cases e : y.n = n
    · simp [setO, e, hn]
    · rw [if_neg e] at h
      simp [setO, e, ih h]
theorem set_back {n : It} {x : Ob} {l : List Ob} (h : getO l n = some x) : setO n x l = l := by
  induction l with
  | nil => rfl
  | cons y r ih =>
    unfold getO at h
    unfold setO
    by_cases e : y.n = n
    · rw [if_pos e] at h ⊢
      rw [Option.some.inj h]
    · rw [if_neg e] at h ⊢
      rw [ih h]
/-- Two are put in, either way about. -/
theorem ins_ins {o p : Ob} (l : List Ob) (h : o.n ≠ p.n) : insO p (insO o l) = insO o (insO p l) := by
  induction l with
  | nil =>
    cases e : ltB o.n p.n
    · have e2 := ltB_total h e
      simp [insO, e, e2]
    · have e2 := ltB_asymm e
      simp [insO, e, e2]
  | cons x r ih =>
    cases e1 : ltB x.n o.n
    · cases e2 : ltB x.n p.n
      · cases e : ltB o.n p.n
        · have e3 := ltB_total h e
          simp [insO, e1, e2, e, e3]
        · have e3 := ltB_asymm e
          simp [insO, e1, e2, e, e3]
      · have e3 : ltB o.n p.n = true := by
          by_cases q : x.n = o.n
          · rw [← q]; exact e2
          · exact ltB_trans (ltB_total q e1) e2
        simp [insO, e1, e2, e3]
    · cases e2 : ltB x.n p.n
      · have e3 : ltB p.n o.n = true := by
          by_cases q : x.n = p.n
          · rw [← q]; exact e1
          · exact ltB_trans (ltB_total q e2) e1
        simp [insO, e1, e2, e3]
      · simp [insO, e1, e2, ih]
/-- What is put in a space is one. -/
theorem ins_good {a : It} {o : Ob} {l : List Ob} (h : goodF a l = true) (ho : isB o = true) (ha : ltB a o.n = true) (hn : getO l o.n = none) : goodF a (insO o l) = true := by
  obtain ⟨h1, h2⟩ : nameB o.n = true ∧ wholeB o = true := by unfold isB at ho; simpa using ho
  induction l generalizing a with
  | nil => exact goodF_cons.2 ⟨h1, ha, h2, rfl⟩
  | cons x r ih =>
    obtain ⟨g1, g2, g3, g4⟩ := goodF_cons.1 h
    have hx : x.n ≠ o.n := getO_none.1 hn x (by simp)
    have hr : getO r o.n = none := by simpa [getO, hx] using hn
    unfold insO
    cases e : ltB x.n o.n
    · exact goodF_cons.2 ⟨h1, ha, h2, goodF_cons.2 ⟨g1, ltB_total hx e, g3, g4⟩⟩
    · exact goodF_cons.2 ⟨g1, g2, g3, ih g4 e hr⟩
theorem rem_good {a n : It} {l : List Ob} (h : goodF a l = true) : goodF a (remO n l) = true := by
  induction l generalizing a with
  | nil => rfl
  | cons x r ih =>
    obtain ⟨g1, g2, g3, g4⟩ := goodF_cons.1 h
    unfold remO
    split
    · exact goodF_weak g2 g4
    · exact goodF_cons.2 ⟨g1, g2, g3, ih g4⟩
theorem set_good {a n : It} {o : Ob} {l : List Ob} (h : goodF a l = true) (hn : o.n = n) (ho : wholeB o = true) : goodF a (setO n o l) = true := by
  induction l generalizing a with
  | nil => rfl
  | cons x r ih =>
    obtain ⟨g1, g2, g3, g4⟩ := goodF_cons.1 h
    unfold setO
    split
    · rename_i e
      have : x.n = o.n := e.trans hn.symm
      exact goodF_cons.2 ⟨this ▸ g1, this ▸ g2, ho, this ▸ g4⟩
    · exact goodF_cons.2 ⟨g1, g2, g3, ih g4⟩
theorem good_get {a n : It} {l : List Ob} {x : Ob} (h : goodF a l = true) (hx : getO l n = some x) : isB x = true := (goodF_mem h x (getO_name hx).2).1
end Go.Proofs.Spc

/- What is done with spaces: P10.2, P10.3 as plain facts. -/
namespace Go.Proofs.Spc
open Go.Proofs.Rng

/-- With those that are put in place of others, if there is room. -/
def chR (l : List Ob) (q : Int) (s e : Nat) (put : List Ob) : Int × List Ob :=
  if 20 < (withL l s e put).length then (104, []) else if q < costS (withL l s e put) ∧ costS l < costS (withL l s e put) then (104, []) else (0, withL l s e put)
/-- A new one. -/
def newO (n : It) (k m : Int) : Ob := ⟨n, k, [], m, []⟩
def mkR (l : List Ob) (q : Int) (n : It) (k m : Int) : Int × List Ob :=
  if rightB l = false then (110, []) else if nameB n = false then (100, []) else if k ≠ 1 ∧ k ≠ 2 then (103, []) else if findN l n ≠ l.length then (101, []) else
    if (k = 1 ∧ m ≠ 0) ∨ m < 0 ∨ 2000 < m then (2, []) else chR l q (befN l n) (befN l n) [newO n k m]
def dropR (l : List Ob) (n : It) : Int × List Ob :=
  if rightB l = false then (110, []) else if findN l n = l.length then (102, []) else chR l 0 (findN l n) (findN l n + 1) []
def noO : Ob := ⟨[], 0, [], 0, []⟩
/-- What is done with the object of a name, if it is of that kind. -/
def doneR (l : List Ob) (n : It) (k : Int) (f : Ob → Int × Ob) : Int × Nat × Ob :=
  if rightB l = false then (110, 0, noO) else match l[findN l n]? with
    | none => (102, 0, noO)
    | some o => if o.k ≠ k then (103, 0, noO) else if (f o).1 ≠ 0 then ((f o).1, 0, noO) else (0, findN l n, (f o).2)
def chgR (l : List Ob) (q : Int) (n : It) (k : Int) (f : Ob → Int × Ob) : Int × List Ob :=
  if (doneR l n k f).1 ≠ 0 then ((doneR l n k f).1, []) else chR l q (doneR l n k f).2.1 ((doneR l n k f).2.1 + 1) [(doneR l n k f).2.2]
/-- What files and rings make of an object. -/
def filF (r : Option It) (o : Ob) : Int × Ob := match r with
  | some s => (0, ⟨o.n, o.k, s, o.m, o.l⟩)
  | none => (90, ⟨o.n, o.k, [], o.m, o.l⟩)
def wrF (a : Int) (t : It) (o : Ob) : Int × Ob := filF (Fil.writeR o.d a t) o
def cutF (n : Int) (o : Ob) : Int × Ob := filF (Fil.cutR o.d n) o
def rdF (a n : Int) (o : Ob) : Int × Ob := ((match Fil.readR o.d a n with
  | some _ => 0
  | none => 90), o)
def putF (x : It) (o : Ob) : Int × Ob := (errN (putE o.m o.l x), ⟨o.n, o.k, o.d, putM o.m o.l x, putL o.m o.l x⟩)
def tkF (o : Ob) : Int × Ob := (errN (takeE o.m o.l), ⟨o.n, o.k, o.d, takeM o.m o.l, takeL o.m o.l⟩)
/-- What is found, ahead of all errors. -/
def seenR {α : Type} (l : List Ob) (n : It) (k : Int) (z : α) (f : Ob → α) : α :=
  if rightB l = false then z else match l[findN l n]? with
    | none => z
    | some o => if o.k ≠ k then z else f o
def wrR (l : List Ob) (q : Int) (n : It) (a : Int) (t : It) : Int × List Ob := chgR l q n 1 (wrF a t)
def cuR (l : List Ob) (q : Int) (n : It) (k : Int) : Int × List Ob := chgR l q n 1 (cutF k)
def puR (l : List Ob) (n x : It) : Int × List Ob := chgR l 0 n 2 (putF x)
def tkR (l : List Ob) (n : It) : Int × List Ob := chgR l 0 n 2 tkF
def tkX (l : List Ob) (n : It) : It := seenR l n 2 [] fun o => takeX o.m o.l
def rdE (l : List Ob) (n : It) (a k : Int) : Int := (doneR l n 1 (rdF a k)).1
def rdX (l : List Ob) (n : It) (a k : Int) : It := seenR l n 1 [] fun o => (Fil.readR o.d a k).getD []

theorem right_false {l : List Ob} (h : ¬ rightB l = true) : rightB l = false := by simpa using h
/-- Where one can be made. -/
def okMk (l : List Ob) (q : Int) (n : It) (k m : Int) : Prop :=
  rightB l = true ∧ nameB n = true ∧ (k = 1 ∨ k = 2) ∧ getO l n = none ∧ (k = 1 → m = 0) ∧ 0 ≤ m ∧ m ≤ 2000 ∧ l.length < 20 ∧ costO (newO n k m) + costS l ≤ q
theorem new_is {n : It} {k m : Int} (hn : nameB n = true) (hk : k = 1 ∨ k = 2) (h1 : k = 1 → m = 0) (h0 : 0 ≤ m) (h2 : m ≤ 2000) : isB (newO n k m) = true := by
  unfold isB wholeB newO
  rw [hn, Bool.true_and]
  rcases hk with rfl | rfl
  · rw [if_pos rfl, h1 rfl]
    rfl
  · rw [if_neg (show ¬ (2 : Int) = 1 by decide), right_nil]
    simp [h0, h2]
theorem new_cost (n : It) (k : Int) {m : Int} (h : 0 ≤ m) : 0 < costO (newO n k m) := by
  unfold costO newO
  simp only [List.length_nil]
  omega
theorem mk_ok {l : List Ob} {q : Int} {n : It} {k m : Int} (h : okMk l q n k m) : mkR l q n k m = (0, insO (newO n k m) l) := by
  obtain ⟨h1, h2, h3, h4, h5, h6, h7, h8, h9⟩ := h
  have hw : withL l (befN l n) (befN l n) [newO n k m] = insO (newO n k m) l := with_ins l (newO n k m)
  unfold mkR
  rw [if_neg (by simp [h1]), if_neg (by simp [h2]), if_neg (by omega), if_neg (by simp [find_none.2 h4]), if_neg (by omega)]
  unfold chR
  rw [hw, ins_length, ins_cost, if_neg (by omega), if_neg (by omega)]
theorem mk_no {l : List Ob} {q : Int} {n : It} {k m : Int} (h : ¬ okMk l q n k m) : ∃ c, mkR l q n k m = (c, []) ∧ c ≠ 0 := by
  have hw : withL l (befN l n) (befN l n) [newO n k m] = insO (newO n k m) l := with_ins l (newO n k m)
  unfold mkR
  by_cases h1 : rightB l = true
  · rw [if_neg (by simp [h1])]
    by_cases h2 : nameB n = true
    · rw [if_neg (by simp [h2])]
      by_cases h3 : k ≠ 1 ∧ k ≠ 2
      · rw [if_pos h3]; exact ⟨_, rfl, by decide⟩
      rw [if_neg h3]
      by_cases h4 : findN l n = l.length
      · rw [if_neg (by simp [h4])]
        by_cases h5 : (k = 1 ∧ m ≠ 0) ∨ m < 0 ∨ 2000 < m
        · rw [if_pos h5]; exact ⟨_, rfl, by decide⟩
        rw [if_neg h5]
        unfold chR
        rw [hw, ins_length, ins_cost]
        by_cases h6 : 20 < l.length + 1
        · rw [if_pos h6]; exact ⟨_, rfl, by decide⟩
        rw [if_neg h6]
        by_cases h7 : q < costO (newO n k m) + costS l ∧ costS l < costO (newO n k m) + costS l
        · rw [if_pos h7]; exact ⟨_, rfl, by decide⟩
        exfalso
        have := new_cost n k (m := m) (by omega)
        exact h ⟨h1, h2, by omega, find_none.1 h4, by omega, by omega, by omega, by omega, by omega⟩
      · rw [if_pos h4]; exact ⟨_, rfl, by decide⟩
    · rw [if_pos (by simpa using h2)]; exact ⟨_, rfl, by decide⟩
  · rw [if_pos (right_false h1)]; exact ⟨_, rfl, by decide⟩
theorem mk_some {l a : List Ob} {q : Int} {n : It} {k m : Int} (h : mkR l q n k m = (0, a)) : okMk l q n k m ∧ a = insO (newO n k m) l := by
  by_cases hk : okMk l q n k m
  · refine ⟨hk, ?_⟩
    rw [mk_ok hk] at h
    exact (Prod.mk.inj h).2.symm
  · obtain ⟨c, hc, h0⟩ := mk_no hk
    rw [hc] at h
    exact absurd (Prod.mk.inj h).1 h0
theorem mk_none {l a : List Ob} {q c : Int} {n : It} {k m : Int} (h : mkR l q n k m = (c, a)) (hc : c ≠ 0) : a = [] := by
  by_cases hk : okMk l q n k m
  · rw [mk_ok hk] at h
    exact absurd (Prod.mk.inj h).1.symm hc
  · obtain ⟨c, hc, h0⟩ := mk_no hk
    rw [hc] at h
    exact (Prod.mk.inj h).2.symm
theorem mk_right {l : List Ob} {q : Int} {n : It} {k m : Int} (h : okMk l q n k m) : rightB (insO (newO n k m) l) = true := by
  obtain ⟨h1, h2, h3, h4, h5, h6, h7, h8, h9⟩ := h
  refine rightB_iff.2 ⟨by rw [ins_length]; omega, ins_good (rightB_iff.1 h1).2 (new_is h2 h3 h5 h6 h7) (name_pos h2) h4⟩
theorem drop_some {l a : List Ob} {n : It} (h : dropR l n = (0, a)) : rightB l = true ∧ (∃ x, getO l n = some x) ∧ a = remO n l := by
  unfold dropR at h
  by_cases h1 : rightB l = true
  · rw [if_neg (by simp [h1])] at h
    by_cases h2 : findN l n = l.length
    · rw [if_pos h2] at h
      cases h
    · rw [if_neg h2] at h
      have hx : ∃ x, getO l n = some x := by
        cases e : getO l n with
        | none => exact absurd (find_none.2 e) h2
        | some x => exact ⟨x, rfl⟩
      refine ⟨h1, hx, ?_⟩
      unfold chR at h
      rw [with_rem] at h
      split at h
      · cases h
      split at h
      · cases h
      exact (Prod.mk.inj h).2.symm
  · rw [if_pos (right_false h1)] at h
    cases h
theorem drop_ok {l : List Ob} {n : It} {x : Ob} (h1 : rightB l = true) (h2 : getO l n = some x) : dropR l n = (0, remO n l) := by
  have hf := find_lt h2
  obtain ⟨e1, e2⟩ := rem_get h2
  have hp := fair_cost (fair_isB (good_get (rightB_iff.1 h1).2 h2))
  have hl := (rightB_iff.1 h1).1
  unfold dropR chR
  rw [if_neg (by simp [h1]), if_neg (by omega), with_rem, if_neg (by omega), if_neg (by omega)]
theorem drop_no {l : List Ob} {n : It} (h : ¬ (rightB l = true ∧ ∃ x, getO l n = some x)) : ∃ c, dropR l n = (c, []) ∧ c ≠ 0 ∧ c = if rightB l = false then 110 else 102 := by
  unfold dropR
  by_cases h1 : rightB l = true
  · have h2 : getO l n = none := by
      cases e : getO l n with
      | none => rfl
      | some x => exact absurd ⟨h1, x, e⟩ h
    rw [if_neg (by simp [h1]), if_pos (find_none.2 h2)]
    exact ⟨_, rfl, by decide, by simp [h1]⟩
  · rw [if_pos (right_false h1)]
    exact ⟨_, rfl, by decide, by simp [right_false h1]⟩
/-- Where something can be changed. -/
theorem done_at {l : List Ob} {n : It} {k : Int} {f : Ob → Int × Ob} {x : Ob} (h1 : rightB l = true) (h2 : getO l n = some x) (h3 : x.k = k) (h4 : (f x).1 = 0) : doneR l n k f = (0, findN l n, (f x).2) := by
  unfold doneR
  rw [if_neg (by simp [h1]), getO_find, h2]
  simp only
  rw [if_neg (by simp [h3]), if_neg (by simp [h4])]
theorem done_code {l : List Ob} {n : It} {k : Int} {f : Ob → Int × Ob} (h : (doneR l n k f).1 = 0) : rightB l = true ∧ ∃ x, getO l n = some x ∧ x.k = k ∧ (f x).1 = 0 := by
  unfold doneR at h
  by_cases h1 : rightB l = true
  · rw [if_neg (by simp [h1]), getO_find] at h
    refine ⟨h1, ?_⟩
    cases e : getO l n with
    | none => rw [e] at h; cases h
    | some x =>
      rw [e] at h
      simp only at h
      split at h
      · cases h
      rename_i hk
      split at h
      · rename_i hf; exact absurd h hf
      rename_i hf
      exact ⟨x, rfl, by omega, by omega⟩
  · rw [if_pos (right_false h1)] at h
    cases h
theorem chg_ok {l : List Ob} {q : Int} {n : It} {k : Int} {f : Ob → Int × Ob} {x : Ob} (h1 : rightB l = true) (h2 : getO l n = some x) (h3 : x.k = k) (h4 : (f x).1 = 0) :
    chgR l q n k f = if q < costS (setO n (f x).2 l) ∧ costS l < costS (setO n (f x).2 l) then (104, []) else (0, setO n (f x).2 l) := by
  have hd := done_at h1 h2 h3 h4
  have hl := (rightB_iff.1 h1).1
  unfold chgR
  rw [hd]
  simp only [ne_eq, not_true_eq_false, if_false]
  unfold chR
  rw [with_set _ (find_lt h2), (set_get _ h2).1, if_neg (by omega)]
theorem chg_some {l a : List Ob} {q : Int} {n : It} {k : Int} {f : Ob → Int × Ob} (h : chgR l q n k f = (0, a)) : rightB l = true ∧ ∃ x, getO l n = some x ∧ x.k = k ∧ (f x).1 = 0 ∧ a = setO n (f x).2 l ∧ (costS a ≤ q ∨ costS a ≤ costS l) := by
  by_cases h0 : (doneR l n k f).1 = 0
  · obtain ⟨h1, x, h2, h3, h4⟩ := done_code h0
    rw [chg_ok h1 h2 h3 h4] at h
    split at h
    · cases h
    rename_i hc
    have := (Prod.mk.inj h).2
    refine ⟨h1, x, h2, h3, h4, this.symm, ?_⟩
    rw [← this]
    omega
  · unfold chgR at h
    rw [if_pos h0] at h
    exact absurd (Prod.mk.inj h).1 h0
theorem chg_none {l a : List Ob} {q c : Int} {n : It} {k : Int} {f : Ob → Int × Ob} (h : chgR l q n k f = (c, a)) (hc : c ≠ 0) : a = [] := by
  by_cases h0 : (doneR l n k f).1 = 0
  · obtain ⟨h1, x, h2, h3, h4⟩ := done_code h0
    rw [chg_ok h1 h2 h3 h4] at h
    split at h
    · exact (Prod.mk.inj h).2.symm
    · exact absurd (Prod.mk.inj h).1.symm hc
  · unfold chgR at h
    rw [if_pos h0] at h
    exact (Prod.mk.inj h).2.symm
/-- What is done keeps a name and a kind, and makes something whole. -/
def Keep (k : Int) (f : Ob → Int × Ob) : Prop := ∀ x, isB x = true → x.k = k → (f x).1 = 0 → (f x).2.n = x.n ∧ wholeB (f x).2 = true
theorem keep_fil (g : Ob → Option It) (hg : ∀ x s, g x = some s → s.length ≤ 1000) : Keep 1 (fun o => filF (g o) o) := by
  intro x hx hk h0
  cases e : g x with
  | none => simp only [filF, e] at h0; cases h0
  | some s =>
    simp only [filF, e, true_and]
    have hw : wholeB x = true := by unfold isB at hx; simp at hx; exact hx.2
    unfold wholeB at hw ⊢
    rw [if_pos hk] at hw
    rw [if_pos hk]
    simp only [Bool.and_eq_true, decide_eq_true_eq] at hw ⊢
    exact ⟨⟨hg x s e, hw.1.2⟩, hw.2⟩
theorem keep_wr (a : Int) (t : It) : Keep 1 (wrF a t) := keep_fil (fun o => Fil.writeR o.d a t) fun x s h => by
  obtain ⟨k, rfl, hk, hs, hl, rfl⟩ := Fil.writeR_some h
  simp only [List.length_append, List.length_take, List.length_drop]
  omega
theorem keep_cut (n : Int) : Keep 1 (cutF n) := keep_fil (fun o => Fil.cutR o.d n) fun x s h => by
  unfold Fil.cutR at h
  split at h
  · rename_i hc
    obtain rfl := Option.some.inj h
    simp only [List.length_append, List.length_take, Fil.zerosR, List.length_replicate]
    omega
  · cases h
theorem errN_zero {k : Nat} (h : errN k = 0) : k = 0 := by
  unfold errN at h
  split at h
  · rfl
  all_goals cases h
theorem ring_whole {x : Ob} (hx : isB x = true) (hk : x.k = 2) : x.d = [] ∧ rightR x.m x.l = true := by
  have hw : wholeB x = true := by unfold isB at hx; simp at hx; exact hx.2
  unfold wholeB at hw
  rw [if_neg (by omega)] at hw
  simp only [Bool.and_eq_true, decide_eq_true_eq, List.isEmpty_iff] at hw
  exact ⟨hw.1.2, hw.2⟩
theorem whole_ring {n : It} {m : Int} {l : List It} (h : rightR m l = true) : wholeB ⟨n, 2, [], m, l⟩ = true := by
  unfold wholeB
  rw [if_neg (show ¬ (2 : Int) = 1 by decide)]
  simp [h]
theorem put_at {m : Int} {l : List It} {x : It} (h : putE m l x = 0) : putM m l x = m ∧ putL m l x = l ++ [x] := by
  unfold putM putL
  rw [if_pos h, if_pos h]
  exact ⟨rfl, rfl⟩
theorem take_at {m : Int} {l : List It} (h : takeE m l = 0) : takeM m l = m ∧ takeL m l = l.tail ∧ rightR m l = true ∧ l ≠ [] := by
  unfold takeM takeL
  rw [if_pos h, if_pos h]
  refine ⟨rfl, rfl, ?_⟩
  unfold takeE at h
  split at h
  · rename_i hr
    split at h
    · cases h
    · rename_i hl; exact ⟨hr, hl⟩
  · cases h
theorem keep_put (x : It) : Keep 2 (putF x) := by
  intro o ho hk h0
  obtain ⟨h1, h2⟩ := ring_whole ho hk
  have hp := errN_zero h0
  obtain ⟨e1, e2⟩ := put_at hp
  refine ⟨rfl, ?_⟩
  show wholeB ⟨o.n, o.k, o.d, putM o.m o.l x, putL o.m o.l x⟩ = true
  rw [e1, e2, hk, h1]
  exact whole_ring (right_put hp).2.1
theorem keep_tk : Keep 2 tkF := by
  intro o ho hk h0
  obtain ⟨h1, h2⟩ := ring_whole ho hk
  obtain ⟨e1, e2, _, _⟩ := take_at (errN_zero h0)
  refine ⟨rfl, ?_⟩
  show wholeB ⟨o.n, o.k, o.d, takeM o.m o.l, takeL o.m o.l⟩ = true
  rw [e1, e2, hk, h1, ← List.drop_one]
  exact whole_ring (right_drop 1 h2)
theorem chg_right {l a : List Ob} {q : Int} {n : It} {k : Int} {f : Ob → Int × Ob} (hf : Keep k f) (h : chgR l q n k f = (0, a)) : rightB a = true := by
  obtain ⟨h1, x, h2, h3, h4, rfl, _⟩ := chg_some h
  have hx := good_get (rightB_iff.1 h1).2 h2
  obtain ⟨k1, k2⟩ := hf x hx h3 h4
  exact rightB_iff.2 ⟨by rw [(set_get _ h2).1]; exact (rightB_iff.1 h1).1, set_good (rightB_iff.1 h1).2 (k1.trans (getO_name h2).1) k2⟩
theorem chg_other {l a : List Ob} {q : Int} {n m : It} {k : Int} {f : Ob → Int × Ob} (hf : Keep k f) (h : chgR l q n k f = (0, a)) (hm : n ≠ m) : getO a m = getO l m := by
  obtain ⟨h1, x, h2, h3, h4, rfl, _⟩ := chg_some h
  have hx := good_get (rightB_iff.1 h1).2 h2
  exact set_other l ((hf x hx h3 h4).1.trans (getO_name h2).1) hm
theorem mk_other {l a : List Ob} {q : Int} {n o : It} {k m : Int} (h : mkR l q n k m = (0, a)) (hm : n ≠ o) : getO a o = getO l o := by
  obtain ⟨_, rfl⟩ := mk_some h
  exact ins_other l hm
theorem drop_other {l a : List Ob} {n o : It} (h : dropR l n = (0, a)) (hm : n ≠ o) : getO a o = getO l o := by
  obtain ⟨_, _, rfl⟩ := drop_some h
  exact rem_other l hm
/-- P10.3: room. -/
theorem mk_bound {l a : List Ob} {q : Int} {n : It} {k m : Int} (h : mkR l q n k m = (0, a)) : rightB l = true ∧ rightB a = true ∧ costS a ≤ q ∧ costS l < costS a := by
  obtain ⟨hk, rfl⟩ := mk_some h
  have hr := mk_right hk
  obtain ⟨h1, h2, h3, h4, h5, h6, h7, h8, h9⟩ := hk
  have := new_cost n k h6
  rw [ins_cost]
  exact ⟨h1, hr, h9, by omega⟩
theorem drop_bound {l a : List Ob} {n : It} (h : dropR l n = (0, a)) : rightB l = true ∧ rightB a = true ∧ costS a < costS l := by
  obtain ⟨h1, ⟨x, hx⟩, rfl⟩ := drop_some h
  obtain ⟨e1, e2⟩ := rem_get hx
  have hp := fair_cost (fair_isB (good_get (rightB_iff.1 h1).2 hx))
  obtain ⟨g1, g2⟩ := rightB_iff.1 h1
  exact ⟨h1, rightB_iff.2 ⟨by omega, rem_good g2⟩, by omega⟩
theorem chg_bound {l a : List Ob} {q : Int} {n : It} {k : Int} {f : Ob → Int × Ob} (hf : Keep k f) (h : chgR l q n k f = (0, a)) : rightB l = true ∧ rightB a = true ∧ (costS a ≤ q ∨ costS a ≤ costS l) := by
  have hr := chg_right hf h
  obtain ⟨h1, x, h2, h3, h4, rfl, hc⟩ := chg_some h
  exact ⟨h1, hr, hc⟩
/-- P10.2: what is made is there, and dropped again. -/
theorem mk_back {l a : List Ob} {q : Int} {n : It} {k m : Int} (h : mkR l q n k m = (0, a)) : getO a n = some (newO n k m) ∧ dropR a n = (0, l) ∧ getO l n = none := by
  obtain ⟨hk, rfl⟩ := mk_some h
  have hr := mk_right hk
  obtain ⟨_, _, _, h4, _⟩ := hk
  have hg : getO (insO (newO n k m) l) n = some (newO n k m) := ins_self (o := newO n k m) h4
  refine ⟨hg, ?_, h4⟩
  rw [drop_ok hr hg]
  exact congrArg (Prod.mk 0) (rem_ins (o := newO n k m) h4)
theorem mk_turns {l a b : List Ob} {q : Int} {n o : It} {k i j m : Int} (h1 : mkR l q n k i = (0, a)) (h2 : mkR a q o j m = (0, b)) : ∃ c, mkR l q o j m = (0, c) ∧ mkR c q n k i = (0, b) ∧ b.length = l.length + 2 := by
  obtain ⟨hk, rfl⟩ := mk_some h1
  obtain ⟨hj, rfl⟩ := mk_some h2
  obtain ⟨a1, a2, a3, a4, a5, a6, a7, a8, a9⟩ := hk
  obtain ⟨b1, b2, b3, b4, b5, b6, b7, b8, b9⟩ := hj
  rw [ins_length] at b8
  rw [ins_cost] at b9
  have p1 := new_cost n k a6
  have p2 := new_cost o j b6
  have hne : n ≠ o := fun e => by
    subst e
    rw [show getO (insO (newO n k i) l) n = some (newO n k i) from ins_self (o := newO n k i) a4] at b4
    cases b4
  have b4' : getO l o = none := by rw [← ins_other (o := newO n k i) l hne]; exact b4
  have ho : okMk l q o j m := ⟨a1, b2, b3, b4', b5, b6, b7, by omega, by omega⟩
  refine ⟨_, mk_ok ho, ?_, by rw [ins_length, ins_length]⟩
  rw [mk_ok ⟨mk_right ho, a2, a3, by rw [ins_other (o := newO o j m) l (Ne.symm hne)]; exact a4, a5, a6, a7, by rw [ins_length]; omega, by rw [ins_cost]; omega⟩]
  exact congrArg (Prod.mk 0) (ins_ins l (Ne.symm hne))
theorem right_cost {l : List Ob} (h : rightB l = true) : costR l = costS l := by unfold costR; rw [if_pos h]
/-- What is put into a ring comes out of it. -/
theorem put_take {l a : List Ob} {n x : It} (h : puR l n x = (0, a)) : ∃ o, getO l n = some o ∧ rightB l = true ∧ ∃ b, tkR a n = (0, b) ∧ costR b = costR l ∧ tkX a n = (o.l ++ [x]).headD [] ∧ (o.l = [] → b = l) := by
  have hra := chg_right (keep_put x) h
  obtain ⟨h1, o, h2, h3, h4, rfl, _⟩ := chg_some h
  have ho := good_get (rightB_iff.1 h1).2 h2
  obtain ⟨d1, d2⟩ := ring_whole ho h3
  have hp := errN_zero h4
  obtain ⟨e1, e2⟩ := put_at hp
  have hn := (getO_name h2).1
  obtain ⟨o', ho'⟩ : ∃ o', (putF x o).2 = o' := ⟨_, rfl⟩
  have hov : o' = ⟨o.n, o.k, o.d, o.m, o.l ++ [x]⟩ := by rw [← ho']; show Ob.mk _ _ _ _ _ = _; rw [e1, e2]
  rw [ho'] at hra ⊢
  have hn' : o'.n = n := by rw [hov]; exact hn
  have hg : getO (setO n o' l) n = some o' := set_self hn' h2
  have ht : takeE o'.m o'.l = 0 := by
    rw [hov]
    unfold takeE
    rw [if_pos (right_put hp).2.1, if_neg (by simp)]
  obtain ⟨t1, t2, _, _⟩ := take_at ht
  have hk' : o'.k = 2 := by rw [hov]; exact h3
  obtain ⟨c1, c2⟩ := set_get o' h2
  have hco : costO o' = costO o := by rw [hov]; rfl
  have hc0 : costS (setO n o' l) = costS l := by omega
  have hf0 : (tkF o').1 = 0 := by show errN (takeE o'.m o'.l) = 0; rw [ht]; rfl
  obtain ⟨o2, ho2⟩ : ∃ o2, (tkF o').2 = o2 := ⟨_, rfl⟩
  have hov2 : o2 = ⟨o.n, o.k, o.d, o.m, (o.l ++ [x]).tail⟩ := by
    rw [← ho2]
    show Ob.mk _ _ _ _ _ = _
    rw [t1, t2, hov]
  obtain ⟨g1, g2⟩ := set_get o2 hg
  have hco2 : costO o2 = costO o := by rw [hov2]; rfl
  have hc2 : costS (setO n o2 (setO n o' l)) = costS l := by omega
  have hT : tkR (setO n o' l) n = (0, setO n o2 (setO n o' l)) := by
    show chgR _ 0 n 2 tkF = _
    rw [chg_ok hra hg hk' hf0, ho2, if_neg (by omega)]
  have hrb := chg_right keep_tk hT
  refine ⟨o, h2, h1, _, hT, ?_, ?_, ?_⟩
  · rw [right_cost hrb, right_cost h1, hc2]
  · show seenR _ _ _ _ _ = _
    unfold seenR
    rw [if_neg (by simp [hra]), getO_find, hg]
    simp only
    rw [if_neg (by omega)]
    unfold takeX
    rw [if_pos ht, hov]
  · intro hl
    rw [set_set hn' h2]
    have : o2 = o := by
      rw [hov2, hl]
      show Ob.mk _ _ _ _ _ = _
      exact Ob.ext rfl rfl rfl rfl hl.symm
    rw [this]
    exact set_back h2
end Go.Proofs.Spc
