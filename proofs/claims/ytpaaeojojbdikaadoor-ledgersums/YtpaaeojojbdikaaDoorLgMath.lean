/- Plain facts on ledgers: lists of lines that rise by their labels. No program is named here. -/
import Derived.Test.YtpaaeojojbdikaaDoorLabMath
namespace Go.Proofs.Lgr
open Go.Proofs.Cats

/-- A line: a label, and what is charged to it. -/
structure Ln where
  a : Lab
  u : Int

theorem Ln.ext {x y : Ln} (h1 : x.a = y.a) (h2 : x.u = y.u) : x = y := by
  cases x; cases y; simp_all

theorem same_refl (a : Lab) : a.same a = true := (Lab.same_iff a a).2 rfl
theorem same_no {a b : Lab} (h : a ≠ b) : a.same b = false := by
  cases e : a.same b
  · rfl
  · exact absurd ((Lab.same_iff a b).1 e) h
theorem same_symm (a b : Lab) : a.same b = b.same a := by
  by_cases h : a = b
  · subst h; rfl
  · rw [same_no h, same_no (fun e => h e.symm)]
theorem ahead_iff (a b : Lab) : a.ahead b = true ↔ a.l < b.l ∨ (a.l = b.l ∧ (a.c < b.c ∨ (a.c = b.c ∧ a.i < b.i))) := by
  unfold Lab.ahead
  by_cases h1 : a.l = b.l
  · by_cases h2 : a.c = b.c
    · simp [h1, h2]
    · simp [h1, h2]
  · simp [h1]
theorem ahead_irrefl (a : Lab) : a.ahead a = false := by
  cases e : a.ahead a
  · rfl
  · rw [ahead_iff] at e; omega
theorem ahead_trans {a b c : Lab} (h : a.ahead b = true) (k : b.ahead c = true) : a.ahead c = true := by
  rw [ahead_iff] at *; omega
theorem ahead_ne {a b : Lab} (h : a.ahead b = true) : a ≠ b := by
  rintro rfl
  rw [ahead_irrefl] at h
  cases h
theorem ahead_total {a b : Lab} (h : a.ahead b = false) (k : a ≠ b) : b.ahead a = true := by
  cases e : b.ahead a
  · exfalso
    have h' : ¬ (a.ahead b = true) := by rw [h]; decide
    have e' : ¬ (b.ahead a = true) := by rw [e]; decide
    rw [ahead_iff] at h' e'
    exact k (Lab.ext (by omega) (by omega) (by omega))
  · rfl
theorem ahead_asymm {a b : Lab} (h : a.ahead b = true) : b.ahead a = false := by
  cases e : b.ahead a
  · rfl
  · have := ahead_trans h e
    rw [ahead_irrefl] at this
    cases this
/-- How a comparison comes out. -/
theorem cmp_lt (a b : Lab) : decide (a.cmp b < 0) = a.ahead b := by
  unfold Lab.cmp
  by_cases h : a = b
  · subst h; rw [same_refl, ahead_irrefl]; rfl
  · rw [same_no h]
    cases a.ahead b <;> rfl
theorem cmp_ge (a b : Lab) : decide (a.cmp b ≥ 0) = !a.ahead b := by
  rw [← cmp_lt]
  by_cases h : a.cmp b < 0
  · simp [h]
  · simp [h]; omega
theorem cmp_le (a b : Lab) : decide (a.cmp b ≤ 0) = !b.ahead a := by
  unfold Lab.cmp
  by_cases h : a = b
  · subst h; rw [same_refl, ahead_irrefl]; rfl
  · rw [same_no h]
    cases e : a.ahead b
    · rw [ahead_total e h]; rfl
    · rw [ahead_asymm e]; rfl

/-- Is it a line of a ledger? -/
def lineOk (x : Ln) : Bool := x.a.right && decide (1 ≤ x.u) && decide (x.u ≤ 100000)
/-- The line at k, held against the one ahead of it. -/
def goodAt (l : List Ln) (k : Nat) : Bool :=
  match l[k]? with
  | none => true
  | some x => lineOk x && (match k with
    | 0 => true
    | j + 1 => match l[j]? with
      | none => true
      | some y => y.a.ahead x.a)
/-- Is it a ledger? -/
def rightL (l : List Ln) : Bool := decide (l.length ≤ 1000) && (List.range l.length).all (goodAt l)
def usedL : List Ln → Lab → Int
  | [], _ => 0
  | x :: r, a => if x.a.same a then x.u else usedL r a
def seenL (l : List Ln) (a : Lab) : List Ln := l.filter fun x => x.a.under a
def sumL : List Ln → Int
  | [] => 0
  | x :: r => x.u + sumL r
def totalL (l : List Ln) : Int := if rightL l then sumL l else 0
def Ln.same (x y : Ln) : Bool := x.a.same y.a && x.u == y.u
def sameL : List Ln → List Ln → Bool
  | [], [] => true
  | x :: r, y :: s => x.same y && sameL r s
  | _, _ => false
/-- A line of 0 is none. -/
def newL (a : Lab) (n : Int) : List Ln := if 0 < n then [⟨a, n⟩] else []
/-- The ledger in which the label has that much. -/
def withL : List Ln → Lab → Int → List Ln
  | [], a, n => newL a n
  | x :: r, a, n => if x.a.ahead a then x :: withL r a n else newL a n ++ (if x.a.same a then r else x :: r)
def chargeL (l : List Ln) (q : Int) (a : Lab) (n : Int) : List Ln × Int :=
  if rightL l && a.right then
    if 0 ≤ q ∧ q ≤ 100000 ∧ 0 ≤ n ∧ n ≤ q - usedL l a ∧ ¬ (usedL l a = 0 ∧ 0 < n ∧ l.length = 1000) then (withL l a (usedL l a + n), 0) else ([], 70)
  else ([], 20)
def refundL (l : List Ln) (a : Lab) (n : Int) : List Ln × Int :=
  if rightL l && a.right then
    if 0 ≤ n ∧ n ≤ usedL l a then (withL l a (usedL l a - n), 0) else ([], 70)
  else ([], 20)

theorem Ln.same_iff (x y : Ln) : x.same y = true ↔ x = y := by
  unfold Ln.same
  rw [Bool.and_eq_true, Lab.same_iff, beq_iff_eq]
  exact ⟨fun h => Ln.ext h.1 h.2, fun h => by subst h; exact ⟨rfl, rfl⟩⟩
theorem sameL_iff (l m : List Ln) : sameL l m = true ↔ l = m := by
  induction l generalizing m with
  | nil => cases m <;> simp [sameL]
  | cons x r ih =>
    cases m with
    | nil => simp [sameL]
    | cons y s => simp only [sameL, Bool.and_eq_true, Ln.same_iff, ih, List.cons.injEq]
theorem sameL_refl (l : List Ln) : sameL l l = true := (sameL_iff l l).2 rfl

/-- The labels rise. -/
def Asc (l : List Ln) : Prop := l.Pairwise fun x y => x.a.ahead y.a = true
theorem goodAt_iff {l : List Ln} : (∀ k, goodAt l k = true) ↔ (∀ x ∈ l, lineOk x = true) ∧ Asc l := by
  constructor
  · intro h
    have hadj : ∀ k x y, l[k]? = some x → l[k + 1]? = some y → x.a.ahead y.a = true := fun k x y hx hy => by
      have := h (k + 1)
      unfold goodAt at this
      rw [hy] at this
      simp only [hx, Bool.and_eq_true] at this
      exact this.2
    refine ⟨fun x hx => ?_, ?_⟩
    · obtain ⟨k, hk⟩ := List.getElem?_of_mem hx
      have := h k
      unfold goodAt at this
      rw [hk] at this
      simp only [Bool.and_eq_true] at this
      exact this.1
    · have far : ∀ d k x y, l[k]? = some x → l[k + 1 + d]? = some y → x.a.ahead y.a = true := by
        intro d
        induction d with
        | zero => exact hadj
        | succ d ih =>
          intro k x y hx hy
          have hlt := (List.getElem?_eq_some_iff.1 hy).1
          have hm : l[k + 1 + d]? = some l[k + 1 + d] := List.getElem?_eq_getElem (by omega)
          exact ahead_trans (ih k x _ hx hm) (hadj (k + 1 + d) _ _ hm hy)
      unfold Asc
      rw [List.pairwise_iff_getElem]
      intro i j hi hj hij
      obtain ⟨d, rfl⟩ : ∃ d, j = i + 1 + d := ⟨j - i - 1, by omega⟩
      exact far d i _ _ (List.getElem?_eq_getElem hi) (List.getElem?_eq_getElem hj)
  · rintro ⟨h1, h2⟩ k
    unfold goodAt
    cases hk : l[k]? with
    | none => rfl
    | some x =>
      have hx := h1 x (List.mem_of_getElem? hk)
      cases k with
      | zero => simp [hx]
      | succ j =>
        obtain ⟨hl, rfl⟩ := List.getElem?_eq_some_iff.1 hk
        simp only [hx, Bool.true_and, List.getElem?_eq_getElem (show j < l.length by omega)]
        exact (List.pairwise_iff_getElem.1 h2) j (j + 1) (by omega) hl (by omega)
theorem rightL_iff (l : List Ln) : rightL l = true ↔ l.length ≤ 1000 ∧ (∀ x ∈ l, lineOk x = true) ∧ Asc l := by
  rw [← goodAt_iff]
  unfold rightL
  rw [Bool.and_eq_true, decide_eq_true_iff, List.all_eq_true]
  constructor
  · rintro ⟨h1, h2⟩
    refine ⟨h1, fun k => ?_⟩
    by_cases hk : k < l.length
    · exact h2 k (List.mem_range.2 hk)
    · unfold goodAt
      rw [List.getElem?_eq_none (by omega)]
  · rintro ⟨h1, h2⟩
    exact ⟨h1, fun k _ => h2 k⟩
theorem rightL_long {l : List Ln} (h : 1000 < l.length) : rightL l = false := by
  cases e : rightL l
  · rfl
  · have := ((rightL_iff l).1 e).1
    omega
theorem rightL_bad {l : List Ln} {k : Nat} (h : goodAt l k = false) : rightL l = false := by
  cases e : rightL l
  · rfl
  · have := (goodAt_iff.2 ((rightL_iff l).1 e).2) k
    rw [h] at this
    cases this
theorem rightL_all {l : List Ln} (h1 : l.length ≤ 1000) (h : ∀ k, k < l.length → goodAt l k = true) : rightL l = true := by
  unfold rightL
  rw [Bool.and_eq_true, decide_eq_true_iff, List.all_eq_true]
  exact ⟨h1, fun k hk => h k (List.mem_range.1 hk)⟩

theorem used_zero {l : List Ln} {a : Lab} (h : ∀ x ∈ l, x.a ≠ a) : usedL l a = 0 := by
  induction l with
  | nil => rfl
  | cons x r ih =>
    unfold usedL
    rw [same_no (h x (by simp))]
    exact ih fun y hy => h y (by simp [hy])
theorem used_mem {l : List Ln} (h : Asc l) {x : Ln} (hx : x ∈ l) : usedL l x.a = x.u := by
  induction l with
  | nil => cases hx
  | cons y r ih =>
    have hp := List.pairwise_cons.1 h
    unfold usedL
    rcases List.mem_cons.1 hx with rfl | hm
    · rw [same_refl]; rfl
    · rw [same_no (ahead_ne (hp.1 x hm))]
      exact ih hp.2 hm
theorem used_or (l : List Ln) (a : Lab) : usedL l a = 0 ∨ ∃ x ∈ l, x.a = a ∧ usedL l a = x.u := by
  induction l with
  | nil => exact .inl rfl
  | cons x r ih =>
    unfold usedL
    by_cases h : x.a = a
    · subst h
      rw [same_refl]
      exact .inr ⟨x, by simp, rfl, rfl⟩
    · rw [same_no h]
      rcases ih with h | ⟨y, hy, e1, e2⟩
      · exact .inl h
      · exact .inr ⟨y, by simp [hy], e1, e2⟩
theorem lineOk_iff (x : Ln) : lineOk x = true ↔ x.a.right = true ∧ 1 ≤ x.u ∧ x.u ≤ 100000 := by
  unfold lineOk
  simp only [Bool.and_eq_true, decide_eq_true_iff, and_assoc]
theorem used_range {l : List Ln} (h : rightL l = true) (a : Lab) : 0 ≤ usedL l a ∧ usedL l a ≤ 100000 := by
  have h := ((rightL_iff l).1 h).2.1
  rcases used_or l a with e | ⟨x, hx, _, e⟩
  · omega
  · have := (lineOk_iff x).1 (h x hx)
    omega
theorem mem_newL {x : Ln} {a : Lab} {n : Int} (h : x ∈ newL a n) : x = ⟨a, n⟩ ∧ 0 < n := by
  unfold newL at h
  split at h
  · rename_i hn
    exact ⟨by simpa using h, hn⟩
  · cases h
theorem mem_withL {l : List Ln} {a : Lab} {n : Int} {x : Ln} (h : x ∈ withL l a n) : x ∈ l ∨ (x = ⟨a, n⟩ ∧ 0 < n) := by
  induction l with
  | nil => exact .inr (mem_newL h)
  | cons y r ih =>
    unfold withL at h
    split at h
    · rcases List.mem_cons.1 h with rfl | h
      · exact .inl (by simp)
      · rcases ih h with h | h
        · exact .inl (by simp [h])
        · exact .inr h
    · rcases List.mem_append.1 h with h | h
      · exact .inr (mem_newL h)
      · split at h
        · exact .inl (by simp [h])
        · exact .inl h
/-- What is behind where the label would be. -/
theorem rest_ahead {x : Ln} {r : List Ln} {a : Lab} (h : Asc (x :: r)) (h1 : x.a.ahead a = false) : ∀ y ∈ (if x.a.same a then r else x :: r), a.ahead y.a = true := by
  have hp := List.pairwise_cons.1 h
  intro y hy
  by_cases e : x.a = a
  · subst e
    rw [same_refl] at hy
    exact hp.1 y hy
  · rw [same_no e] at hy
    have hax := ahead_total h1 e
    rcases List.mem_cons.1 hy with rfl | hy
    · exact hax
    · exact ahead_trans hax (hp.1 y hy)
theorem rest_asc {x : Ln} {r : List Ln} {a : Lab} (h : Asc (x :: r)) : Asc (if x.a.same a then r else x :: r) := by
  split
  · exact (List.pairwise_cons.1 h).2
  · exact h
theorem asc_new {l : List Ln} {a : Lab} {n : Int} (h : Asc l) (k : ∀ y ∈ l, a.ahead y.a = true) : Asc (newL a n ++ l) := by
  unfold newL
  split
  · exact List.pairwise_cons.2 ⟨k, h⟩
  · exact h
theorem asc_with {l : List Ln} (a : Lab) (n : Int) (h : Asc l) : Asc (withL l a n) := by
  induction l with
  | nil => have := asc_new (a := a) (n := n) (l := []) List.Pairwise.nil (fun y hy => by cases hy); simpa [withL] using this
  | cons x r ih =>
    have hp := List.pairwise_cons.1 h
    unfold withL
    cases e : x.a.ahead a
    · exact asc_new (rest_asc h) (rest_ahead h e)
    · refine List.pairwise_cons.2 ⟨fun y hy => ?_, ih hp.2⟩
      rcases mem_withL hy with h1 | ⟨rfl, _⟩
      · exact hp.1 y h1
      · exact e
theorem used_new (l : List Ln) (a b : Lab) (n : Int) (hn : 0 ≤ n) (k : ∀ y ∈ l, a.ahead y.a = true) : usedL (newL a n ++ l) b = if a.same b then n else usedL l b := by
  unfold newL
  split
  · rfl
  · show usedL l b = _
    by_cases e : a = b
    · subst e
      rw [same_refl, used_zero fun y hy => (ahead_ne (k y hy)).symm]
      simp
      omega
    · rw [same_no e]; rfl
theorem used_with {l : List Ln} (h : Asc l) (a b : Lab) (n : Int) (hn : 0 ≤ n) : usedL (withL l a n) b = if a.same b then n else usedL l b := by
  induction l with
  | nil => have := used_new [] a b n hn (fun y hy => by cases hy); simpa [withL] using this
  | cons x r ih =>
    have hp := List.pairwise_cons.1 h
    unfold withL
    cases e : x.a.ahead a
    · show usedL (newL a n ++ _) b = _
      rw [used_new _ a b n hn (rest_ahead h e)]
      by_cases k : a = b
      · subst k; rw [same_refl]; rfl
      · rw [same_no k]
        show usedL _ b = usedL (x :: r) b
        by_cases q : x.a = a
        · rw [show x.a.same a = true by rw [q]; exact same_refl a]
          show usedL r b = if x.a.same b then x.u else usedL r b
          rw [same_no (by rw [q]; exact k)]; rfl
        · rw [same_no q]; rfl
    · show (if x.a.same b then x.u else usedL (withL r a n) b) = _
      rw [ih hp.2]
      by_cases k : a = b
      · subst k; rw [same_refl, same_no (ahead_ne e)]; rfl
      · rw [same_no k]; rfl
/-- Rising lines are told by what their labels have. -/
theorem asc_ext {l m : List Ln} (hl : Asc l) (hm : Asc m) (pl : ∀ x ∈ l, 1 ≤ x.u) (pm : ∀ x ∈ m, 1 ≤ x.u) (h : ∀ a, usedL l a = usedL m a) : l = m := by
  induction l generalizing m with
  | nil =>
    cases m with
    | nil => rfl
    | cons y s =>
      have := h y.a
      rw [used_mem hm (by simp)] at this
      have h1 := pm y (by simp)
      simp only [usedL] at this
      omega
  | cons x r ih =>
    have hp := List.pairwise_cons.1 hl
    cases m with
    | nil =>
      have := h x.a
      rw [used_mem hl (by simp)] at this
      have h1 := pl x (by simp)
      simp only [usedL] at this
      omega
    | cons y s =>
      have hq := List.pairwise_cons.1 hm
      have hx := h x.a
      have hy := h y.a
      rw [used_mem hl (by simp)] at hx
      rw [used_mem hm (by simp)] at hy
      have p1 := pl x (by simp)
      have p2 := pm y (by simp)
      by_cases e : x.a = y.a
      · have eu : x.u = y.u := by
          rw [e] at hx
          rw [used_mem hm (x := y) (by simp)] at hx
          exact hx
        obtain rfl := Ln.ext e eu
        rw [ih hp.2 hq.2 (fun z hz => pl z (by simp [hz])) (fun z hz => pm z (by simp [hz])) fun a => ?_]
        by_cases k : x.a = a
        · subst k
          rw [used_zero fun z hz => (ahead_ne (hp.1 z hz)).symm, used_zero fun z hz => (ahead_ne (hq.1 z hz)).symm]
        · have := h a
          unfold usedL at this
          rw [same_no k] at this
          exact this
      · exfalso
        cases k : x.a.ahead y.a
        · have k' := ahead_total k e
          rw [used_zero (l := x :: r) (a := y.a) fun z hz => ?_] at hy
          · omega
          · rcases List.mem_cons.1 hz with rfl | hz
            · exact e
            · exact (ahead_ne (ahead_trans k' (hp.1 z hz))).symm
        · rw [used_zero (l := y :: s) (a := x.a) fun z hz => ?_] at hx
          · omega
          · rcases List.mem_cons.1 hz with rfl | hz
            · exact fun q => e q.symm
            · exact (ahead_ne (ahead_trans k (hq.1 z hz))).symm
theorem length_with (l : List Ln) (a : Lab) (n : Int) : (withL l a n).length ≤ l.length + 1 := by
  induction l with
  | nil => unfold withL newL; split <;> simp
  | cons x r ih =>
    unfold withL
    split
    · simp; omega
    · unfold newL
      split <;> split <;> simp <;> omega
/-- Where there is a line already, or n is 0, or there is room. -/
theorem length_with_le {l : List Ln} (h : Asc l) {a : Lab} {n : Int} (k : usedL l a ≠ 0 ∨ n ≤ 0) : (withL l a n).length ≤ l.length := by
  induction l with
  | nil =>
    rcases k with k | k
    · exact absurd rfl k
    · unfold withL newL; rw [if_neg (by omega)]; simp
  | cons x r ih =>
    have hp := List.pairwise_cons.1 h
    unfold withL
    cases e : x.a.ahead a
    · show (newL a n ++ _).length ≤ _
      unfold newL
      by_cases q : x.a = a
      · rw [show x.a.same a = true by rw [q]; exact same_refl a]
        split <;> simp
      · rw [same_no q]
        have hz : usedL (x :: r) a = 0 := used_zero fun y hy => by
          have := rest_ahead h e y (by rw [same_no q]; exact hy)
          exact (ahead_ne this).symm
        rw [if_neg (by omega)]
        simp
    · have := ih hp.2 (by
        unfold usedL at k
        rw [same_no (ahead_ne e)] at k
        exact k)
      show (x :: withL r a n).length ≤ _
      simp
      omega
theorem right_with {l : List Ln} (h : rightL l = true) {a : Lab} (ha : a.right = true) {n : Int} (h0 : 0 ≤ n) (h1 : n ≤ 100000) (hl : (withL l a n).length ≤ 1000) : rightL (withL l a n) = true := by
  have := (rightL_iff l).1 h
  refine (rightL_iff _).2 ⟨hl, fun x hx => ?_, asc_with a n this.2.2⟩
  rcases mem_withL hx with hx | ⟨rfl, hp⟩
  · exact this.2.1 x hx
  · exact (lineOk_iff _).2 ⟨ha, by show 1 ≤ n; omega, h1⟩
theorem pos_of_right {l : List Ln} (h : rightL l = true) : ∀ x ∈ l, 1 ≤ x.u := fun x hx => ((lineOk_iff x).1 (((rightL_iff l).1 h).2.1 x hx)).2.1
theorem pos_with {l : List Ln} (h : ∀ x ∈ l, 1 ≤ x.u) (a : Lab) (n : Int) : ∀ x ∈ withL l a n, 1 ≤ x.u := fun x hx => by
  rcases mem_withL hx with hx | ⟨rfl, hp⟩
  · exact h x hx
  · exact hp
/-- What a label has, again. -/
theorem with_same {l : List Ln} (h : Asc l) (p : ∀ x ∈ l, 1 ≤ x.u) (a : Lab) : withL l a (usedL l a) = l := by
  have h0 : 0 ≤ usedL l a := by
    rcases used_or l a with e | ⟨x, hx, _, e⟩
    · omega
    · have := p x hx
      omega
  refine asc_ext (asc_with _ _ h) h (pos_with p _ _) p fun b => ?_
  rw [used_with h a b _ h0]
  by_cases e : a = b
  · subst e; rw [same_refl]; rfl
  · rw [same_no e]; rfl
theorem with_with {l : List Ln} (h : Asc l) (p : ∀ x ∈ l, 1 ≤ x.u) (a : Lab) (m n : Int) (hm : 0 ≤ m) (hn : 0 ≤ n) : withL (withL l a m) a n = withL l a n := by
  refine asc_ext (asc_with _ _ (asc_with _ _ h)) (asc_with _ _ h) (pos_with (pos_with p _ _) _ _) (pos_with p _ _) fun b => ?_
  rw [used_with (asc_with _ _ h) a b _ hn, used_with h a b _ hn, used_with h a b _ hm]
  by_cases e : a = b
  · subst e; rw [same_refl]; rfl
  · rw [same_no e]; rfl
theorem with_turns {l : List Ln} (h : Asc l) (p : ∀ x ∈ l, 1 ≤ x.u) {a b : Lab} (hab : a ≠ b) (m n : Int) (hm : 0 ≤ m) (hn : 0 ≤ n) : withL (withL l a m) b n = withL (withL l b n) a m := by
  refine asc_ext (asc_with _ _ (asc_with _ _ h)) (asc_with _ _ (asc_with _ _ h)) (pos_with (pos_with p _ _) _ _) (pos_with (pos_with p _ _) _ _) fun c => ?_
  rw [used_with (asc_with _ _ h) b c _ hn, used_with h a c _ hm, used_with (asc_with _ _ h) a c _ hm, used_with h b c _ hn]
  by_cases e : a = c
  · subst e; rw [same_refl, same_no (fun q => hab q.symm)]; rfl
  · rw [same_no e]; rfl
theorem sum_append (l m : List Ln) : sumL (l ++ m) = sumL l + sumL m := by
  induction l with
  | nil => simp [sumL]
  | cons x r ih => simp only [List.cons_append, sumL, ih]; omega
theorem sum_new (a : Lab) (n : Int) (hn : 0 ≤ n) : sumL (newL a n) = n := by
  unfold newL
  split
  · simp [sumL]
  · simp [sumL]; omega
theorem sum_with {l : List Ln} (h : Asc l) (a : Lab) (n : Int) (hn : 0 ≤ n) : sumL (withL l a n) = sumL l - usedL l a + n := by
  induction l with
  | nil => show sumL (newL a n) = _; rw [sum_new a n hn]; simp [sumL, usedL]
  | cons x r ih =>
    have hp := List.pairwise_cons.1 h
    unfold withL
    cases e : x.a.ahead a
    · show sumL (newL a n ++ _) = _
      rw [sum_append, sum_new a n hn]
      by_cases q : x.a = a
      · rw [show x.a.same a = true by rw [q]; exact same_refl a]
        show n + sumL r = x.u + sumL r - (if x.a.same a then x.u else usedL r a) + n
        rw [show x.a.same a = true by rw [q]; exact same_refl a]
        simp
        omega
      · rw [used_zero (l := x :: r) (a := a) fun y hy => (ahead_ne (rest_ahead h e y (by rw [same_no q]; exact hy))).symm, same_no q]
        simp
        omega
    · show x.u + sumL (withL r a n) = x.u + sumL r - (if x.a.same a then x.u else usedL r a) + n
      rw [ih hp.2, same_no (ahead_ne e)]
      simp
      omega
theorem seen_with {l : List Ln} (h : Asc l) (a b : Lab) (n : Int) (hab : a.under b = false) : seenL (withL l a n) b = seenL l b := by
  have hnew : seenL (newL a n) b = [] := by
    unfold newL seenL
    split
    · simp [hab]
    · rfl
  induction l with
  | nil => exact hnew
  | cons x r ih =>
    have hp := List.pairwise_cons.1 h
    unfold withL
    cases e : x.a.ahead a
    · show seenL (newL a n ++ _) b = _
      have : ∀ m, seenL (newL a n ++ m) b = seenL m b := fun m => by
        have h2 := hnew
        unfold seenL at h2 ⊢
        rw [List.filter_append, h2]
        rfl
      rw [this]
      by_cases q : x.a = a
      · rw [show x.a.same a = true by rw [q]; exact same_refl a]
        show seenL r b = seenL (x :: r) b
        unfold seenL
        rw [List.filter_cons_of_neg (by rw [q, hab]; decide)]
      · rw [same_no q]; rfl
    · show seenL (x :: withL r a n) b = _
      have h3 := ih hp.2
      unfold seenL at h3 ⊢
      rw [List.filter_cons, List.filter_cons, h3]
theorem right_seen {l : List Ln} (h : rightL l = true) (a : Lab) : rightL (seenL l a) = true := by
  obtain ⟨h1, h2, h3⟩ := (rightL_iff l).1 h
  have hs : (seenL l a).Sublist l := List.filter_sublist
  exact (rightL_iff _).2 ⟨Nat.le_trans hs.length_le h1, fun x hx => h2 x (hs.subset hx), h3.sublist hs⟩
theorem seen_top {l : List Ln} (h : rightL l = true) (hf : ∀ x ∈ l, x.a.fits) : seenL l Lab.top = l := by
  unfold seenL
  rw [List.filter_eq_self]
  intro x hx
  have hr := ((lineOk_iff x).1 (((rightL_iff l).1 h).2.1 x hx)).1
  rw [Lab.under_iff _ _ (hf x hx) Lab.fits_top]
  have hr' := (Lab.right_iff x.a).1 hr
  exact ⟨hr, Lab.top_right, by show x.a.l ≤ 15; omega, SubN.all _ (hf x hx), by show (0 : Int) ≤ x.a.i; omega⟩
theorem sum_sub {s l : List Ln} (h : s.Sublist l) (p : ∀ x ∈ l, 1 ≤ x.u) : sumL s ≤ sumL l := by
  induction h with
  | slnil => exact Int.le_refl _
  | cons x _ ih =>
    have := ih fun y hy => p y (by simp [hy])
    have := p x (by simp)
    show _ ≤ x.u + sumL _
    omega
  | cons_cons x _ ih =>
    have := ih fun y hy => p y (by simp [hy])
    show x.u + sumL _ ≤ x.u + sumL _
    omega
theorem sum_range {l : List Ln} (h : ∀ x ∈ l, lineOk x = true) : 0 ≤ sumL l ∧ sumL l ≤ 100000 * (l.length : Int) := by
  induction l with
  | nil => simp [sumL]
  | cons x r ih =>
    have h1 := ih fun y hy => h y (by simp [hy])
    have h2 := (lineOk_iff x).1 (h x (by simp))
    simp only [sumL, List.length_cons]
    omega

end Go.Proofs.Lgr
