/- Merged texts: WdMath, WdDoc, WdTurn -/
import Derived.Test.YtlafcplcjpcikaaGreatDoorLbA
import Derived.Test.YtlafcplcjpcikaaGreatDoorSpA
/- Worlds as plain lists of parts: P11.1 to P11.3 as plain facts. -/
namespace Go.Proofs.Wld
open Go.Proofs.Cats Go.Proofs.Rng Go.Proofs.Spc

instance labEq (a b : Lab) : Decidable (a = b) := decidable_of_iff _ (Lab.same_iff a b)
/-- A part: its label, its objects. -/
structure Pt where
  a : Lab
  l : List Ob
theorem Pt.ext {x y : Pt} (h1 : x.a = y.a) (h2 : x.l = y.l) : x = y := by
  cases x; cases y; simp_all
/-- The total order. -/
theorem ahead_iff (a b : Lab) : a.ahead b = true ↔ a.l < b.l ∨ (a.l = b.l ∧ (a.c < b.c ∨ (a.c = b.c ∧ a.i < b.i))) := by
  unfold Lab.ahead
  by_cases h1 : a.l = b.l
  · rw [if_neg (by simp [h1])]
    by_cases h2 : a.c = b.c
    · rw [if_neg (by simp [h2]), decide_eq_true_eq]
      omega
    · rw [if_pos (by simp [h2]), decide_eq_true_eq]
      omega
  · rw [if_pos (by simp [h1]), decide_eq_true_eq]
    omega
theorem ahead_irrefl (a : Lab) : a.ahead a = false := by
  cases h : a.ahead a
  · rfl
  · have := (ahead_iff a a).1 h
    omega
theorem ahead_trans {a b c : Lab} (h : a.ahead b = true) (k : b.ahead c = true) : a.ahead c = true := by
  rw [ahead_iff] at *
  omega
theorem ahead_asymm {a b : Lab} (h : a.ahead b = true) : b.ahead a = false := by
  cases e : b.ahead a
  · rfl
  · have := ahead_trans h e
    rw [ahead_irrefl] at this
    cases this
theorem ahead_ne {a b : Lab} (h : a.ahead b = true) : a ≠ b := fun e => by
  subst e
  rw [ahead_irrefl] at h
  cases h
theorem ahead_total {a b : Lab} (hne : a ≠ b) (h : a.ahead b = false) : b.ahead a = true := by
  have h1 : ¬ a.ahead b = true := by simp [h]
  rw [ahead_iff] at h1 ⊢
  have h2 : ¬ (a.l = b.l ∧ a.c = b.c ∧ a.i = b.i) := fun e => hne (Lab.ext e.1 e.2.1 e.2.2)
  omega
/-- What Compare tells. -/
theorem cmp_lt (a b : Lab) : decide (a.cmp b < 0) = a.ahead b := by
  unfold Lab.cmp
  by_cases h : a.same b = true
  · rw [if_pos h]
    have := (Lab.same_iff a b).1 h
    subst this
    rw [ahead_irrefl]
    rfl
  · rw [if_neg h]
    cases e : a.ahead b <;> simp
theorem cmp_ge (a b : Lab) : decide (a.cmp b ≥ 0) = !a.ahead b := by
  rw [← cmp_lt]
  by_cases h : a.cmp b < 0
  · rw [decide_eq_true h, decide_eq_false (by omega)]; rfl
  · rw [decide_eq_false h, decide_eq_true (by omega)]; rfl
theorem cmp_le (a b : Lab) : decide (a.cmp b ≤ 0) = (a.ahead b || decide (a = b)) := by
  unfold Lab.cmp
  by_cases h : a.same b = true
  · rw [if_pos h]
    have := (Lab.same_iff a b).1 h
    subst this
    simp
  · rw [if_neg h]
    have hne : a ≠ b := fun e => h ((Lab.same_iff a b).2 e)
    rw [decide_eq_false hne, Bool.or_false]
    cases e : a.ahead b <;> simp

/-- Is the next part right? -/
def aheadO : Option Lab → Lab → Bool
  | none, _ => true
  | some b, a => b.ahead a
def nextW (p : Option Lab) (x : Pt) : Bool := x.a.right && (!x.l.isEmpty && (rightB x.l && aheadO p x.a))
def goodW : Option Lab → List Pt → Bool
  | _, [] => true
  | p, x :: r => nextW p x && goodW (some x.a) r
def rightW (w : List Pt) : Bool := goodW none w
theorem nextW_iff {p : Option Lab} {x : Pt} : nextW p x = true ↔ x.a.right = true ∧ x.l ≠ [] ∧ rightB x.l = true ∧ aheadO p x.a = true := by
  unfold nextW
  simp only [Bool.and_eq_true, Bool.not_eq_true', List.isEmpty_eq_false_iff]
theorem goodW_cons {p : Option Lab} {x : Pt} {r : List Pt} : goodW p (x :: r) = true ↔ (x.a.right = true ∧ x.l ≠ [] ∧ rightB x.l = true ∧ aheadO p x.a = true) ∧ goodW (some x.a) r = true := by
  rw [show goodW p (x :: r) = (nextW p x && goodW (some x.a) r) from rfl, Bool.and_eq_true, nextW_iff]
/-- The last one's label. -/
def lastW (p : Option Lab) : List Pt → Option Lab
  | [] => p
  | x :: r => lastW (some x.a) r
theorem lastW_snoc (p : Option Lab) (q : List Pt) (x : Pt) : lastW p (q ++ [x]) = some x.a := by
  induction q generalizing p with
  | nil => rfl
  | cons y r ih => exact ih (some y.a)
theorem goodW_append (p : Option Lab) (q r : List Pt) : goodW p (q ++ r) = (goodW p q && goodW (lastW p q) r) := by
  induction q generalizing p with
  | nil => simp [goodW, lastW]
  | cons x t ih => simp only [List.cons_append, goodW, lastW, ih, Bool.and_assoc]
theorem goodW_snoc (p : Option Lab) (q : List Pt) (x : Pt) : goodW p (q ++ [x]) = (goodW p q && nextW (lastW p q) x) := by
  rw [goodW_append]
  simp [goodW]
theorem goodW_stop {p : Option Lab} {q r : List Pt} {x : Pt} (h : nextW (lastW p q) x = false) : goodW p (q ++ x :: r) = false := by
  rw [goodW_append]
  have : goodW (lastW p q) (x :: r) = (nextW (lastW p q) x && goodW (some x.a) r) := rfl
  rw [this, h]
  simp
theorem goodW_weak {p : Option Lab} {b : Lab} {r : List Pt} (hr : goodW (some b) r = true) (h : aheadO p b = true) : goodW p r = true := by
  cases r with
  | nil => rfl
  | cons x t =>
    obtain ⟨⟨h1, h2, h3, h4⟩, h5⟩ := goodW_cons.1 hr
    refine goodW_cons.2 ⟨⟨h1, h2, h3, ?_⟩, h5⟩
    cases p with
    | none => rfl
    | some c => exact ahead_trans h h4
theorem goodW_mem {p : Option Lab} {r : List Pt} (h : goodW p r = true) : ∀ x ∈ r, x.a.right = true ∧ x.l ≠ [] ∧ rightB x.l = true ∧ aheadO p x.a = true := by
  induction r generalizing p with
  | nil => intro x hx; cases hx
  | cons y t ih =>
    intro x hx
    obtain ⟨h1, h5⟩ := goodW_cons.1 h
    rcases List.mem_cons.1 hx with rfl | hx
    · exact h1
    · exact ih (goodW_weak h5 h1.2.2.2) x hx
/-- All behind a label. -/
theorem goodW_behind {b : Lab} {r : List Pt} (h : goodW (some b) r = true) : ∀ x ∈ r, b.ahead x.a = true := fun x hx => (goodW_mem h x hx).2.2.2

/-- The space of a label. -/
def lookW : List Pt → Lab → List Ob
  | [], _ => []
  | x :: r, a => if x.a = a then x.l else lookW r a
def getW (w : List Pt) (a : Lab) : List Ob := if rightW w then lookW w a else []
theorem look_none {w : List Pt} {a : Lab} (h : ∀ x ∈ w, x.a ≠ a) : lookW w a = [] := by
  induction w with
  | nil => rfl
  | cons x r ih =>
    unfold lookW
    rw [if_neg (h x (by simp))]
    exact ih fun y hy => h y (by simp [hy])
/-- A label's space put in place. -/
def putW : List Pt → Lab → List Ob → List Pt
  | [], a, l => if l.isEmpty then [] else [⟨a, l⟩]
  | x :: r, a, l => if x.a = a then (if l.isEmpty then r else ⟨a, l⟩ :: r) else if a.ahead x.a then (if l.isEmpty then x :: r else ⟨a, l⟩ :: x :: r) else x :: putW r a l
/-- What Set tells. -/
def setW (w : List Pt) (a : Lab) (l : List Ob) : Int × List Pt :=
  if rightW w = false ∨ rightB l = false then (110, []) else if a.right = false then (20, []) else (0, putW w a l)
theorem set_ok {w : List Pt} {a : Lab} {l : List Ob} (h1 : rightW w = true) (h2 : rightB l = true) (h3 : a.right = true) : setW w a l = (0, putW w a l) := by
  unfold setW
  rw [if_neg (by simp [h1, h2]), if_neg (by simp [h3])]
theorem set_some {w y : List Pt} {a : Lab} {l : List Ob} (h : setW w a l = (0, y)) : rightW w = true ∧ rightB l = true ∧ a.right = true ∧ y = putW w a l := by
  unfold setW at h
  split at h
  · cases h
  rename_i h1
  split at h
  · cases h
  rename_i h2
  have h3 : rightW w = true := by cases e : rightW w; exact absurd (.inl e) h1; rfl
  have h4 : rightB l = true := by cases e : rightB l; exact absurd (.inr e) h1; rfl
  exact ⟨h3, h4, by simpa using h2, (Prod.mk.inj h).2.symm⟩
theorem set_none {w y : List Pt} {a : Lab} {l : List Ob} {c : Int} (h : setW w a l = (c, y)) (hc : c ≠ 0) : y = [] ∧ (c = 110 ∨ c = 20) := by
  unfold setW at h
  split at h
  · exact ⟨(Prod.mk.inj h).2.symm, .inl (Prod.mk.inj h).1.symm⟩
  split at h
  · exact ⟨(Prod.mk.inj h).2.symm, .inr (Prod.mk.inj h).1.symm⟩
  · exact absurd (Prod.mk.inj h).1.symm hc
theorem put_good {p : Option Lab} {w : List Pt} {a : Lab} {l : List Ob} (h : goodW p w = true) (hl : rightB l = true) (ha : a.right = true) (hp : aheadO p a = true) : goodW p (putW w a l) = true := by
  induction w generalizing p with
  | nil =>
    unfold putW
    split
    · rfl
    · rename_i he
      exact goodW_cons.2 ⟨⟨ha, by simpa using he, hl, hp⟩, rfl⟩
  | cons x r ih =>
    obtain ⟨h1, h5⟩ := goodW_cons.1 h
    unfold putW
    by_cases e : x.a = a
    · rw [if_pos e]
      subst e
      split
      · exact goodW_weak h5 h1.2.2.2
      · rename_i he
        exact goodW_cons.2 ⟨⟨ha, by simpa using he, hl, hp⟩, h5⟩
    · rw [if_neg e]
      by_cases hb : a.ahead x.a = true
      · rw [if_pos hb]
        split
        · exact h
        · rename_i he
          exact goodW_cons.2 ⟨⟨ha, by simpa using he, hl, hp⟩, goodW_cons.2 ⟨⟨h1.1, h1.2.1, h1.2.2.1, hb⟩, h5⟩⟩
      · rw [if_neg hb]
        exact goodW_cons.2 ⟨h1, ih h5 (ahead_total (fun q => e q.symm) (by simpa using hb))⟩
theorem put_right {w : List Pt} {a : Lab} {l : List Ob} (h : rightW w = true) (hl : rightB l = true) (ha : a.right = true) : rightW (putW w a l) = true := put_good h hl ha rfl
theorem look_put {p : Option Lab} {w : List Pt} {a : Lab} {l : List Ob} (h : goodW p w = true) : lookW (putW w a l) a = l := by
  induction w generalizing p with
  | nil =>
    unfold putW
    cases l with
    | nil => rfl
    | cons o r => simp [lookW]
  | cons x r ih =>
    obtain ⟨h1, h5⟩ := goodW_cons.1 h
    unfold putW
    by_cases e : x.a = a
    · rw [if_pos e]
      cases l with
      | nil => exact look_none fun y hy => e ▸ (fun q => ahead_ne (goodW_behind h5 y hy) q.symm)
      | cons o s => simp [lookW]
    · rw [if_neg e]
      by_cases hb : a.ahead x.a = true
      · rw [if_pos hb]
        cases l with
        | nil =>
          refine look_none fun y hy => ?_
          rcases List.mem_cons.1 hy with rfl | hy
          · exact e
          · exact fun q => ahead_ne (ahead_trans hb (goodW_behind h5 y hy)) q.symm
        | cons o s => simp [lookW]
      · rw [if_neg hb]
        show (if x.a = a then x.l else lookW (putW r a l) a) = l
        rw [if_neg e]
        exact ih h5
theorem look_other (w : List Pt) {a b : Lab} (l : List Ob) (hne : b ≠ a) : lookW (putW w a l) b = lookW w b := by
  induction w with
  | nil =>
    unfold putW
    cases l with
    | nil => rfl
    | cons o r => simp [lookW, Ne.symm hne]
  | cons x r ih =>
    unfold putW
    by_cases e : x.a = a
    · rw [if_pos e]
      have e2 : x.a ≠ b := fun q => hne (q.symm.trans e)
      cases l with
      | nil => show lookW r b = (if x.a = b then x.l else lookW r b); rw [if_neg e2]
      | cons o s => show (if a = b then _ else lookW r b) = (if x.a = b then x.l else lookW r b); rw [if_neg e2, if_neg (Ne.symm hne)]
    · rw [if_neg e]
      by_cases hb : a.ahead x.a = true
      · rw [if_pos hb]
        cases l with
        | nil => rfl
        | cons o s => show (if a = b then _ else lookW (x :: r) b) = lookW (x :: r) b; rw [if_neg (Ne.symm hne)]
      · rw [if_neg hb]
        show (if x.a = b then x.l else lookW (putW r a l) b) = (if x.a = b then x.l else lookW r b)
        rw [ih]
/-- What was there, set again. -/
theorem put_back {p : Option Lab} {w : List Pt} {a : Lab} (l : List Ob) (h : goodW p w = true) : putW (putW w a l) a (lookW w a) = w := by
  induction w generalizing p with
  | nil =>
    cases l with
    | nil => rfl
    | cons o r => simp [putW, lookW]
  | cons x r ih =>
    obtain ⟨h1, h5⟩ := goodW_cons.1 h
    by_cases e : x.a = a
    · have hx : x = ⟨a, x.l⟩ := Pt.ext e rfl
      have hlk : lookW (x :: r) a = x.l := by unfold lookW; rw [if_pos e]
      have hxe : x.l.isEmpty = false := by simpa using h1.2.1
      rw [hlk]
      have hput : putW (x :: r) a l = if l.isEmpty then r else ⟨a, l⟩ :: r := by
        rw [show putW (x :: r) a l = (if x.a = a then (if l.isEmpty then r else ⟨a, l⟩ :: r) else if a.ahead x.a then (if l.isEmpty then x :: r else ⟨a, l⟩ :: x :: r) else x :: putW r a l) from rfl, if_pos e]
      rw [hput]
      cases l with
      | cons o s =>
        show (if a = a then (if x.l.isEmpty then r else ⟨a, x.l⟩ :: r) else _) = x :: r
        rw [if_pos rfl, hxe, if_neg (by simp), ← hx]
      | nil =>
        show putW r a x.l = x :: r
        cases r with
        | nil =>
          show (if x.l.isEmpty then [] else [⟨a, x.l⟩]) = [x]
          rw [hxe, if_neg (by simp), ← hx]
        | cons y t =>
          have hy := goodW_behind h5 y (by simp)
          rw [e] at hy
          show (if y.a = a then _ else if a.ahead y.a then (if x.l.isEmpty then y :: t else ⟨a, x.l⟩ :: y :: t) else _) = x :: y :: t
          rw [if_neg (fun q => ahead_ne hy q.symm), if_pos hy, hxe, if_neg (by simp), ← hx]
    · by_cases hb : a.ahead x.a = true
      · have hlk : lookW (x :: r) a = [] := look_none fun y hy => by
          rcases List.mem_cons.1 hy with rfl | hy
          · exact e
          · exact fun q => ahead_ne (ahead_trans hb (goodW_behind h5 y hy)) q.symm
        rw [hlk]
        have hput : putW (x :: r) a l = if l.isEmpty then x :: r else ⟨a, l⟩ :: x :: r := by
          rw [show putW (x :: r) a l = (if x.a = a then (if l.isEmpty then r else ⟨a, l⟩ :: r) else if a.ahead x.a then (if l.isEmpty then x :: r else ⟨a, l⟩ :: x :: r) else x :: putW r a l) from rfl, if_neg e, if_pos hb]
        rw [hput]
        cases l with
        | nil =>
          show (if x.a = a then _ else if a.ahead x.a then (if ([] : List Ob).isEmpty then x :: r else _) else _) = x :: r
          rw [if_neg e, if_pos hb]
          rfl
        | cons o s =>
          show (if a = a then (if ([] : List Ob).isEmpty then x :: r else _) else _) = x :: r
          rw [if_pos rfl]
          rfl
      · have hlk : lookW (x :: r) a = lookW r a := by rw [show lookW (x :: r) a = (if x.a = a then x.l else lookW r a) from rfl, if_neg e]
        have hput : ∀ t m, putW (x :: t) a m = x :: putW t a m := fun t m => by
          rw [show putW (x :: t) a m = (if x.a = a then (if m.isEmpty then t else ⟨a, m⟩ :: t) else if a.ahead x.a then (if m.isEmpty then x :: t else ⟨a, m⟩ :: x :: t) else x :: putW t a m) from rfl, if_neg e, if_neg hb]
        rw [hlk, hput, hput, ih h5]
/-- The parts under a label. -/
def seenW (w : List Pt) (a : Lab) : List Pt := w.filter fun x => x.a.under a
theorem seen_put (w : List Pt) {a b : Lab} (l : List Ob) (h : a.under b = false) : seenW (putW w a l) b = seenW w b := by
  unfold seenW
  induction w with
  | nil =>
    unfold putW
    cases l with
    | nil => rfl
    | cons o r => simp [h]
  | cons x r ih =>
    unfold putW
    by_cases e : x.a = a
    · rw [if_pos e]
      have hx : x.a.under b = false := e ▸ h
      cases l with
      | nil => simp [hx]
      | cons o s => simp [h, hx]
    · rw [if_neg e]
      by_cases hb : a.ahead x.a = true
      · rw [if_pos hb]
        cases l with
        | nil => simp
        | cons o s => simp [h]
      · rw [if_neg hb]
        simp only [List.filter_cons, ih]
theorem seen_under {w : List Pt} {a : Lab} : ∀ x ∈ seenW w a, x.a.under a = true := fun _x hx => (List.mem_filter.1 hx).2
/-- Within a quota. -/
def withinW (w : List Pt) (q : Int) : Bool := w.all (fun x => decide (costR x.l ≤ q)) && rightW w
theorem within_mono {w : List Pt} {q r : Int} (h : withinW w q = true) (hq : q ≤ r) : withinW w r = true := by
  unfold withinW at *
  rw [Bool.and_eq_true, List.all_eq_true] at *
  refine ⟨fun x hx => ?_, h.2⟩
  have := h.1 x hx
  rw [decide_eq_true_eq] at *
  omega
theorem look_mem {p : Option Lab} {w : List Pt} (h : goodW p w = true) : ∀ x ∈ w, lookW w x.a = x.l := by
  induction w generalizing p with
  | nil => intro x hx; cases hx
  | cons y r ih =>
    intro x hx
    obtain ⟨h1, h5⟩ := goodW_cons.1 h
    rcases List.mem_cons.1 hx with rfl | hx
    · unfold lookW; rw [if_pos rfl]
    · have := goodW_behind h5 x hx
      show (if y.a = x.a then y.l else lookW r x.a) = x.l
      rw [if_neg (ahead_ne this)]
      exact ih h5 x hx
end Go.Proofs.Wld
namespace Go.Proofs.Wld
open Go.Proofs.Cats Go.Proofs.Rng Go.Proofs.Spc
theorem stopW {l : List Pt} {k : Nat} {y : Pt} (hy : l[k]? = some y) (hn : nextW (lastW none (l.take k)) y = false) : rightW l = false := by
  have hk := (List.getElem?_eq_some_iff.1 hy).1
  have e : l = l.take k ++ y :: l.drop (k + 1) := by
    have := List.take_append_drop k l
    rw [List.drop_eq_getElem_cons hk, (List.getElem?_eq_some_iff.1 hy).2] at this
    exact this.symm
  unfold rightW
  rw [e]
  exact goodW_stop hn
theorem stepW {l : List Pt} {k : Nat} {y : Pt} (hy : l[k]? = some y) (h : goodW none (l.take k) = true) (hn : nextW (lastW none (l.take k)) y = true) : goodW none (l.take (k + 1)) = true := by
  rw [List.take_add_one, hy]
  show goodW none (l.take k ++ [y]) = true
  rw [goodW_snoc, h, hn]
  rfl
theorem lastW_take {l : List Pt} {j k : Nat} {p : Pt} (hj : j + 1 = k) (hp : l[j]? = some p) : lastW none (l.take k) = some p.a := by
  subst hj
  rw [List.take_add_one, hp]
  exact lastW_snoc _ _ _
theorem next_n1 {p : Option Lab} {y : Pt} (h : y.a.right = false) : nextW p y = false := by unfold nextW; rw [h, Bool.false_and]
theorem next_n2 {p : Option Lab} {y : Pt} (h : y.l = []) : nextW p y = false := by unfold nextW; rw [h]; simp
theorem next_n3 {p : Option Lab} {y : Pt} (h : rightB y.l = false) : nextW p y = false := by unfold nextW; rw [h]; simp
theorem next_n4 {b : Lab} {y : Pt} (h : b.ahead y.a = false) : nextW (some b) y = false := by
  have h2 : aheadO (some b) y.a = false := h
  unfold nextW
  rw [h2]
  simp
theorem next_y0 {y : Pt} (h1 : y.a.right = true) (h2 : y.l ≠ []) (h3 : rightB y.l = true) : nextW none y = true := nextW_iff.2 ⟨h1, h2, h3, rfl⟩
theorem next_y1 {b : Lab} {y : Pt} (h1 : y.a.right = true) (h2 : y.l ≠ []) (h3 : rightB y.l = true) (h4 : b.ahead y.a = true) : nextW (some b) y = true := nextW_iff.2 ⟨h1, h2, h3, h4⟩
end Go.Proofs.Wld

/- What the document's Set comes to: plain facts. -/
namespace Go.Proofs.Wld
open Go.Proofs.Cats Go.Proofs.Rng Go.Proofs.Spc
/-- Is a not behind b? -/
def leL (a b : Lab) : Bool := decide (a.cmp b ≤ 0)
theorem leL_same (a : Lab) : leL a a = true := by unfold leL; rw [cmp_le]; simp
theorem leL_ahead {a b : Lab} (h : a.ahead b = true) : leL a b = true := by unfold leL; rw [cmp_le, h]; rfl
theorem leL_behind {a b : Lab} (h : b.ahead a = true) : leL a b = false := by
  unfold leL
  rw [cmp_le, ahead_asymm h, Bool.false_or]
  exact decide_eq_false (fun e => ahead_ne h e.symm)
theorem leL_not {a b : Lab} (h : leL a b = false) : b ≠ a := fun e => by
  subst e
  rw [leL_same] at h
  cases h
/-- The loop of the document's Set. -/
def setGo (a : Lab) (l : List Ob) : Bool → List Pt → List Pt
  | d, [] => if d then [] else [⟨a, l⟩]
  | d, x :: r => (if !d && leL a x.a then [⟨a, l⟩] else []) ++ ((if x.a.same a then [] else [x]) ++ setGo a l (d || leL a x.a) r)
theorem setGo_true {a : Lab} {l : List Ob} {w : List Pt} (h : ∀ x ∈ w, x.a ≠ a) : setGo a l true w = w := by
  induction w with
  | nil => rfl
  | cons x r ih =>
    have h1 : x.a.same a = false := by
      cases e : x.a.same a
      · rfl
      · exact absurd ((Lab.same_iff _ _).1 e) (h x (by simp))
    unfold setGo
    rw [h1, Bool.true_or, ih fun y hy => h y (by simp [hy])]
    simp
theorem setGo_put {p : Option Lab} {w : List Pt} {a : Lab} {l : List Ob} (h : goodW p w = true) : setGo a l l.isEmpty w = putW w a l := by
  induction w generalizing p with
  | nil =>
    unfold setGo putW
    rfl
  | cons x r ih =>
    obtain ⟨h1, h5⟩ := goodW_cons.1 h
    unfold setGo putW
    by_cases e : x.a = a
    · have hs : x.a.same a = true := (Lab.same_iff _ _).2 e
      have hl : leL a x.a = true := by rw [e]; exact leL_same a
      rw [if_pos e, hs, hl, Bool.or_true, setGo_true fun y hy q => ahead_ne (goodW_behind h5 y hy) (e.trans q.symm)]
      cases l <;> simp
    · have hs : x.a.same a = false := by
        cases q : x.a.same a
        · rfl
        · exact absurd ((Lab.same_iff _ _).1 q) e
      rw [if_neg e, hs]
      by_cases hb : a.ahead x.a = true
      · rw [if_pos hb, leL_ahead hb, Bool.or_true, setGo_true fun y hy q => ahead_ne (ahead_trans hb (goodW_behind h5 y hy)) q.symm]
        cases l <;> simp
      · have hx := ahead_total (fun q => e q.symm) (by simpa using hb)
        rw [if_neg hb, leL_behind hx, Bool.or_false, ih h5]
        simp
theorem setGo_step {a : Lab} {l : List Ob} {d : Bool} {w : List Pt} {k : Nat} {x : Pt} (hx : w[k]? = some x) : setGo a l d (w.drop k) = (if !d && leL a x.a then [⟨a, l⟩] else []) ++ ((if x.a.same a then [] else [x]) ++ setGo a l (d || leL a x.a) (w.drop (k + 1))) := by
  obtain ⟨hk, rfl⟩ := List.getElem?_eq_some_iff.1 hx
  rw [List.drop_eq_getElem_cons hk]
  rfl
theorem put_length (w : List Pt) (a : Lab) (l : List Ob) : (putW w a l).length ≤ w.length + 1 := by
  induction w with
  | nil => unfold putW; split <;> simp
  | cons x r ih =>
    unfold putW
    split
    · split <;> (simp only [List.length_cons]; omega)
    · split
      · split <;> (simp only [List.length_cons]; omega)
      · simp only [List.length_cons]; omega
theorem put_mem {w : List Pt} {a : Lab} {l : List Ob} : ∀ x ∈ putW w a l, x ∈ w ∨ x = ⟨a, l⟩ := by
  induction w with
  | nil =>
    intro x hx
    unfold putW at hx
    split at hx
    · cases hx
    · exact .inr (by simpa using hx)
  | cons y r ih =>
    intro x hx
    unfold putW at hx
    split at hx
    · split at hx
      · exact .inl (by simp [hx])
      · rcases List.mem_cons.1 hx with q | q
        · exact .inr q
        · exact .inl (by simp [q])
    · split at hx
      · split at hx
        · exact .inl hx
        · rcases List.mem_cons.1 hx with q | q
          · exact .inr q
          · exact .inl q
      · rcases List.mem_cons.1 hx with q | q
        · exact .inl (by simp [q])
        · rcases ih x q with z | z
          · exact .inl (by simp [z])
          · exact .inr z
theorem setW_1 {w : List Pt} {a : Lab} {l : List Ob} (h : rightW w = false) : setW w a l = (110, []) := by unfold setW; rw [if_pos (.inl h)]
theorem setW_2 {w : List Pt} {a : Lab} {l : List Ob} (h : rightB l = false) : setW w a l = (110, []) := by unfold setW; rw [if_pos (.inr h)]
theorem setW_3 {w : List Pt} {a : Lab} {l : List Ob} (h1 : rightW w = true) (h2 : rightB l = true) (h : a.right = false) : setW w a l = (20, []) := by unfold setW; rw [if_neg (by simp [h1, h2]), if_pos h]
end Go.Proofs.Wld

/- P11.3: two labels' spaces, set either way about; a world is what its labels show. -/
namespace Go.Proofs.Wld
open Go.Proofs.Cats Go.Proofs.Rng Go.Proofs.Spc
theorem look_head {x : Pt} {r : List Pt} : lookW (x :: r) x.a = x.l := by
  unfold lookW
  rw [if_pos rfl]
theorem look_tail {x : Pt} {r : List Pt} {a : Lab} (h : x.a ≠ a) : lookW (x :: r) a = lookW r a := by
  conv => lhs; unfold lookW
  rw [if_neg h]
theorem look_behind {a : Lab} {r : List Pt} (h : goodW (some a) r = true) : lookW r a = [] := look_none fun x hx e => ahead_ne (goodW_behind h x hx) e.symm
/-- A right world is what its labels show. -/
theorem look_ext {p q : Option Lab} {w v : List Pt} (hw : goodW p w = true) (hv : goodW q v = true) (h : ∀ a, lookW w a = lookW v a) : w = v := by
  induction w generalizing p q v with
  | nil =>
    cases v with
    | nil => rfl
    | cons y s =>
      have := h y.a
      rw [look_head] at this
      exact absurd this.symm (goodW_cons.1 hv).1.2.1
  | cons x r ih =>
    obtain ⟨h1, h5⟩ := goodW_cons.1 hw
    cases v with
    | nil =>
      have := h x.a
      rw [look_head] at this
      exact absurd this h1.2.1
    | cons y s =>
      obtain ⟨k1, k5⟩ := goodW_cons.1 hv
      by_cases e : x.a = y.a
      · have hl : x.l = y.l := by
          have := h x.a
          rw [look_head, e, look_head] at this
          exact this
        obtain rfl : x = y := Pt.ext e hl
        rw [ih h5 k5 fun a => ?_]
        by_cases ea : x.a = a
        · subst ea
          rw [look_behind h5, look_behind k5]
        · have := h a
          rwa [look_tail ea, look_tail ea] at this
      · exfalso
        by_cases ha : x.a.ahead y.a = true
        · have := h x.a
          rw [look_head, look_none fun z hz => ?_] at this
          · exact h1.2.1 this
          · rcases List.mem_cons.1 hz with rfl | hz
            · exact fun q => e q.symm
            · exact fun q => ahead_ne (ahead_trans ha (goodW_behind k5 z hz)) q.symm
        · have hb : y.a.ahead x.a = true := ahead_total e (by simpa using ha)
          have := h y.a
          rw [look_head, look_none fun z hz => ?_] at this
          · exact k1.2.1 this.symm
          · rcases List.mem_cons.1 hz with rfl | hz
            · exact e
            · exact fun q => ahead_ne (ahead_trans hb (goodW_behind h5 z hz)) q.symm
theorem put_turns {w : List Pt} {a b : Lab} {l m : List Ob} (h : rightW w = true) (hl : rightB l = true) (hm : rightB m = true) (ha : a.right = true) (hb : b.right = true) (hne : a ≠ b) : putW (putW w a l) b m = putW (putW w b m) a l := by
  have r1 := put_right h hl ha
  have r2 := put_right h hm hb
  refine look_ext (put_right r1 hm hb) (put_right r2 hl ha) fun c => ?_
  by_cases e1 : c = b
  · subst e1
    rw [look_put r1, look_other _ _ (Ne.symm hne), look_put h]
  · by_cases e2 : c = a
    · subst e2
      rw [look_other _ _ e1, look_put h, look_put r2]
    · rw [look_other _ _ e1, look_other _ _ e2, look_other _ _ e2, look_other _ _ e1]








/-- If one way about fails, so does the other. -/
theorem set_turns {w : List Pt} {a b : Lab} {l m : List Ob} (h : (setW w a l).1 = 0 ∧ (setW (setW w a l).2 b m).1 = 0) : (setW w b m).1 = 0 ∧ (setW (setW w b m).2 a l).1 = 0 ∧ (a ≠ b → (setW (setW w b m).2 a l).2 = (setW (setW w a l).2 b m).2) := by
  obtain ⟨h1, h2⟩ := h
  obtain ⟨r1, r2, r3, r4⟩ := set_some (w := w) (a := a) (l := l) (y := (setW w a l).2) (Prod.ext h1 rfl)
  obtain ⟨_, s2, s3, s4⟩ := set_some (w := (setW w a l).2) (a := b) (l := m) (y := (setW (setW w a l).2 b m).2) (Prod.ext h2 rfl)
  rw [set_ok r1 s2 s3]
  dsimp only
  rw [set_ok (put_right r1 s2 s3) r2 r3]
  refine ⟨rfl, rfl, fun hne => ?_⟩
  dsimp only
  rw [s4, r4, put_turns r1 r2 s2 r3 s3 hne]
end Go.Proofs.Wld
