/- Ceilings as plain facts on labels: where one floats to, what one may, what is missing: P12.1 to P12.3. -/
import Derived.Test.YtciohfeifihobaaDoorLbA
import Derived.Test.YtciohfeifihobaaDoorLbB
namespace Go.Proofs.Cel
open Go.Proofs.Cats Go.Proofs.YtciohfeifihobaaDoor

/-- Float. -/
def floatL (cur a high : Lab) : Int × Lab :=
  if (cur.right && a.right && high.right) = true then (if (cur.join a).under high = true then (0, cur.join a) else (120, Lab.zero)) else (20, Lab.zero)
/-- Path, between two labels. -/
def pathGo (high : Lab) : Lab → Nat → List Lab → Int × Nat × Lab
  | cur, n, [] => (0, n, cur)
  | cur, n, a :: r => if (cur.join a).under high = true then pathGo high (cur.join a) (n + 1) r else (120, n, cur)
def pathL (cur : Lab) (l : List Lab) (high : Lab) : Int × Nat × Lab :=
  if (cur.right && high.right && l.all Lab.right) = true then pathGo high cur 0 l else (20, 0, Lab.zero)
def readsL (cur a : Lab) : Bool := a.under cur
def writesL (cur a : Lab) : Bool := a.right && a.same cur
def sendL (cur a : Lab) : Int × Bool :=
  if (cur.right && a.right) = true then (if cur.under a = true then (0, !cur.same a) else (121, false)) else (20, false)
def gapL (cur a : Lab) : Lab := ⟨if cur.l < a.l then a.l else 0, lessN a.c cur.c, if a.i < cur.i then a.i else 7⟩
def gainL (cur a : Lab) : Int × Lab := if (cur.right && a.right) = true then (0, gapL cur a) else (20, Lab.zero)

theorem right3 {a b c : Lab} : (a.right && b.right && c.right) = true ↔ a.right = true ∧ b.right = true ∧ c.right = true := by
  rw [Bool.and_eq_true, Bool.and_eq_true, and_assoc]
theorem float_ok {cur a high : Lab} (h : (cur.right && a.right && high.right) = true) (k : (cur.join a).under high = true) : floatL cur a high = (0, cur.join a) := by
  unfold floatL
  rw [if_pos h, if_pos k]
theorem float_high {cur a high : Lab} (h : (cur.right && a.right && high.right) = true) (k : (cur.join a).under high = false) : floatL cur a high = (120, Lab.zero) := by
  unfold floatL
  rw [if_pos h, if_neg (by simp [k])]
theorem float_bad {cur a high : Lab} (h : (cur.right && a.right && high.right) = false) : floatL cur a high = (20, Lab.zero) := by
  unfold floatL
  rw [if_neg (by simp [h])]
theorem float_some {cur a high x : Lab} (h : floatL cur a high = (0, x)) : cur.right = true ∧ a.right = true ∧ high.right = true ∧ (cur.join a).under high = true ∧ x = cur.join a := by
  unfold floatL at h
  split at h
  · rename_i h1
    obtain ⟨r1, r2, r3⟩ := right3.1 h1
    split at h
    · rename_i h2
      exact ⟨r1, r2, r3, h2, (Prod.mk.inj h).2.symm⟩
    · cases h
  · cases h
theorem float_none {cur a high x : Lab} {c : Int} (h : floatL cur a high = (c, x)) (hc : c ≠ 0) : x = Lab.zero ∧ (c = 20 ∨ (c = 120 ∧ cur.right = true ∧ a.right = true ∧ (cur.join a).under high = false)) := by
  unfold floatL at h
  split at h
  · rename_i h1
    obtain ⟨r1, r2, _⟩ := right3.1 h1
    split at h
    · exact absurd (Prod.mk.inj h).1.symm hc
    · rename_i h2
      exact ⟨(Prod.mk.inj h).2.symm, .inr ⟨(Prod.mk.inj h).1.symm, r1, r2, by simpa using h2⟩⟩
  · exact ⟨(Prod.mk.inj h).2.symm, .inl (Prod.mk.inj h).1.symm⟩
theorem join_idem (a b : Lab) : (a.join b).join b = a.join b := Lab.ext (by simp only [Lab.join]; omega) (by simp only [Lab.join]; rw [Nat.or_assoc, Nat.or_self]) (by simp only [Lab.join]; omega)
theorem float_fits {cur a high x : Lab} {c : Int} (h : floatL cur a high = (c, x)) (hc : cur.fits) (ha : a.fits) : x.fits := by
  by_cases h0 : c = 0
  · subst h0
    rw [(float_some h).2.2.2.2]
    exact hc.join ha
  · rw [(float_none h h0).1]
    exact fits_zero
/-- P12.3: who floats never comes down. -/
theorem rises_yes {cur a high x : Lab} (hc : cur.fits) (ha : a.fits) (_hh : high.fits) (h : floatL cur a high = (0, x)) : cur.under x = true ∧ a.under x = true ∧ x.under high = true ∧ readsL x a = true ∧ floatL x a high = (0, x) := by
  obtain ⟨r1, r2, r3, k, rfl⟩ := float_some h
  refine ⟨under_joinL hc ha r1 r2, under_joinR hc ha r1 r2, k, under_joinR hc ha r1 r2, ?_⟩
  have := float_ok (cur := cur.join a) (a := a) (high := high) (right3.2 ⟨Lab.right_join r1 r2, r2, r3⟩) (by rw [join_idem]; exact k)
  rw [this, join_idem]
theorem rises_no {cur a high x : Lab} {c : Int} (hc : cur.fits) (ha : a.fits) (hh : high.fits) (h : floatL cur a high = (c, x)) (h0 : c ≠ 0) : x = Lab.zero ∧ (c = 20 ∨ (c = 120 ∧ (cur.under high && a.under high) = false)) := by
  obtain ⟨h1, h2⟩ := float_none h h0
  refine ⟨h1, ?_⟩
  rcases h2 with h2 | ⟨h2, r1, r2, k⟩
  · exact .inl h2
  · refine .inr ⟨h2, ?_⟩
    cases e1 : cur.under high
    · rfl
    · cases e2 : a.under high
      · rfl
      · rw [join_under hc ha hh e1 e2] at k
        cases k

theorem sendL_ok {cur a : Lab} (h : (cur.right && a.right) = true) (k : cur.under a = true) : sendL cur a = (0, !cur.same a) := by
  unfold sendL
  rw [if_pos h, if_pos k]
theorem sendL_down {cur a : Lab} (h : (cur.right && a.right) = true) (k : cur.under a = false) : sendL cur a = (121, false) := by
  unfold sendL
  rw [if_pos h, if_neg (by simp [k])]
theorem sendL_bad {cur a : Lab} (h : (cur.right && a.right) = false) : sendL cur a = (20, false) := by
  unfold sendL
  rw [if_neg (by simp [h])]
theorem under_rights {a b : Lab} (h : a.under b = true) : (a.right && b.right) = true := by
  cases e : (a.right && b.right)
  · rw [under_not e] at h
    cases h
  · rfl
/-- To send is just to be under. -/
theorem send_iff {cur a : Lab} : (sendL cur a).1 = 0 ↔ cur.under a = true := by
  constructor
  · intro h
    unfold sendL at h
    split at h
    · split at h
      · rename_i k
        exact k
      · cases h
    · cases h
  · intro h
    rw [sendL_ok (under_rights h) h]
theorem send_blind {cur a : Lab} (h : cur.under a = true) : sendL cur a = (0, !cur.same a) := sendL_ok (under_rights h) h
theorem writes_iff {cur a : Lab} : writesL cur a = true ↔ a.right = true ∧ a = cur := by
  unfold writesL
  rw [Bool.and_eq_true, Lab.same_iff]
theorem writes_reads {cur a : Lab} (ha : a.fits) (h : writesL cur a = true) : readsL cur a = true ∧ sendL cur a = (0, false) ∧ cur = a := by
  obtain ⟨r, rfl⟩ := writes_iff.1 h
  have hu : a.under a = true := by rw [under_refl a ha]; exact r
  refine ⟨hu, ?_, rfl⟩
  rw [send_blind hu, same_self]
  rfl
theorem flows_no {cur a : Lab} (hc : cur.fits) (ha : a.fits) (h : writesL cur a = false) : (readsL cur a = false ∨ (sendL cur a).1 ≠ 0 ∨ cur = a) ∧ ((sendL cur a).1 ≠ 0 ∨ (sendL cur a).2 = true) := by
  by_cases k : cur.under a = true
  · have hne : cur ≠ a := fun e => by
      subst e
      have := under_rights k
      rw [Bool.and_eq_true] at this
      rw [writes_iff.2 ⟨this.1, rfl⟩] at h
      cases h
    have hs : cur.same a = false := by
      cases e : cur.same a
      · rfl
      · exact absurd ((Lab.same_iff _ _).1 e) hne
    refine ⟨.inl ?_, .inr ?_⟩
    · cases e : readsL cur a
      · rfl
      · exact absurd (under_antisymm hc ha k e) hne
    · rw [send_blind k, hs]
      rfl
  · have h1 : (sendL cur a).1 ≠ 0 := fun e => k (send_iff.1 e)
    exact ⟨.inr (.inl h1), .inl h1⟩
theorem sends_up {cur a b : Lab} (hc : cur.fits) (ha : a.fits) (hb : b.fits) (h : (sendL cur a).1 = 0) (k : a.under b = true) : (sendL cur b).1 = 0 := send_iff.2 (under_trans hc ha hb (send_iff.1 h) k)
theorem reads_down {cur a b : Lab} (hc : cur.fits) (ha : a.fits) (hb : b.fits) (h : readsL cur a = true) (k : b.under a = true) : readsL cur b = true := under_trans hb ha hc k h

theorem gain_ok {cur a : Lab} (h : (cur.right && a.right) = true) : gainL cur a = (0, gapL cur a) := by
  unfold gainL
  rw [if_pos h]
theorem gain_bad {cur a : Lab} (h : (cur.right && a.right) = false) : gainL cur a = (20, Lab.zero) := by
  unfold gainL
  rw [if_neg (by simp [h])]
theorem gap_fits {cur a : Lab} (ha : a.fits) : (gapL cur a).fits := U64.less ha _
theorem gain_fits {cur a x : Lab} {c : Int} (h : gainL cur a = (c, x)) (ha : a.fits) : x.fits := by
  cases e : (cur.right && a.right)
  · rw [gain_bad e] at h
    rw [← (Prod.mk.inj h).2]
    exact fits_zero
  · rw [gain_ok e] at h
    rw [← (Prod.mk.inj h).2]
    exact gap_fits ha
theorem gap_right {cur a : Lab} (h2 : a.right = true) : (gapL cur a).right = true := by
  rw [Lab.right_iff] at *
  unfold gapL
  simp only
  split <;> split <;> omega
theorem or_less (a b : Nat) (ha : U64 a) (hb : U64 b) : b ||| lessN a b = b ||| a := by
  apply Nat.eq_of_testBit_eq
  intro i
  rw [Nat.testBit_or, Nat.testBit_or, lessN_testBit a b i ha hb]
  cases a.testBit i <;> cases b.testBit i <;> rfl
theorem gap_join {cur a : Lab} (hc : cur.fits) (ha : a.fits) (h1 : cur.right = true) : cur.join (gapL cur a) = cur.join a := by
  rw [Lab.right_iff] at h1
  refine Lab.ext ?_ (or_less _ _ ha hc) ?_
  · show max cur.l (if cur.l < a.l then a.l else 0) = max cur.l a.l
    split <;> omega
  · show min cur.i (if a.i < cur.i then a.i else 7) = min cur.i a.i
    split <;> omega
theorem gap_least {cur a b : Lab} (hc : cur.fits) (ha : a.fits) (hb : b.fits) (_h1 : cur.right = true) (h2 : a.right = true) (h3 : b.right = true) (h : cur.join b = cur.join a) : (gapL cur a).under b = true := by
  refine (under_iff' (gap_fits ha) hb).2 ⟨gap_right h2, h3, ?_, ?_, ?_⟩
  · have e : max cur.l b.l = max cur.l a.l := congrArg Lab.l h
    rw [Lab.right_iff] at h3
    show (if cur.l < a.l then a.l else 0) ≤ b.l
    split <;> omega
  · intro i hi
    have hi' : (lessN a.c cur.c).testBit i = true := hi
    rw [lessN_testBit _ _ i ha hc, Bool.and_eq_true, Bool.not_eq_true'] at hi'
    have e : (cur.c ||| b.c).testBit i = (cur.c ||| a.c).testBit i := congrArg (fun x : Lab => x.c.testBit i) h
    rw [Nat.testBit_or, Nat.testBit_or, hi'.1, hi'.2] at e
    simpa using e
  · have e : min cur.i b.i = min cur.i a.i := congrArg Lab.i h
    rw [Lab.right_iff] at h3
    show b.i ≤ (if a.i < cur.i then a.i else 7)
    split <;> omega
theorem gap_bot {cur a : Lab} (hc : cur.fits) (ha : a.fits) (h1 : cur.right = true) (h2 : a.right = true) : a.under cur = (gapL cur a).same Lab.bot := by
  rw [Bool.eq_iff_iff, under_iff' ha hc, Lab.same_iff]
  have h1' := (Lab.right_iff _).1 h1
  constructor
  · rintro ⟨_, _, k1, k2, k3⟩
    refine Lab.ext ?_ ?_ ?_
    · show (if cur.l < a.l then a.l else 0) = 0
      rw [if_neg (by omega)]
    · show lessN a.c cur.c = 0
      have := (sub_iff _ _ ha hc).2 k2
      simpa using this
    · show (if a.i < cur.i then a.i else 7) = 7
      rw [if_neg (by omega)]
  · intro h
    have e1 : (if cur.l < a.l then a.l else 0) = 0 := congrArg Lab.l h
    have e2 : lessN a.c cur.c = 0 := congrArg Lab.c h
    have e3 : (if a.i < cur.i then a.i else 7) = 7 := congrArg Lab.i h
    refine ⟨h2, h1, ?_, (sub_iff _ _ ha hc).1 (by rw [e2]; rfl), ?_⟩
    · split at e1 <;> omega
    · split at e3 <;> omega

theorem pathGo_step {high cur a : Lab} {n : Nat} {r : List Lab} (h : (cur.join a).under high = true) : pathGo high cur n (a :: r) = pathGo high (cur.join a) (n + 1) r := by
  show (if _ then _ else _) = _
  rw [if_pos h]
theorem pathGo_stop {high cur a : Lab} {n : Nat} {r : List Lab} (h : (cur.join a).under high = false) : pathGo high cur n (a :: r) = (120, n, cur) := by
  show (if _ then _ else _) = _
  rw [if_neg (by simp [h])]
/-- What a path tells. -/
theorem pathGo_says {high : Lab} (l : List Lab) : ∀ {cur x : Lab} {k n : Nat} {c : Int}, pathGo high cur k l = (c, n, x) →
    k ≤ n ∧ n ≤ k + l.length ∧ x = (l.take (n - k)).foldl Lab.join cur ∧ (n = k ∨ x.under high = true) ∧ (c = 0 ∨ c = 120) ∧ (c = 0 ↔ n = k + l.length) := by
  induction l with
  | nil =>
    intro cur x k n c h
    obtain ⟨rfl, h2⟩ := Prod.mk.inj h
    obtain ⟨rfl, rfl⟩ := Prod.mk.inj h2
    simp
  | cons a r ih =>
    intro cur x k n c h
    by_cases hu : (cur.join a).under high = true
    · rw [pathGo_step hu] at h
      obtain ⟨h1, h2, h3, h4, h5, h6⟩ := ih h
      refine ⟨by omega, by rw [List.length_cons]; omega, ?_, ?_, h5, by rw [h6, List.length_cons]; omega⟩
      · rw [show n - k = (n - (k + 1)) + 1 by omega, List.take_succ_cons]
        exact h3
      · rcases h4 with h4 | h4
        · refine .inr ?_
          rw [h3, h4, Nat.sub_self, List.take_zero]
          exact hu
        · exact .inr h4
    · rw [pathGo_stop (by simpa using hu)] at h
      obtain ⟨rfl, h2⟩ := Prod.mk.inj h
      obtain ⟨rfl, rfl⟩ := Prod.mk.inj h2
      refine ⟨Nat.le_refl _, by omega, by simp, .inl rfl, .inr rfl, ?_⟩
      rw [List.length_cons]
      constructor
      · intro h; cases h
      · intro h; omega
theorem path_ok {cur high : Lab} {l : List Lab} (h : (cur.right && high.right && l.all Lab.right) = true) : pathL cur l high = pathGo high cur 0 l := by
  unfold pathL
  rw [if_pos h]
theorem path_bad {cur high : Lab} {l : List Lab} (h : (cur.right && high.right && l.all Lab.right) = false) : pathL cur l high = (20, 0, Lab.zero) := by
  unfold pathL
  rw [if_neg (by simp [h])]
theorem all_take {l : List Lab} (h : l.all Lab.right = true) (n : Nat) : (l.take n).all Lab.right = true := by
  rw [List.all_eq_true] at *
  exact fun x hx => h x (List.mem_of_mem_take hx)
/-- Who floats by some labels is where the join of all is. -/
theorem path_says {cur high x : Lab} {l : List Lab} {n : Nat} {c : Int} (h : pathL cur l high = (c, n, x)) :
    (c = 20 ∧ n = 0 ∧ x = Lab.zero) ∨ (c ≠ 20 ∧ n ≤ l.length ∧ toldE (cur :: l.take n) = 0 ∧ toldJ Lab.bot (cur :: l.take n) = x ∧ (n = 0 ∨ x.under high = true) ∧ (c = 0 ↔ n = l.length)) := by
  cases e : (cur.right && high.right && l.all Lab.right)
  · rw [path_bad e] at h
    obtain ⟨rfl, h2⟩ := Prod.mk.inj h
    obtain ⟨rfl, rfl⟩ := Prod.mk.inj h2
    exact .inl ⟨rfl, rfl, rfl⟩
  · rw [path_ok e] at h
    rw [Bool.and_eq_true, Bool.and_eq_true] at e
    obtain ⟨_, h2, h3, h4, h5, h6⟩ := pathGo_says l h
    have hall : (cur :: l.take n).all Lab.right = true := by
      rw [List.all_cons, e.1.1, all_take e.2]
      rfl
    refine .inr ⟨by rcases h5 with q | q <;> omega, by omega, toldE_yes _ hall, ?_, h4, by rw [h6, Nat.zero_add]⟩
    rw [toldJ_yes _ _ hall, h3, Nat.sub_zero]
    show (l.take n).foldl Lab.join (Lab.bot.join cur) = _
    rw [Lab.bot_join cur e.1.1]
theorem path_fits {cur high x : Lab} {l : List Lab} {n : Nat} {c : Int} (h : pathL cur l high = (c, n, x)) (hc : cur.fits) (hl : ∀ y ∈ l, y.fits) : x.fits := by
  rcases path_says h with ⟨_, _, rfl⟩ | ⟨_, _, he, hj, _⟩
  · exact fits_zero
  · rw [← hj, toldJ_yes _ _ (by
      cases q : (cur :: l.take n).all Lab.right
      · rw [toldE_no _ q] at he; cases he
      · rfl)]
    have key : ∀ (m : List Lab) (s : Lab), s.fits → (∀ y ∈ m, y.fits) → (m.foldl Lab.join s).fits := by
      intro m
      induction m with
      | nil => intro s hs _; exact hs
      | cons y r ih => intro s hs hm; exact ih _ (hs.join (hm y (by simp))) fun z hz => hm z (by simp [hz])
    exact key _ _ Lab.fits_bot fun y hy => by
      rcases List.mem_cons.1 hy with rfl | hy
      · exact hc
      · exact hl y (List.mem_of_mem_take hy)
/-- Two labels, in whatever order. -/
theorem turns_yes {cur a b high x : Lab} {n : Nat} (hc : cur.fits) (ha : a.fits) (hb : b.fits) (hh : high.fits) (h : pathL cur [a, b] high = (0, n, x)) : n = 2 ∧ pathL cur [b, a] high = (0, 2, x) ∧ toldE [cur, a, b] = 0 ∧ toldJ Lab.bot [cur, a, b] = x := by
  cases e : (cur.right && high.right && [a, b].all Lab.right)
  · rw [path_bad e] at h
    cases h
  · have e2 := e
    simp only [Bool.and_eq_true, List.all_cons, List.all_nil, Bool.and_true] at e2
    obtain ⟨⟨r1, r2⟩, r3, r4⟩ := e2
    rw [path_ok e] at h
    cases u1 : (cur.join a).under high
    · rw [pathGo_stop u1] at h
      cases h
    rw [pathGo_step u1] at h
    cases u2 : ((cur.join a).join b).under high
    · rw [pathGo_stop u2] at h
      cases h
    rw [pathGo_step u2] at h
    obtain ⟨_, h2⟩ := Prod.mk.inj h
    obtain ⟨rfl, rfl⟩ := Prod.mk.inj h2
    have e3 : (cur.join b).join a = (cur.join a).join b := by rw [join_assoc, join_comm b a, ← join_assoc]
    have hu : (cur.join b).under ((cur.join b).join a) = true := under_joinL (hc.join hb) ha (Lab.right_join r1 r4) r3
    rw [e3] at hu
    have u3 : (cur.join b).under high = true := under_trans (hc.join hb) ((hc.join ha).join hb) hh hu u2
    refine ⟨rfl, ?_, ?_, ?_⟩
    · rw [path_ok (by simp [r1, r2, r3, r4]), pathGo_step u3, pathGo_step (by rw [e3]; exact u2), e3]
      rfl
    · exact toldE_yes _ (by simp [r1, r3, r4])
    · rw [toldJ_yes _ _ (by simp [r1, r3, r4])]
      show ((Lab.bot.join cur).join a).join b = _
      rw [Lab.bot_join cur r1]
theorem turns_no {cur a b high x : Lab} {n : Nat} {c : Int} (hc : cur.fits) (ha : a.fits) (hb : b.fits) (hh : high.fits) (h : pathL cur [a, b] high = (c, n, x)) (h0 : c ≠ 0) : (pathL cur [b, a] high).1 ≠ 0 ∧ (c = 120 ∨ (c = 20 ∧ x = Lab.zero ∧ n = 0)) := by
  refine ⟨fun q => ?_, ?_⟩
  · rcases hp : pathL cur [b, a] high with ⟨p1, p2, p3⟩
    rw [hp] at q
    obtain rfl : p1 = 0 := q
    have := (turns_yes hc hb ha hh hp).2.1
    rw [h] at this
    exact h0 (Prod.mk.inj this).1
  · cases e : (cur.right && high.right && [a, b].all Lab.right)
    · rw [path_bad e] at h
      obtain ⟨rfl, h2⟩ := Prod.mk.inj h
      obtain ⟨rfl, rfl⟩ := Prod.mk.inj h2
      exact .inr ⟨rfl, rfl, rfl⟩
    · rw [path_ok e] at h
      rcases (pathGo_says _ h).2.2.2.2.1 with q | q
      · exact absurd q h0
      · exact .inl q
end Go.Proofs.Cel
