/- What is charged and refunded, as plain facts. No program is named here. -/
import Derived.Test.YtpaaeojojbdikaaDoorLgMath
namespace Go.Proofs.Lgr
open Go.Proofs.Cats

/-- It is charged. -/
def ChargeOk (l : List Ln) (q : Int) (a : Lab) (n : Int) : Prop :=
  rightL l = true ∧ a.right = true ∧ 0 ≤ q ∧ q ≤ 100000 ∧ 0 ≤ n ∧ n ≤ q - usedL l a ∧ ¬ (usedL l a = 0 ∧ 0 < n ∧ l.length = 1000)
theorem charge_yes {l : List Ln} {q : Int} {a : Lab} {n : Int} (h : ChargeOk l q a n) : chargeL l q a n = (withL l a (usedL l a + n), 0) := by
  obtain ⟨h1, h2, h3⟩ := h
  unfold chargeL
  rw [h1, h2, if_pos (show (true && true) = true from rfl), if_pos h3]
theorem charge_no {l : List Ln} {q : Int} {a : Lab} {n : Int} (h : ¬ ChargeOk l q a n) : chargeL l q a n = ([], 20) ∨ chargeL l q a n = ([], 70) := by
  unfold chargeL
  by_cases h1 : (rightL l && a.right) = true
  · rw [if_pos h1]
    rw [Bool.and_eq_true] at h1
    by_cases h3 : 0 ≤ q ∧ q ≤ 100000 ∧ 0 ≤ n ∧ n ≤ q - usedL l a ∧ ¬ (usedL l a = 0 ∧ 0 < n ∧ l.length = 1000)
    · exact absurd ⟨h1.1, h1.2, h3⟩ h
    · rw [if_neg h3]; exact .inr rfl
  · rw [if_neg h1]; exact .inl rfl
theorem charge_iff (l : List Ln) (q : Int) (a : Lab) (n : Int) : (chargeL l q a n).2 = 0 ↔ ChargeOk l q a n := by
  constructor
  · intro h
    by_cases k : ChargeOk l q a n
    · exact k
    · rcases charge_no k with e | e <;> rw [e] at h <;> simp at h
  · intro h; rw [charge_yes h]
def RefundOk (l : List Ln) (a : Lab) (n : Int) : Prop := rightL l = true ∧ a.right = true ∧ 0 ≤ n ∧ n ≤ usedL l a
theorem refund_yes {l : List Ln} {a : Lab} {n : Int} (h : RefundOk l a n) : refundL l a n = (withL l a (usedL l a - n), 0) := by
  obtain ⟨h1, h2, h3⟩ := h
  unfold refundL
  rw [h1, h2, if_pos (show (true && true) = true from rfl), if_pos h3]
theorem refund_no {l : List Ln} {a : Lab} {n : Int} (h : ¬ RefundOk l a n) : refundL l a n = ([], 20) ∨ refundL l a n = ([], 70) := by
  unfold refundL
  by_cases h1 : (rightL l && a.right) = true
  · rw [if_pos h1]
    rw [Bool.and_eq_true] at h1
    by_cases h3 : 0 ≤ n ∧ n ≤ usedL l a
    · exact absurd ⟨h1.1, h1.2, h3⟩ h
    · rw [if_neg h3]; exact .inr rfl
  · rw [if_neg h1]; exact .inl rfl
theorem refund_iff (l : List Ln) (a : Lab) (n : Int) : (refundL l a n).2 = 0 ↔ RefundOk l a n := by
  constructor
  · intro h
    by_cases k : RefundOk l a n
    · exact k
    · rcases refund_no k with e | e <;> rw [e] at h <;> simp at h
  · intro h; rw [refund_yes h]
theorem charge_len (l : List Ln) (q : Int) (a : Lab) (n : Int) : (chargeL l q a n).1.length ≤ l.length + 1 := by
  by_cases k : ChargeOk l q a n
  · rw [charge_yes k]; exact length_with _ _ _
  · rcases charge_no k with e | e <;> rw [e] <;> simp
theorem refund_len (l : List Ln) (a : Lab) (n : Int) : (refundL l a n).1.length ≤ l.length + 1 := by
  by_cases k : RefundOk l a n
  · rw [refund_yes k]; exact length_with _ _ _
  · rcases refund_no k with e | e <;> rw [e] <;> simp
theorem with_fits {l : List Ln} {a : Lab} (n : Int) (h : ∀ x ∈ l, x.a.fits) (ha : a.fits) : ∀ x ∈ withL l a n, x.a.fits := fun x hx => by
  rcases mem_withL hx with hx | ⟨rfl, _⟩
  · exact h x hx
  · exact ha
theorem charge_fits {l : List Ln} {a : Lab} (q n : Int) (h : ∀ x ∈ l, x.a.fits) (ha : a.fits) : ∀ x ∈ (chargeL l q a n).1, x.a.fits := by
  by_cases k : ChargeOk l q a n
  · rw [charge_yes k]; exact with_fits _ h ha
  · rcases charge_no k with e | e <;> rw [e] <;> intro x hx <;> cases hx
theorem refund_fits {l : List Ln} {a : Lab} (n : Int) (h : ∀ x ∈ l, x.a.fits) (ha : a.fits) : ∀ x ∈ (refundL l a n).1, x.a.fits := by
  by_cases k : RefundOk l a n
  · rw [refund_yes k]; exact with_fits _ h ha
  · rcases refund_no k with e | e <;> rw [e] <;> intro x hx <;> cases hx
/-- What is charged is a ledger. -/
theorem charge_right {l : List Ln} {q : Int} {a : Lab} {n : Int} (h : ChargeOk l q a n) : rightL (withL l a (usedL l a + n)) = true := by
  obtain ⟨h1, h2, h3, h4, h5, h6, h7⟩ := h
  have hr := used_range h1 a
  obtain ⟨k1, k2, k3⟩ := (rightL_iff l).1 h1
  refine right_with h1 h2 (by omega) (by omega) ?_
  by_cases hu : usedL l a = 0
  · by_cases hn : 0 < n
    · have := length_with l a (usedL l a + n)
      omega
    · have := length_with_le k3 (a := a) (n := usedL l a + n) (.inr (by omega))
      omega
  · have := length_with_le k3 (a := a) (n := usedL l a + n) (.inl hu)
    omega
theorem refund_right {l : List Ln} {a : Lab} {n : Int} (h : RefundOk l a n) : rightL (withL l a (usedL l a - n)) = true := by
  obtain ⟨h1, h2, h3, h4⟩ := h
  have hr := used_range h1 a
  obtain ⟨k1, k2, k3⟩ := (rightL_iff l).1 h1
  refine right_with h1 h2 (by omega) (by omega) ?_
  have : usedL l a ≠ 0 ∨ usedL l a - n ≤ 0 := by omega
  have := length_with_le k3 this
  omega
theorem total_right {l : List Ln} (h : rightL l = true) : totalL l = sumL l := by unfold totalL; rw [h]; rfl

/-- P7.3: what is charged is refunded again. -/
theorem back {l : List Ln} {q : Int} {a : Lab} {n : Int} (h : ChargeOk l q a n) : refundL (chargeL l q a n).1 a n = (l, 0) ∧ rightL (chargeL l q a n).1 = true ∧ usedL (chargeL l q a n).1 a = usedL l a + n ∧ totalL (chargeL l q a n).1 = totalL l + n := by
  have hr := charge_right h
  rw [charge_yes h]
  obtain ⟨h1, h2, h3, h4, h5, h6, h7⟩ := h
  have hu := used_range h1 a
  obtain ⟨k1, k2, k3⟩ := (rightL_iff l).1 h1
  have hp := pos_of_right h1
  have eu : usedL (withL l a (usedL l a + n)) a = usedL l a + n := by rw [used_with k3 a a _ (by omega), same_refl]; rfl
  refine ⟨?_, hr, eu, ?_⟩
  · rw [refund_yes ⟨hr, h2, h5, by rw [eu]; omega⟩, eu, with_with k3 hp a _ _ (by omega) (by omega), show usedL l a + n - n = usedL l a by omega, with_same k3 hp]
  · rw [total_right hr, total_right h1, sum_with k3 a _ (by omega)]
    omega
/-- P7.2: what is refunded is charged again. -/
theorem again {l : List Ln} {a : Lab} {n : Int} (h : RefundOk l a n) : chargeL (refundL l a n).1 (usedL l a) a n = (l, 0) ∧ rightL (refundL l a n).1 = true ∧ usedL (refundL l a n).1 a = usedL l a - n := by
  have hr := refund_right h
  rw [refund_yes h]
  obtain ⟨h1, h2, h3, h4⟩ := h
  have hu := used_range h1 a
  obtain ⟨k1, k2, k3⟩ := (rightL_iff l).1 h1
  have hp := pos_of_right h1
  have eu : usedL (withL l a (usedL l a - n)) a = usedL l a - n := by rw [used_with k3 a a _ (by omega), same_refl]; rfl
  have e : ∀ m, 0 ≤ m → withL (withL l a (usedL l a - n)) a m = withL l a m := fun m hm => with_with k3 hp a _ _ (by omega) hm
  refine ⟨?_, hr, eu⟩
  have room : ¬ (usedL (withL l a (usedL l a - n)) a = 0 ∧ 0 < n ∧ (withL l a (usedL l a - n)).length = 1000) := by
    rintro ⟨q1, q2, q3⟩
    rw [eu] at q1
    have hlt : (withL l a (usedL l a - n)).length < l.length := by
      rw [q1]
      clear q1 q3 eu e hr
      have hne : usedL l a ≠ 0 := by omega
      clear h3 h4 hu k1 k2 hp h1
      induction l with
      | nil => exact absurd rfl hne
      | cons x r ih =>
        have hpw := List.pairwise_cons.1 k3
        unfold withL
        cases e : x.a.ahead a
        · show (newL a 0 ++ _).length < _
          by_cases q : x.a = a
          · rw [show x.a.same a = true by rw [q]; exact same_refl a]
            simp [newL]
          · exact absurd (used_zero (l := x :: r) (a := a) fun y hy => (ahead_ne (rest_ahead k3 e y (by rw [same_no q]; exact hy))).symm) hne
        · have := ih hpw.2 (by
            unfold usedL at hne
            rw [same_no (ahead_ne e)] at hne
            exact hne)
          show (x :: withL r a 0).length < _
          simp
          omega
    omega
  rw [charge_yes ⟨hr, h2, by omega, by omega, h3, by rw [eu]; omega, room⟩, eu, e _ (by omega), show usedL l a - n + n = usedL l a by omega, with_same k3 hp]
/-- P7.3: what is charged to one label changes nothing of any other one. -/
theorem apart {l : List Ln} {q : Int} {a b : Lab} {n : Int} (m : Int) (hl : l.length ≤ 900) (h : ChargeOk l q a n) (hab : a ≠ b) : (chargeL (chargeL l q a n).1 q b m).2 = (chargeL l q b m).2 ∧ usedL (chargeL l q a n).1 b = usedL l b ∧ (a.under b = false → seenL (chargeL l q a n).1 b = seenL l b) := by
  have hr := charge_right h
  have hlen := charge_len l q a n
  rw [charge_yes h] at hlen ⊢
  replace hlen : (withL l a (usedL l a + n)).length ≤ l.length + 1 := hlen
  obtain ⟨h1, h2, h3, h4, h5, h6, h7⟩ := h
  have hu := used_range h1 a
  obtain ⟨k1, k2, k3⟩ := (rightL_iff l).1 h1
  have eb : usedL (withL l a (usedL l a + n)) b = usedL l b := by rw [used_with k3 a b _ (by omega), same_no hab]; rfl
  refine ⟨?_, eb, fun hu => seen_with k3 a b _ hu⟩
  unfold chargeL
  simp only [hr, h1, eb]
  have g1 : ¬ (usedL l b = 0 ∧ 0 < m ∧ (withL l a (usedL l a + n)).length = 1000) := by omega
  have g2 : ¬ (usedL l b = 0 ∧ 0 < m ∧ l.length = 1000) := by omega
  simp only [g1, g2, not_false_eq_true, and_true]
  split
  · split <;> rfl
  · rfl
theorem turns_ok {l : List Ln} {q : Int} {a b : Lab} {n m : Int} (hl : l.length ≤ 900) (h : ChargeOk l q a n) (k : ChargeOk (chargeL l q a n).1 q b m) : ChargeOk l q b m ∧ ChargeOk (chargeL l q b m).1 q a n ∧ (chargeL (chargeL l q a n).1 q b m).1 = (chargeL (chargeL l q b m).1 q a n).1 := by
  have hlen := charge_len l q a n
  have hlen2 := charge_len l q b m
  have k' := k
  rw [charge_yes h] at k'
  obtain ⟨h1, h2, h3, h4, h5, h6, h7⟩ := id h
  obtain ⟨j1, j2, j3, j4, j5, j6, j7⟩ := k'
  have hu := used_range h1 a
  have hub := used_range h1 b
  obtain ⟨k1, k2, k3⟩ := (rightL_iff l).1 h1
  have hp := pos_of_right h1
  have eb := used_with k3 a b (usedL l a + n) (by omega)
  have hb : ChargeOk l q b m := by
    refine ⟨h1, j2, h3, h4, j5, ?_, by omega⟩
    by_cases e : a = b
    · subst e
      rw [eb, same_refl] at j6
      simp at j6
      omega
    · rw [eb, same_no e] at j6
      exact j6
  have ea := used_with k3 b a (usedL l b + m) (by omega)
  have hba : ChargeOk (chargeL l q b m).1 q a n := by
    have hrb := charge_right hb
    rw [charge_yes hb] at hlen2 ⊢
    refine ⟨hrb, h2, h3, h4, h5, ?_, by omega⟩
    by_cases e : a = b
    · subst e
      rw [eb, same_refl] at j6
      simp at j6
      rw [ea, same_refl]
      simp
      omega
    · rw [ea, same_no (fun q => e q.symm)]
      exact h6
  refine ⟨hb, hba, ?_⟩
  rw [charge_yes k, charge_yes hba, charge_yes h, charge_yes hb]
  show withL (withL l a (usedL l a + n)) b _ = withL (withL l b (usedL l b + m)) a _
  rw [ea, eb]
  by_cases e : a = b
  · subst e
    rw [same_refl]
    simp only [if_true]
    rw [with_with k3 hp a _ _ (by omega) (by omega), with_with k3 hp a _ _ (by omega) (by omega)]
    congr 1
    omega
  · rw [same_no e, same_no (fun q => e q.symm)]
    exact with_turns k3 hp e _ _ (by omega) (by omega)
/-- P7.2: two charges, either way about. -/
theorem turns {l : List Ln} {q : Int} {a b : Lab} {n m : Int} (hl : l.length ≤ 900) :
    (ChargeOk l q a n ∧ ChargeOk (chargeL l q a n).1 q b m ∧ ChargeOk l q b m ∧ ChargeOk (chargeL l q b m).1 q a n ∧ (chargeL (chargeL l q a n).1 q b m).1 = (chargeL (chargeL l q b m).1 q a n).1)
    ∨ (¬ (ChargeOk l q a n ∧ ChargeOk (chargeL l q a n).1 q b m) ∧ ¬ (ChargeOk l q b m ∧ ChargeOk (chargeL l q b m).1 q a n)) := by
  by_cases h : ChargeOk l q a n ∧ ChargeOk (chargeL l q a n).1 q b m
  · obtain ⟨x, y, z⟩ := turns_ok hl h.1 h.2
    exact .inl ⟨h.1, h.2, x, y, z⟩
  · refine .inr ⟨h, fun k => h ?_⟩
    obtain ⟨x, y, z⟩ := turns_ok hl k.1 k.2
    exact ⟨x, y⟩
/-- P7.1: what is seen has no more in all. -/
theorem sums {l : List Ln} (h : rightL l = true) (a : Lab) : (∀ x ∈ seenL l a, usedL l x.a = x.u) ∧ totalL (seenL l a) = sumL (seenL l a) ∧ sumL (seenL l a) ≤ totalL l := by
  obtain ⟨k1, k2, k3⟩ := (rightL_iff l).1 h
  have hs : (seenL l a).Sublist l := List.filter_sublist
  refine ⟨fun x hx => used_mem k3 (hs.subset hx), total_right (right_seen h a), ?_⟩
  rw [total_right h]
  exact sum_sub hs (pos_of_right h)
/-- The document's setting of a line. -/
def setGo (a : Lab) (n : Int) : Bool → List Ln → List Ln
  | d, [] => if d then [] else [⟨a, n⟩]
  | d, x :: r => (if !d && !x.a.ahead a then [⟨a, n⟩] else []) ++ (if x.a.same a then [] else [x]) ++ setGo a n (d || !x.a.ahead a) r
theorem setGo_done {l : List Ln} {a : Lab} (n : Int) (h : ∀ y ∈ l, a.ahead y.a = true) : setGo a n true l = l := by
  induction l with
  | nil => rfl
  | cons x r ih =>
    have hx := ahead_ne (h x (by simp))
    unfold setGo
    rw [same_no hx.symm, Bool.true_or, ih fun y hy => h y (by simp [hy])]
    rfl
theorem setGo_zero {l : List Ln} {a : Lab} (n : Int) (hl : Asc l) : setGo a n true l = withL l a 0 := by
  induction l with
  | nil => rfl
  | cons x r ih =>
    have hp := List.pairwise_cons.1 hl
    unfold setGo withL
    cases e : x.a.ahead a
    · show [] ++ (if x.a.same a then [] else [x]) ++ setGo a n (true || _) r = newL a 0 ++ _
      rw [Bool.true_or]
      have hra := rest_ahead hl e
      by_cases q : x.a = a
      · rw [show x.a.same a = true by rw [q]; exact same_refl a] at hra ⊢
        rw [setGo_done (l := r) n hra]
        rfl
      · rw [same_no q] at hra ⊢
        rw [setGo_done (l := r) n fun y hy => hra y (List.mem_cons_of_mem _ hy)]
        rfl
    · rw [same_no (ahead_ne e), Bool.true_or, ih hp.2]
      rfl
theorem setGo_pos {l : List Ln} {a : Lab} (n : Int) (hn : 0 < n) (hl : Asc l) : setGo a n false l = withL l a n := by
  have hnew : newL a n = [⟨a, n⟩] := by unfold newL; rw [if_pos hn]
  induction l with
  | nil => unfold setGo withL; rw [hnew]; rfl
  | cons x r ih =>
    have hp := List.pairwise_cons.1 hl
    unfold setGo withL
    cases e : x.a.ahead a
    · have hra := rest_ahead hl e
      by_cases q : x.a = a
      · rw [show x.a.same a = true by rw [q]; exact same_refl a] at hra ⊢
        rw [hnew]
        show [(⟨a, n⟩ : Ln)] ++ [] ++ setGo a n true r = _
        rw [setGo_done (l := r) n hra]
        rfl
      · rw [same_no q] at hra ⊢
        rw [hnew]
        show [(⟨a, n⟩ : Ln)] ++ [x] ++ setGo a n true r = _
        rw [setGo_done (l := r) n fun y hy => hra y (List.mem_cons_of_mem _ hy)]
        rfl
    · rw [same_no (ahead_ne e), show (false || !true) = false from rfl, ih hp.2]
      rfl
theorem setGo_with {l : List Ln} (h : Asc l) (a : Lab) (n : Int) (hn : 0 ≤ n) : setGo a n (decide (n = 0)) l = withL l a n := by
  by_cases e : n = 0
  · subst e; exact setGo_zero 0 h
  · rw [decide_eq_false e]; exact setGo_pos n (by omega) h

end Go.Proofs.Lgr
