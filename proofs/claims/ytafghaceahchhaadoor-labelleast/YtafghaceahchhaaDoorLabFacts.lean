/- Plain facts on joins and meets of labels. -/
import Derived.Test.YtafghaceahchhaaDoorLabMeet
namespace Go.Proofs.YtafghaceahchhaaDoor
open Go.Proofs.Cats

theorem right2_of (a b : Lab) : (a.right && b.right) = true ↔ a.right = true ∧ b.right = true := by simp
theorem twoE_yes {a b : Lab} (h : (a.right && b.right) = true) : twoE a b = 0 := by unfold twoE; rw [h]; rfl
theorem twoE_no {a b : Lab} (h : (a.right && b.right) = false) : twoE a b = 20 := by unfold twoE; rw [h]; rfl
theorem twoJ_yes {a b : Lab} (h : (a.right && b.right) = true) : twoJ a b = a.join b := by unfold twoJ; rw [h]; rfl
theorem twoJ_no {a b : Lab} (h : (a.right && b.right) = false) : twoJ a b = Lab.zero := by unfold twoJ; rw [h]; rfl
theorem twoM_yes {a b : Lab} (h : (a.right && b.right) = true) : twoM a b = a.meet b := by unfold twoM; rw [h]; rfl
theorem twoM_no {a b : Lab} (h : (a.right && b.right) = false) : twoM a b = Lab.zero := by unfold twoM; rw [h]; rfl
theorem under_not {a b : Lab} (h : (a.right && b.right) = false) : a.under b = false := by unfold Lab.under; rw [h]; rfl
theorem under_both {a b : Lab} (h : (a.right && b.right) = true) : a.under b = a.leq b := by unfold Lab.under; rw [h]; rfl
theorem fits_zero : Lab.zero.fits := by unfold Lab.fits Lab.zero U64; decide
theorem fits_twoJ {a b : Lab} (ha : a.fits) (hb : b.fits) : (twoJ a b).fits := by
  unfold twoJ; split
  · exact ha.join hb
  · exact fits_zero
theorem fits_twoM {a b : Lab} (ha : a.fits) (hb : b.fits) : (twoM a b).fits := by
  unfold twoM; split
  · exact ha.meet hb
  · exact fits_zero
theorem or_eq_iff (a b : Nat) : a ||| b = b ↔ SubN a b :=
  ⟨fun h => h ▸ SubN.or_left a b, fun h => (SubN.or h (SubN.refl b)).antisymm (SubN.or_right a b)⟩
theorem and_eq_iff (a b : Nat) : a &&& b = a ↔ SubN a b :=
  ⟨fun h => h ▸ SubN.and_right a b, fun h => (SubN.and_left a b).antisymm (SubN.and (SubN.refl a) h)⟩
theorem join_same (a b : Lab) (ha : a.fits) (hb : b.fits) : (a.join b).same b = a.leq b := by
  rw [Bool.eq_iff_iff, Lab.same_iff, Lab.leq_iff a b ha hb, ← or_eq_iff]
  constructor
  · intro h
    have h1 := congrArg Lab.l h
    have h2 := congrArg Lab.c h
    have h3 := congrArg Lab.i h
    simp only [Lab.join] at h1 h2 h3
    exact ⟨by omega, h2, by omega⟩
  · rintro ⟨h1, h2, h3⟩
    exact Lab.ext (by simp only [Lab.join]; omega) h2 (by simp only [Lab.join]; omega)
theorem meet_same (a b : Lab) (ha : a.fits) (hb : b.fits) : (a.meet b).same a = a.leq b := by
  rw [Bool.eq_iff_iff, Lab.same_iff, Lab.leq_iff a b ha hb, ← and_eq_iff]
  constructor
  · intro h
    have h1 := congrArg Lab.l h
    have h2 := congrArg Lab.c h
    have h3 := congrArg Lab.i h
    simp only [Lab.meet] at h1 h2 h3
    exact ⟨by omega, h2, by omega⟩
  · rintro ⟨h1, h2, h3⟩
    exact Lab.ext (by simp only [Lab.meet]; omega) h2 (by simp only [Lab.meet]; omega)
theorem under_iff' {a b : Lab} (ha : a.fits) (hb : b.fits) : a.under b = true ↔ a.right = true ∧ b.right = true ∧ a.l ≤ b.l ∧ SubN a.c b.c ∧ b.i ≤ a.i := Lab.under_iff a b ha hb
theorem under_refl (a : Lab) (ha : a.fits) : a.under a = a.right := by
  rw [Bool.eq_iff_iff, under_iff' ha ha]
  exact ⟨fun h => h.1, fun h => ⟨h, h, Int.le_refl _, SubN.refl _, Int.le_refl _⟩⟩
theorem under_antisymm {a b : Lab} (ha : a.fits) (hb : b.fits) (h : a.under b = true) (k : b.under a = true) : a = b := by
  rw [under_iff' ha hb] at h
  rw [under_iff' hb ha] at k
  exact Lab.ext (by omega) (h.2.2.2.1.antisymm k.2.2.2.1) (by omega)
theorem under_trans {a b c : Lab} (ha : a.fits) (hb : b.fits) (hc : c.fits) (h : a.under b = true) (k : b.under c = true) : a.under c = true := by
  rw [under_iff' ha hb] at h
  rw [under_iff' hb hc] at k
  rw [under_iff' ha hc]
  exact ⟨h.1, k.2.1, by omega, h.2.2.2.1.trans k.2.2.2.1, by omega⟩
theorem bot_under {a : Lab} (ha : a.fits) (h : a.right = true) : Lab.bot.under a = true := by
  rw [under_iff' Lab.fits_bot ha]
  have h' := (Lab.right_iff a).1 h
  exact ⟨Lab.bot_right, h, by simp only [Lab.bot]; omega, SubN.zero _, by simp only [Lab.bot]; omega⟩
theorem top_over {a : Lab} (ha : a.fits) (h : a.right = true) : a.under Lab.top = true := by
  rw [under_iff' ha Lab.fits_top]
  have h' := (Lab.right_iff a).1 h
  exact ⟨h, Lab.top_right, by simp only [Lab.top]; omega, SubN.all _ ha, by simp only [Lab.top]; omega⟩
theorem under_joinL {a b : Lab} (ha : a.fits) (hb : b.fits) (h : a.right = true) (k : b.right = true) : a.under (a.join b) = true := by
  rw [under_iff' ha (ha.join hb)]
  exact ⟨h, Lab.right_join h k, by simp only [Lab.join]; omega, SubN.or_left _ _, by simp only [Lab.join]; omega⟩
theorem under_joinR {a b : Lab} (ha : a.fits) (hb : b.fits) (h : a.right = true) (k : b.right = true) : b.under (a.join b) = true := by
  rw [under_iff' hb (ha.join hb)]
  exact ⟨k, Lab.right_join h k, by simp only [Lab.join]; omega, SubN.or_right _ _, by simp only [Lab.join]; omega⟩
theorem join_under {a b c : Lab} (ha : a.fits) (hb : b.fits) (hc : c.fits) (h : a.under c = true) (k : b.under c = true) : (a.join b).under c = true := by
  rw [under_iff' ha hc] at h
  rw [under_iff' hb hc] at k
  rw [under_iff' (ha.join hb) hc]
  exact ⟨Lab.right_join h.1 k.1, h.2.1, by simp only [Lab.join]; omega, SubN.or h.2.2.2.1 k.2.2.2.1, by simp only [Lab.join]; omega⟩
theorem meet_underL {a b : Lab} (ha : a.fits) (hb : b.fits) (h : a.right = true) (k : b.right = true) : (a.meet b).under a = true := by
  rw [under_iff' (ha.meet hb) ha]
  exact ⟨Lab.right_meet h k, h, by simp only [Lab.meet]; omega, SubN.and_left _ _, by simp only [Lab.meet]; omega⟩
theorem meet_underR {a b : Lab} (ha : a.fits) (hb : b.fits) (h : a.right = true) (k : b.right = true) : (a.meet b).under b = true := by
  rw [under_iff' (ha.meet hb) hb]
  exact ⟨Lab.right_meet h k, k, by simp only [Lab.meet]; omega, SubN.and_right _ _, by simp only [Lab.meet]; omega⟩
theorem under_meet {a b c : Lab} (ha : a.fits) (hb : b.fits) (hc : c.fits) (h : c.under a = true) (k : c.under b = true) : c.under (a.meet b) = true := by
  rw [under_iff' hc ha] at h
  rw [under_iff' hc hb] at k
  rw [under_iff' hc (ha.meet hb)]
  exact ⟨h.1, Lab.right_meet h.2.1 k.2.1, by simp only [Lab.meet]; omega, SubN.and h.2.2.2.1 k.2.2.2.1, by simp only [Lab.meet]; omega⟩
theorem join_comm (a b : Lab) : a.join b = b.join a := Lab.ext (by simp only [Lab.join]; omega) (Nat.or_comm _ _) (by simp only [Lab.join]; omega)
theorem meet_comm (a b : Lab) : a.meet b = b.meet a := Lab.ext (by simp only [Lab.meet]; omega) (Nat.and_comm _ _) (by simp only [Lab.meet]; omega)
theorem join_assoc (a b c : Lab) : (a.join b).join c = a.join (b.join c) := Lab.ext (by simp only [Lab.join]; omega) (Nat.or_assoc _ _ _) (by simp only [Lab.join]; omega)
theorem join_meet (a b : Lab) : a.join (a.meet b) = a := by
  refine Lab.ext (by simp only [Lab.join, Lab.meet]; omega) ?_ (by simp only [Lab.join, Lab.meet]; omega)
  show a.c ||| (a.c &&& b.c) = a.c
  rw [Nat.or_comm]
  exact (or_eq_iff _ _).2 (SubN.and_left _ _)
theorem same_self (a : Lab) : a.same a = true := (Lab.same_iff a a).2 rfl

end Go.Proofs.YtafghaceahchhaaDoor
