/- What the document's Make and Drop come to: plain facts. -/
import Derived.Test.YtnbpfbmhheimbaaGreatDoorSpDoc
namespace Go.Proofs.Spc
open Go.Proofs.Rng
theorem aheadN_lt {p : Ob → Bool} {l : List Ob} {k : Nat} (h : k < aheadN p l) : ∃ x, l[k]? = some x ∧ p x = false := by
  induction l generalizing k with
  | nil => simp [aheadN] at h
  | cons x r ih =>
    unfold aheadN at h
    split at h
    · omega
    · rename_i hp
      cases k with
      | zero => exact ⟨x, rfl, by simpa using hp⟩
      | succ j => exact ih (by omega)
theorem bef_lt {l : List Ob} {n : It} {k : Nat} (h : k < befN l n) : ∃ x, l[k]? = some x ∧ ltB x.n n = true := by
  obtain ⟨x, h1, h2⟩ := aheadN_lt h
  exact ⟨x, h1, by simpa using h2⟩
theorem bef_at {l : List Ob} {n : It} (h : befN l n < l.length) : ∃ x, l[befN l n]? = some x ∧ ltB x.n n = false := by
  obtain ⟨x, h1, h2⟩ := aheadN_get h
  exact ⟨x, h1, by simpa using h2⟩
theorem bef_le (l : List Ob) (n : It) : befN l n ≤ l.length := aheadN_le _ _
/-- The document's last step. -/
def roomR (q : Int) (out : List Ob) : Int × List Ob := if 20 < out.length ∨ q < costR out then (104, []) else (0, out)
theorem mk_doc {l : List Ob} {q : Int} {n : It} {k m : Int} (h1 : rightB l = true) (h2 : nameB n = true) (h3 : k = 1 ∨ k = 2) (h4 : getO l n = none) (h5 : k = 1 → m = 0) (h6 : 0 ≤ m) (h7 : m ≤ 2000) : mkR l q n k m = roomR q (withL l (befN l n) (befN l n) [newO n k m]) := by
  have hw : withL l (befN l n) (befN l n) [newO n k m] = insO (newO n k m) l := with_ins l (newO n k m)
  unfold mkR
  rw [if_neg (by simp [h1]), if_neg (by simp [h2]), if_neg (by omega), if_neg (by simp [find_none.2 h4]), if_neg (by omega)]
  unfold chR roomR
  rw [hw]
  by_cases h8 : 20 < (insO (newO n k m) l).length
  · rw [if_pos h8, if_pos (.inl h8)]
  · rw [if_neg h8]
    have hr : rightB (insO (newO n k m) l) = true := rightB_iff.2 ⟨by omega, ins_good (rightB_iff.1 h1).2 (new_is h2 h3 h5 h6 h7) (name_pos h2) h4⟩
    have hp := new_cost n k h6
    rw [right_cost hr]
    have hc := ins_cost (newO n k m) l
    by_cases h9 : q < costS (insO (newO n k m) l)
    · rw [if_pos ⟨h9, by omega⟩, if_pos (.inr h9)]
    · rw [if_neg (fun h => h9 h.1), if_neg (by omega)]
theorem mk_e1 {l : List Ob} {q : Int} {n : It} {k m : Int} (h1 : rightB l = false) : mkR l q n k m = (110, []) := by unfold mkR; rw [if_pos h1]
theorem mk_e2 {l : List Ob} {q : Int} {n : It} {k m : Int} (h1 : rightB l = true) (h2 : nameB n = false) : mkR l q n k m = (100, []) := by unfold mkR; rw [if_neg (by simp [h1]), if_pos h2]
theorem mk_e3 {l : List Ob} {q : Int} {n : It} {k m : Int} (h1 : rightB l = true) (h2 : nameB n = true) (h3 : k ≠ 1 ∧ k ≠ 2) : mkR l q n k m = (103, []) := by unfold mkR; rw [if_neg (by simp [h1]), if_neg (by simp [h2]), if_pos h3]
theorem mk_e4 {l : List Ob} {q : Int} {n : It} {k m : Int} {o : Ob} (h1 : rightB l = true) (h2 : nameB n = true) (h3 : k = 1 ∨ k = 2) (h4 : getO l n = some o) : mkR l q n k m = (101, []) := by unfold mkR; rw [if_neg (by simp [h1]), if_neg (by simp [h2]), if_neg (by omega), if_pos (by have := find_lt h4; omega)]
theorem mk_e5 {l : List Ob} {q : Int} {n : It} {k m : Int} (h1 : rightB l = true) (h2 : nameB n = true) (h3 : k = 1 ∨ k = 2) (h4 : getO l n = none) (h5 : (k = 1 ∧ m ≠ 0) ∨ m < 0 ∨ 2000 < m) : mkR l q n k m = (2, []) := by unfold mkR; rw [if_neg (by simp [h1]), if_neg (by simp [h2]), if_neg (by omega), if_neg (by simp [find_none.2 h4]), if_pos h5]
end Go.Proofs.Spc
