/- Plain facts on one category put in and taken out. -/
import Derived.Test.YtcjokjipgeaikaaGreatDoorJoin
namespace Go.Proofs.YtcjokjipgeaikaaGreatDoor.Ct
open Go.RowKit Go.Proofs.Cats

theorem joinV_one (s k : Nat) (hk : k < 64) : joinV s [(k : Int)] = s ||| 2 ^ k := by
  have h : okC (k : Int) = true := (okC_iff _).2 (by omega)
  simp [joinV, addAll, h]
theorem testBit_with (s k i : Nat) : (s ||| 2 ^ k).testBit i = (s.testBit i || decide (k = i)) := by
  rw [Nat.testBit_or, Nat.testBit_two_pow]
theorem pow_u64 (k : Nat) (hk : k < 64) : U64 (2 ^ k) := Nat.pow_lt_pow_right (m := k) (n := 64) (by omega) hk
theorem withoutV_one (s k : Nat) (hk : k < 64) : withoutV s (k : Int) = lessN s (2 ^ k) := by
  have h : okC (k : Int) = true := (okC_iff _).2 (by omega)
  simp [withoutV, h, joinV_one 0 k hk]
theorem withoutV_u64 (s : Nat) (i : Int) (hs : U64 s) : U64 (withoutV s i) := by
  unfold withoutV
  split
  · exact hs.less _
  · unfold U64; omega
theorem testBit_without (s k i : Nat) (hs : U64 s) (hk : k < 64) : (lessN s (2 ^ k)).testBit i = (s.testBit i && !decide (k = i)) := by
  rw [lessN_testBit s _ i hs (pow_u64 k hk), Nat.testBit_two_pow]

theorem cnt_with (n s k : Nat) : cnt n (s ||| 2 ^ k) = cnt n s + (if k < n ∧ s.testBit k = false then 1 else 0) := by
  induction n with
  | zero => simp [cnt]
  | succ n ih =>
    simp only [cnt]
    rw [ih, testBit_with]
    by_cases h : k = n
    · subst h
      cases hb : s.testBit k <;> simp
    · have h1 : (k < n + 1) = (k < n) := by rw [eq_iff_iff]; omega
      simp only [h1, h, decide_false, Bool.or_false]
      omega

theorem cnt_congr (n a b : Nat) (h : ∀ i, a.testBit i = b.testBit i) : cnt n a = cnt n b := by
  rw [Nat.eq_of_testBit_eq h]

theorem less_with_zero (s k : Nat) (hs : U64 s) (hk : k < 64) : lessN s (s ||| 2 ^ k) = 0 :=
  less_eq_zero _ _ hs (or_pow_u64 s k hs hk) (fun i h => by rw [testBit_with, h]; rfl)

theorem cnt_less_with (s k : Nat) (hs : U64 s) (hk : k < 64) : cnt 64 (lessN (s ||| 2 ^ k) s) = if s.testBit k = false then 1 else 0 := by
  have hu := or_pow_u64 s k hs hk
  have h1 := cnt_split 64 (s ||| 2 ^ k) s hu hs
  have h2 : cnt 64 (lessN (s ||| 2 ^ k) (lessN (s ||| 2 ^ k) s)) = cnt 64 s := cnt_congr _ _ _ fun i => by
    rw [less_less _ _ hu hs, testBit_with]
    cases s.testBit i <;> simp
  have h3 := cnt_with 64 s k
  rw [h2] at h1
  simp only [hk, true_and] at h3
  omega

theorem hasB_ok (s k : Nat) (hk : k < 64) : hasB s (k : Int) = s.testBit k := by
  have h : okC (k : Int) = true := (okC_iff _).2 (by omega)
  simp [hasB, h]
theorem hasB_no (s : Nat) (i : Int) (h : okC i = false) : hasB s i = false := by simp [hasB, h]

end Go.Proofs.YtcjokjipgeaikaaGreatDoor.Ct
