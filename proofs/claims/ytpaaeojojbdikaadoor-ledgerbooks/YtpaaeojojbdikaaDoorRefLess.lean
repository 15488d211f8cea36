/- The contracts of the document's own Has, Without, Less, Sub, for what needs no more of categories. -/
import Derived.Test.YtpaaeojojbdikaaDoorLess
namespace Go.Proofs.YtpaaeojojbdikaaDoor
open Go.RowKit Go.Proofs.Cats

/-- Is i in s? -/
def hasB (s : Nat) (i : Int) : Bool := okC i && s.testBit i.toNat
theorem hasB_ok (s k : Nat) (hk : k < 64) : hasB s (k : Int) = s.testBit k := by
  have h : okC (k : Int) = true := (okC_iff _).2 (by omega)
  simp [hasB, h]
theorem hasB_no (s : Nat) (i : Int) (h : okC i = false) : hasB s i = false := by simp [hasB, h]
theorem pow_u64 (k : Nat) (hk : k < 64) : U64 (2 ^ k) := Nat.pow_lt_pow_right (m := k) (n := 64) (by omega) hk
theorem testBit_without (s k i : Nat) (hs : U64 s) (hk : k < 64) : (lessN s (2 ^ k)).testBit i = (s.testBit i && !decide (k = i)) := by
  rw [lessN_testBit s _ i hs (pow_u64 k hk), Nat.testBit_two_pow]
def withoutV (s : Nat) (i : Int) : Nat := if okC i then lessN s (2 ^ i.toNat) else 0
def withoutE (i : Int) : Int := if okC i then 0 else 10
theorem withoutV_one (s k : Nat) (hk : k < 64) : withoutV s (k : Int) = lessN s (2 ^ k) := by
  have h : okC (k : Int) = true := (okC_iff _).2 (by omega)
  simp [withoutV, h]

theorem testBit_rem (s k : Nat) : (((s : Int) / 2 ^ k).tmod 2 == 1) = s.testBit k := by
  have e1 : ((s : Int) / 2 ^ k) = ((s / 2 ^ k : Nat) : Int) := by simp
  rw [e1, Nat.testBit_eq_decide_div_mod_eq, Bool.eq_iff_iff, beq_iff_eq, decide_eq_true_iff]
  generalize s / 2 ^ k = q
  rw [Int.tmod_eq_emod_of_nonneg (by omega)]
  omega

set_option maxHeartbeats 400000 in
theorem refHas_any (s : Nat) (i : Int) (w : World) :
    Calls Tryd.prog 60 #[.int .u64 s, .int .i64 i] w fun e W' => e = .returned (.bool (hasB s i)) ∧ w = W' := by
  by_cases h0 : i < 0
  · have ev : hasB s i = false := hasB_no s i (by simp [okC, Int.not_le.2 h0])
    have h0' : ¬ 0 ≤ i := by omega
    rw [ev]
    clear ev
    go_enter Tryd.func60, Tryd.ntmps60
    go_wp2
    go_ret
    exact ⟨rfl, rfl⟩
  · by_cases h1 : 64 ≤ i
    · have ev : hasB s i = false := hasB_no s i (by simp [okC, Int.not_lt.2 h1])
      have h0' : 0 ≤ i := by omega
      have h1' : ¬ i < 64 := by omega
      rw [ev]
      clear ev
      go_enter Tryd.func60, Tryd.ntmps60
      go_wp2
      go_ret
      exact ⟨rfl, rfl⟩
    · obtain ⟨k, rfl⟩ := Int.eq_ofNat_of_zero_le (Int.not_lt.1 h0)
      have hk : k < 64 := by omega
      rw [hasB_ok s k hk, ← testBit_rem]
      clear h0 h1
      go_enter Tryd.func60, Tryd.ntmps60
      go_wp2
      go_ret
      exact ⟨rfl, rfl⟩


theorem wrap_pow (k : Nat) (hk : k < 64) : IntKind.u64.wrap ((2 : Int) ^ k) = ((2 ^ k : Nat) : Int) := by
  have hp := pow_u64 k hk
  unfold U64 at hp
  have e1 : ((2 : Int) ^ k) = ((2 ^ k : Nat) : Int) := by simp
  rw [IntKind.wrap_u64, e1]
  generalize 2 ^ k = q at *
  omega
theorem less_pow_not (s k : Nat) (hs : U64 s) (hk : k < 64) (h : s.testBit k = false) : lessN s (2 ^ k) = s := by
  apply Nat.eq_of_testBit_eq
  intro i
  rw [testBit_without s k i hs hk]
  by_cases e : k = i
  · subst e; simp [h]
  · simp [e]
theorem less_pow_has (s k : Nat) (hs : U64 s) (hk : k < 64) (h : s.testBit k = true) : lessN s (2 ^ k) + 2 ^ k = s := by
  have h1 := less_add s (2 ^ k) hs (pow_u64 k hk)
  have h2 : lessN s (lessN s (2 ^ k)) = 2 ^ k := by
    apply Nat.eq_of_testBit_eq
    intro i
    rw [less_less s _ hs (pow_u64 k hk), Nat.testBit_two_pow]
    by_cases e : k = i
    · subst e; simp [h]
    · simp [e]
  rw [h2] at h1
  exact h1
theorem sub_pow_int (s k : Nat) (hs : U64 s) (hk : k < 64) (h : s.testBit k = true) : IntKind.u64.wrap ((s : Int) - IntKind.u64.wrap (2 ^ k)) = ((lessN s (2 ^ k) : Nat) : Int) := by
  have h1 := less_pow_has s k hs hk h
  unfold U64 at hs
  rw [wrap_pow k hk, IntKind.wrap_u64]
  generalize lessN s (2 ^ k) = L at *
  generalize 2 ^ k = q at *
  omega

/-- Of the first j bits. -/
theorem less_mod_succ (a b j : Nat) (ha : U64 a) (hb : U64 b) (hj : j < 64) :
    lessN a (b % 2 ^ (j + 1)) = if b.testBit j then lessN (lessN a (b % 2 ^ j)) (2 ^ j) else lessN a (b % 2 ^ j) := by
  have hm : ∀ n, U64 (b % 2 ^ n) := fun n => Nat.lt_of_le_of_lt (Nat.mod_le _ _) hb
  apply Nat.eq_of_testBit_eq
  intro i
  cases ht : b.testBit j
  · rw [if_neg (by simp), lessN_testBit a _ i ha (hm _), lessN_testBit a _ i ha (hm _), Nat.testBit_mod_two_pow, Nat.testBit_mod_two_pow]
    by_cases e : i = j
    · subst e; simp [ht]
    · have : decide (i < j + 1) = decide (i < j) := by simp; omega
      rw [this]
  · rw [if_pos rfl, testBit_without _ j i (ha.less _) hj, lessN_testBit a _ i ha (hm _), lessN_testBit a _ i ha (hm _), Nat.testBit_mod_two_pow, Nat.testBit_mod_two_pow]
    by_cases e : i = j
    · subst e; simp [ht]
    · have : decide (i < j + 1) = decide (i < j) := by simp; omega
      have e' : ¬ j = i := fun h => e h.symm
      rw [this]
      simp [e']

theorem mod64 (b : Nat) (hb : U64 b) : b % 2 ^ 64 = b := Nat.mod_eq_of_lt hb

/-- None of the first j bits of a is missing in b. -/
def NoneLeft (a b j : Nat) : Prop := ∀ i, i < j → a.testBit i = true → b.testBit i = true

theorem less_zero_of (a b : Nat) (ha : U64 a) (hb : U64 b) (h : NoneLeft a b 64) : (lessN a b == 0) = true := by
  rw [beq_iff_eq]
  refine less_eq_zero a b ha hb fun i hi => ?_
  by_cases hl : i < 64
  · exact h i hl hi
  · have : a.testBit i = false := Nat.testBit_lt_two_pow (Nat.lt_of_lt_of_le (show a < 2 ^ 64 from ha) (Nat.pow_le_pow_right (by omega) (by omega)))
    rw [this] at hi
    cases hi
theorem less_not_zero (a b i : Nat) (ha : U64 a) (hb : U64 b) (h1 : a.testBit i = true) (h2 : b.testBit i = false) : (lessN a b == 0) = false := by
  rw [beq_eq_false_iff_ne]
  intro h
  have := lessN_testBit a b i ha hb
  rw [h, h1, h2] at this
  simp at this

set_option maxHeartbeats 1000000 in
theorem refSub_any (a b : Nat) (ha : U64 a) (hb : U64 b) (w : World) :
    Calls Tryd.prog 50 #[.int .u64 a, .int .u64 b] w fun e W' => e = .returned (.bool (lessN a b == 0)) ∧ w = W' := by
  go_enter Tryd.func50, Tryd.ntmps50
  go_wp2
  go_loop [5] (fun i => ∃ j : Nat, j ≤ 64 ∧ i = .int .i64 j ∧ NoneLeft a b j) (fun i => 64 - (intOf i).toNat)
  case atStart => exact ⟨0, by omega, rfl, fun i h => by omega⟩
  case round =>
    obtain ⟨j, hj, rfl, hn⟩ := hrel
    by_cases hlt : j < 64
    · have e1 := Lib.hid (hasB_ok a j hlt)
      have e2 := Lib.hid (hasB_ok b j hlt)
      have HN := Lib.hid hn
      clear hn
      cases h1 : a.testBit j
      · have H1 := Lib.hid h1
        clear h1
        go_wp2_with (go_at_call 60; refine (refHas_any a j _).mono ?_; rintro e w' ⟨he, rfl⟩; rw [e1.out, H1.out] at he; subst he)
        go_round
        case rel => exact ⟨j + 1, by omega, by go_num, fun i hi h => by
          by_cases e : i = j
          · subst e; rw [H1.out] at h; cases h
          · exact HN.out i (by omega) h⟩
        case measure => simp [intOf]; omega
      · have H1 := Lib.hid h1
        clear h1
        cases h2 : b.testBit j
        · have H2 := Lib.hid h2
          clear h2
          go_wp2_with fail
          refine (refHas_any a j _).mono ?_
          rintro e w' ⟨he, rfl⟩
          rw [e1.out, H1.out] at he
          subst he
          go_wp2_with fail
          refine (refHas_any b j _).mono ?_
          rintro e w' ⟨he, rfl⟩
          rw [e2.out, H2.out] at he
          subst he
          go_wp2
          go_ret
          exact ⟨by rw [less_not_zero a b j ha hb H1.out H2.out]; rfl, rfl⟩
        · have H2 := Lib.hid h2
          clear h2
          go_wp2_with fail
          refine (refHas_any a j _).mono ?_
          rintro e w' ⟨he, rfl⟩
          rw [e1.out, H1.out] at he
          subst he
          go_wp2_with fail
          refine (refHas_any b j _).mono ?_
          rintro e w' ⟨he, rfl⟩
          rw [e2.out, H2.out] at he
          subst he
          go_wp2
          go_round
          case rel => exact ⟨j + 1, by omega, by go_num, fun i hi h => by
            by_cases e : i = j
            · subst e; exact H2.out
            · exact HN.out i (by omega) h⟩
          case measure => simp [intOf]; omega
    · obtain rfl : j = 64 := by omega
      have HN := Lib.hid (less_zero_of a b ha hb hn)
      clear hn
      go_wp2
      go_ret
      exact ⟨by rw [HN.out]; rfl, rfl⟩

end Go.Proofs.YtpaaeojojbdikaaDoor
