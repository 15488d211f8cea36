/- Plain facts on labels: a level, categories, an integrity. No program is named here. -/
import Derived.Test.YtpaaeojojbdikaaDoorMath
namespace Go.Proofs.Cats

/-- A label's three numbers. -/
structure Lab where
  l : Int
  c : Nat
  i : Int

/-- What any three numbers of a machine are. -/
def Lab.fits (a : Lab) : Prop := U64 a.c

def Lab.right (a : Lab) : Bool := decide (0 ≤ a.l) && decide (a.l ≤ 15) && decide (0 ≤ a.i) && decide (a.i ≤ 7)
def Lab.leq (a b : Lab) : Bool := decide (a.l ≤ b.l) && (lessN a.c b.c == 0) && decide (b.i ≤ a.i)
def Lab.under (a b : Lab) : Bool := a.right && b.right && a.leq b
def Lab.join (a b : Lab) : Lab := ⟨max a.l b.l, a.c ||| b.c, min a.i b.i⟩
def Lab.meet (a b : Lab) : Lab := ⟨min a.l b.l, a.c &&& b.c, max a.i b.i⟩
def Lab.bot : Lab := ⟨0, 0, 7⟩
def Lab.top : Lab := ⟨15, 18446744073709551615, 0⟩
def Lab.zero : Lab := ⟨0, 0, 0⟩
def Lab.same (a b : Lab) : Bool := a.l == b.l && a.c == b.c && a.i == b.i
def Lab.ahead (a b : Lab) : Bool := if a.l != b.l then decide (a.l < b.l) else if a.c != b.c then decide (a.c < b.c) else decide (a.i < b.i)
def Lab.cmp (a b : Lab) : Int := if a.same b then 0 else if a.ahead b then -1 else 1

theorem Lab.ext {a b : Lab} (h1 : a.l = b.l) (h2 : a.c = b.c) (h3 : a.i = b.i) : a = b := by
  cases a; cases b; simp_all
theorem Lab.same_iff (a b : Lab) : a.same b = true ↔ a = b := by
  constructor
  · intro h
    simp [Lab.same] at h
    exact Lab.ext h.1.1 h.1.2 h.2
  · rintro rfl; simp [Lab.same]

/-- One set is in another one. -/
def SubN (a b : Nat) : Prop := ∀ i, a.testBit i = true → b.testBit i = true
theorem sub_iff (a b : Nat) (ha : U64 a) (hb : U64 b) : (lessN a b == 0) = true ↔ SubN a b := by
  constructor
  · intro h i hi
    have h0 : lessN a b = 0 := by simpa using h
    have := lessN_testBit a b i ha hb
    rw [h0, Nat.zero_testBit, hi] at this
    cases e : b.testBit i
    · simp [e] at this
    · rfl
  · intro h
    have := less_eq_zero a b ha hb h
    simp [this]
theorem SubN.antisymm {a b : Nat} (h : SubN a b) (k : SubN b a) : a = b := by
  apply Nat.eq_of_testBit_eq
  intro i
  have h1 := h i
  have h2 := k i
  cases e : a.testBit i <;> cases f : b.testBit i <;> simp_all
theorem SubN.trans {a b c : Nat} (h : SubN a b) (k : SubN b c) : SubN a c := fun i hi => k i (h i hi)
theorem SubN.refl (a : Nat) : SubN a a := fun _ h => h
theorem SubN.or_left (a b : Nat) : SubN a (a ||| b) := fun i h => by rw [Nat.testBit_or, h, Bool.true_or]
theorem SubN.or_right (a b : Nat) : SubN b (a ||| b) := fun i h => by rw [Nat.testBit_or, h, Bool.or_true]
theorem SubN.or {a b c : Nat} (h : SubN a c) (k : SubN b c) : SubN (a ||| b) c := fun i hi => by
  rw [Nat.testBit_or, Bool.or_eq_true] at hi
  rcases hi with hi | hi
  · exact h i hi
  · exact k i hi
theorem SubN.and_left (a b : Nat) : SubN (a &&& b) a := fun i h => by rw [Nat.testBit_and, Bool.and_eq_true] at h; exact h.1
theorem SubN.and_right (a b : Nat) : SubN (a &&& b) b := fun i h => by rw [Nat.testBit_and, Bool.and_eq_true] at h; exact h.2
theorem SubN.and {a b c : Nat} (h : SubN c a) (k : SubN c b) : SubN c (a &&& b) := fun i hi => by
  rw [Nat.testBit_and, h i hi, k i hi]; rfl
theorem SubN.zero (a : Nat) : SubN 0 a := fun i h => by simp at h
theorem SubN.all (a : Nat) (ha : U64 a) : SubN a 18446744073709551615 := fun i h => by
  have e : (18446744073709551615 : Nat) = 2 ^ 64 - 1 := rfl
  rw [e, Nat.testBit_two_pow_sub_one]
  by_cases hi : i < 64
  · simp [hi]
  · have : a.testBit i = false := Nat.testBit_lt_two_pow (Nat.lt_of_lt_of_le (show a < 2 ^ 64 from ha) (Nat.pow_le_pow_right (by omega) (by omega)))
    rw [this] at h; cases h
theorem SubN.le {a b : Nat} (h : SubN a b) : a ≤ b := by
  have e : a &&& b = a := (SubN.and_left a b).antisymm (SubN.and (SubN.refl a) h)
  rw [← e]; exact Nat.and_le_right

theorem U64.or {a b : Nat} (ha : U64 a) (hb : U64 b) : U64 (a ||| b) := Nat.or_lt_two_pow (n := 64) ha hb
theorem U64.and {a : Nat} (ha : U64 a) (b : Nat) : U64 (a &&& b) := Nat.lt_of_le_of_lt Nat.and_le_left ha

theorem Lab.right_iff (a : Lab) : a.right = true ↔ 0 ≤ a.l ∧ a.l ≤ 15 ∧ 0 ≤ a.i ∧ a.i ≤ 7 := by
  unfold Lab.right
  simp only [Bool.and_eq_true, decide_eq_true_iff, and_assoc]
theorem Lab.leq_iff (a b : Lab) (ha : a.fits) (hb : b.fits) : a.leq b = true ↔ a.l ≤ b.l ∧ SubN a.c b.c ∧ b.i ≤ a.i := by
  unfold Lab.leq
  simp only [Bool.and_eq_true, decide_eq_true_iff, sub_iff a.c b.c ha hb, and_assoc]
theorem Lab.under_iff (a b : Lab) (ha : a.fits) (hb : b.fits) : a.under b = true ↔ a.right = true ∧ b.right = true ∧ a.l ≤ b.l ∧ SubN a.c b.c ∧ b.i ≤ a.i := by
  unfold Lab.under
  simp only [Bool.and_eq_true, Lab.leq_iff a b ha hb, and_assoc]

theorem Lab.fits_bot : Lab.bot.fits := by unfold Lab.fits Lab.bot U64; decide
theorem Lab.fits_top : Lab.top.fits := by unfold Lab.fits Lab.top U64; decide
theorem Lab.fits.join {a b : Lab} (ha : a.fits) (hb : b.fits) : (a.join b).fits := U64.or ha hb
theorem Lab.fits.meet {a b : Lab} (ha : a.fits) (_hb : b.fits) : (a.meet b).fits := U64.and ha _
theorem Lab.right_join {a b : Lab} (ha : a.right = true) (hb : b.right = true) : (a.join b).right = true := by
  rw [Lab.right_iff] at *; simp only [Lab.join]; omega
theorem Lab.right_meet {a b : Lab} (ha : a.right = true) (hb : b.right = true) : (a.meet b).right = true := by
  rw [Lab.right_iff] at *; simp only [Lab.meet]; omega
theorem Lab.bot_right : Lab.bot.right = true := by decide
theorem Lab.top_right : Lab.top.right = true := by decide
/-- What lies between the bottom and the top is a label. -/
theorem Lab.between (a : Lab) (ha : a.fits) : (Lab.bot.leq a && a.leq Lab.top) = a.right := by
  rw [Bool.eq_iff_iff, Bool.and_eq_true, Lab.leq_iff _ _ Lab.fits_bot ha, Lab.leq_iff _ _ ha Lab.fits_top, Lab.right_iff]
  simp only [Lab.bot, Lab.top]
  constructor
  · rintro ⟨⟨h1, _, h2⟩, h3, _, h4⟩; omega
  · rintro ⟨h1, h2, h3, h4⟩; exact ⟨⟨h1, SubN.zero _, h4⟩, h2, SubN.all _ ha, h3⟩
theorem Lab.bot_join (a : Lab) (h : a.right = true) : Lab.bot.join a = a := by
  rw [Lab.right_iff] at h
  exact Lab.ext (by simp only [Lab.join, Lab.bot]; omega) (by simp [Lab.join, Lab.bot]) (by simp only [Lab.join, Lab.bot]; omega)
theorem top_and (c : Nat) (h : U64 c) : 18446744073709551615 &&& c = c :=
  (SubN.and_right _ _).antisymm (SubN.and (SubN.all c h) (SubN.refl c))
theorem Lab.top_meet (a : Lab) (hf : a.fits) (h : a.right = true) : Lab.top.meet a = a := by
  rw [Lab.right_iff] at h
  exact Lab.ext (by simp only [Lab.meet, Lab.top]; omega) (top_and _ hf) (by simp only [Lab.meet, Lab.top]; omega)

end Go.Proofs.Cats
