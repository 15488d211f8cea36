/- Merged texts: Math, LabMath, Less, LabLeaf, LabJudge, LabEq, LabKit, RefLess, LabRefU -/
import Derived.Laws.BitsAllLaws
import Derived.Test.YtfpjbefhfkembaaDoorRows
import Derived.WalkKit
import Derived.WalkSpells
import Derived.WalkLawsBesides
import Derived.Lib.Hide
import Derived.Laws.Bits128
import Derived.Shelf.Abstract
import Derived.Deep.RegionWith
import Derived.Deep.RegionHeld3
import Derived.RangeFuncNested
import Derived.RangeFuncBound
import Derived.RangeFuncCalls
import Derived.RangeFuncLeaves
import Derived.RangeFuncBox
import Derived.Shelf.RegionOpen
import Derived.OwnWalkIn
import Derived.TacticsInMore
import Derived.LoopNIn
import Derived.LoopIn
import Derived.WalkMore
/- Plain facts on numbers below 2^64 as sets of categories: bits, counts, and the count by bytes. No program is named here. -/
namespace Go.Proofs.Cats

/-- A number of 64 bits. -/
def U64 (n : Nat) : Prop := n < 18446744073709551616

/-- Is i a category? -/
def okC (i : Int) : Bool := decide (0 ≤ i) && decide (i < 64)

/-- a's bits that are none of b's. -/
def lessN (a b : Nat) : Nat := a &&& (18446744073709551615 - b)

/-- How many of the first n bits of s are 1. -/
def cnt : Nat → Nat → Nat
  | 0, _ => 0
  | n + 1, s => cnt n s + (if s.testBit n then 1 else 0)

theorem lessN_testBit (a b i : Nat) (ha : U64 a) (hb : U64 b) : (lessN a b).testBit i = (a.testBit i && !b.testBit i) := by
  unfold U64 at ha hb
  unfold lessN
  rw [Nat.testBit_and]
  have e : 18446744073709551615 - b = 2 ^ 64 - (b + 1) := by omega
  rw [e, Nat.testBit_two_pow_sub_succ (by omega)]
  by_cases h : i < 64
  · simp [h]
  · have : a.testBit i = false := Nat.testBit_lt_two_pow (Nat.lt_of_lt_of_le (show a < 2 ^ 64 by omega) (Nat.pow_le_pow_right (by omega) (by omega)))
    simp [this]

theorem lessN_le (a b : Nat) : lessN a b ≤ a := Nat.and_le_left
theorem U64.less {a : Nat} (ha : U64 a) (b : Nat) : U64 (lessN a b) := Nat.lt_of_le_of_lt (lessN_le a b) ha

/-- What is left of a, and the rest, are a. -/
theorem less_less (a b : Nat) (ha : U64 a) (hb : U64 b) (i : Nat) : (lessN a (lessN a b)).testBit i = (a.testBit i && b.testBit i) := by
  rw [lessN_testBit a _ i ha (ha.less b), lessN_testBit a b i ha hb]
  cases a.testBit i <;> cases b.testBit i <;> rfl

theorem cnt_split (n a b : Nat) (ha : U64 a) (hb : U64 b) : cnt n (lessN a b) + cnt n (lessN a (lessN a b)) = cnt n a := by
  induction n with
  | zero => rfl
  | succ n ih =>
    simp only [cnt]
    rw [lessN_testBit a b n ha hb, less_less a b ha hb n]
    cases a.testBit n <;> cases b.testBit n <;> simp <;> omega

theorem cnt_le (n s : Nat) : cnt n s ≤ n := by
  induction n with
  | zero => simp [cnt]
  | succ n ih => simp only [cnt]; split <;> omega

theorem add_of_disjoint (x y : Nat) (h : ∀ i, (x.testBit i && y.testBit i) = false) : x + y = x ||| y := by
  have := Nat.two_pow_pos 0
  induction x using Nat.strongRecOn generalizing y with
  | ind x ih =>
    by_cases hx : x = 0
    · subst hx; simp
    · have h0 := h 0
      have hd := ih (x / 2) (Nat.div_lt_self (by omega) (by omega)) (y / 2) (fun i => by
        have := h (i + 1)
        rwa [Nat.testBit_succ, Nat.testBit_succ] at this)
      have e : (x ||| y) / 2 = x / 2 ||| y / 2 := by simpa using Nat.or_div_two_pow (n := 1) (a := x) (b := y)
      have m : (x ||| y) % 2 = (x % 2) ||| (y % 2) := by simpa using Nat.or_mod_two_pow (n := 1) (a := x) (b := y)
      have hm : (x % 2) ||| (y % 2) = x % 2 + y % 2 := by
        simp only [Nat.testBit_zero] at h0
        have h1 : x % 2 = 0 ∨ x % 2 = 1 := by omega
        have h2 : y % 2 = 0 ∨ y % 2 = 1 := by omega
        rcases h1 with h1 | h1 <;> rcases h2 with h2 | h2 <;> simp [h1, h2] at h0 ⊢
      have hm0 : x % 2 + y % 2 ≤ 1 := by
        simp only [Nat.testBit_zero] at h0
        have h1 : x % 2 = 0 ∨ x % 2 = 1 := by omega
        have h2 : y % 2 = 0 ∨ y % 2 = 1 := by omega
        rcases h1 with h1 | h1 <;> rcases h2 with h2 | h2 <;> simp [h1, h2] at h0 ⊢
      omega

theorem less_add (a b : Nat) (ha : U64 a) (hb : U64 b) : lessN a b + lessN a (lessN a b) = a := by
  rw [add_of_disjoint]
  · apply Nat.eq_of_testBit_eq
    intro i
    rw [Nat.testBit_or, lessN_testBit a b i ha hb, less_less a b ha hb i]
    cases a.testBit i <;> cases b.testBit i <;> rfl
  · intro i
    rw [lessN_testBit a b i ha hb, less_less a b ha hb i]
    cases a.testBit i <;> cases b.testBit i <;> rfl

theorem less_eq_zero (a b : Nat) (ha : U64 a) (hb : U64 b) (h : ∀ i, a.testBit i = true → b.testBit i = true) : lessN a b = 0 := by
  apply Nat.eq_of_testBit_eq
  intro i
  rw [lessN_testBit a b i ha hb, Nat.zero_testBit]
  cases e : a.testBit i
  · rfl
  · simp [h i e]

/-! ### The count by bytes -/

theorem and_split (k a b c d : Nat) (ha : a < 2 ^ k) (hc : c < 2 ^ k) : (a + 2 ^ k * b) &&& (c + 2 ^ k * d) = (a &&& c) + 2 ^ k * (b &&& d) := by
  have hp : 0 < 2 ^ k := Nat.two_pow_pos k
  have e1 := Nat.and_div_two_pow (n := k) (a := a + 2 ^ k * b) (b := c + 2 ^ k * d)
  have e2 := Nat.and_mod_two_pow (n := k) (a := a + 2 ^ k * b) (b := c + 2 ^ k * d)
  rw [Nat.add_mul_div_left _ _ hp, Nat.add_mul_div_left _ _ hp, Nat.div_eq_of_lt ha, Nat.div_eq_of_lt hc, Nat.zero_add, Nat.zero_add] at e1
  rw [Nat.add_mul_mod_self_left, Nat.add_mul_mod_self_left, Nat.mod_eq_of_lt ha, Nat.mod_eq_of_lt hc] at e2
  have := Nat.div_add_mod ((a + 2 ^ k * b) &&& (c + 2 ^ k * d)) (2 ^ k)
  rw [e1, e2] at this
  omega

theorem and_split8 (a b c d : Nat) (ha : a < 256) (hc : c < 256) : (a + 256 * b) &&& (c + 256 * d) = (a &&& c) + 256 * (b &&& d) :=
  and_split 8 a b c d ha hc

def g1 (m x : Nat) : Nat := (x / 2 &&& m) + (x &&& m)
def g2 (m x : Nat) : Nat := (x / 4 &&& m) + (x &&& m)
def g3 (m x : Nat) : Nat := (x / 16 + x) &&& m

theorem b1 : ∀ (b : Fin 256) (r : Fin 2), (b.val / 2 + 128 * r.val) &&& 85 = b.val / 2 &&& 85 := by decide +kernel
theorem b2 : ∀ (b : Fin 256) (r : Fin 4), (b.val / 4 + 64 * r.val) &&& 51 = b.val / 4 &&& 51 := by decide +kernel

theorem g1_split (b r m : Nat) (hb : b < 256) : g1 (85 + 256 * m) (b + 256 * r) = g1 85 b + 256 * g1 m r := by
  unfold g1
  have e : (b + 256 * r) / 2 = (b / 2 + 128 * (r % 2)) + 256 * (r / 2) := by omega
  rw [e, and_split8 _ _ _ _ (by omega) (by omega), and_split8 _ _ _ _ hb (by omega)]
  have := b1 ⟨b, hb⟩ ⟨r % 2, by omega⟩
  simp only at this
  rw [this]
  omega

theorem g2_split (b r m : Nat) (hb : b < 256) : g2 (51 + 256 * m) (b + 256 * r) = g2 51 b + 256 * g2 m r := by
  unfold g2
  have e : (b + 256 * r) / 4 = (b / 4 + 64 * (r % 4)) + 256 * (r / 4) := by omega
  rw [e, and_split8 _ _ _ _ (by omega) (by omega), and_split8 _ _ _ _ hb (by omega)]
  have := b2 ⟨b, hb⟩ ⟨r % 4, by omega⟩
  simp only at this
  rw [this]
  omega

theorem by1 : ∀ b : Fin 256, g1 85 b.val < 256 := by decide +kernel
theorem by2 : ∀ b : Fin 256, g2 51 (g1 85 b.val) < 69 ∧ g2 51 (g1 85 b.val) % 16 ≤ 4 := by decide +kernel
theorem by3 : ∀ b : Fin 256, g3 15 (g2 51 (g1 85 b.val)) = cnt 8 b.val := by decide +kernel
theorem b3 : ∀ (b : Fin 69) (r : Fin 5), (b.val / 16 + 16 * r.val + b.val) &&& 15 = (b.val / 16 + b.val) &&& 15 := by decide +kernel

theorem g3_split (c r m : Nat) (hc : c < 69) (hr : r % 16 ≤ 4) : g3 (15 + 256 * m) (c + 256 * r) = g3 15 c + 256 * g3 m r := by
  unfold g3
  have e : (c + 256 * r) / 16 + (c + 256 * r) = (c / 16 + 16 * (r % 16) + c) + 256 * (r / 16 + r) := by omega
  rw [e, and_split8 _ _ _ _ (by omega) (by omega)]
  have := b3 ⟨c, hc⟩ ⟨r % 16, by omega⟩
  simp only at this
  rw [this]

/-- The masks of n bytes. -/
def mk (q : Nat) : Nat → Nat
  | 0 => 0
  | n + 1 => q + 256 * mk q n

/-- The counts of n bytes, a byte each. -/
def bytesC : Nat → Nat → Nat
  | 0, _ => 0
  | n + 1, x => cnt 8 (x % 256) + 256 * bytesC n (x / 256)

theorem g12_low (n x : Nat) : g2 (mk 51 n) (g1 (mk 85 n) x) % 16 ≤ 4 := by
  cases n with
  | zero => simp [mk, g1, g2]
  | succ n =>
    have hx : x = x % 256 + 256 * (x / 256) := by omega
    have h1 := by1 ⟨x % 256, by omega⟩
    have h2 := by2 ⟨x % 256, by omega⟩
    simp only at h1 h2
    rw [hx]
    simp only [mk]
    rw [g1_split _ _ _ (by omega), g2_split _ _ _ h1]
    omega

theorem swar (n x : Nat) : g3 (mk 15 n) (g2 (mk 51 n) (g1 (mk 85 n) x)) = bytesC n x := by
  induction n generalizing x with
  | zero => simp [mk, g1, g2, g3, bytesC]
  | succ n ih =>
    have hx : x = x % 256 + 256 * (x / 256) := by omega
    have h1 := by1 ⟨x % 256, by omega⟩
    have h2 := by2 ⟨x % 256, by omega⟩
    have h3 := by3 ⟨x % 256, by omega⟩
    simp only at h1 h2 h3
    simp only [bytesC]
    rw [← ih (x / 256), ← h3]
    conv => lhs; rw [hx]
    simp only [mk]
    rw [g1_split _ _ _ (by omega), g2_split _ _ _ h1, g3_split _ _ _ h2.1 (g12_low n _)]

theorem cnt_add (a b s : Nat) : cnt (a + b) s = cnt a s + cnt b (s / 2 ^ a) := by
  induction b with
  | zero => simp [cnt]
  | succ b ih =>
    rw [← Nat.add_assoc]
    simp only [cnt]
    rw [ih, Nat.testBit_div_two_pow]
    rw [show a + b = b + a by omega]
    omega

theorem cnt_mod (a k s : Nat) (h : a ≤ k) : cnt a (s % 2 ^ k) = cnt a s := by
  induction a with
  | zero => rfl
  | succ a ih =>
    simp only [cnt]
    rw [ih (by omega), Nat.testBit_mod_two_pow]
    simp [show a < k by omega]

theorem cnt_bytes (n x : Nat) : cnt (8 * (n + 1)) x = cnt 8 (x % 256) + cnt (8 * n) (x / 256) := by
  rw [show 8 * (n + 1) = 8 + 8 * n by omega, cnt_add, cnt_mod 8 8 x (by omega)]

theorem cnt_zero (a : Nat) : cnt a 0 = 0 := by
  induction a with
  | zero => rfl
  | succ a ih => simp [cnt, ih]

theorem divB (a c B : Nat) (h : a < B) : (a + B * c) / B = c := by
  rw [Nat.add_mul_div_left _ _ (by omega), Nat.div_eq_of_lt h, Nat.zero_add]

theorem sum8 (q0 q1 q2 q3 q4 q5 q6 q7 : Nat) (p0 : q0 ≤ 8) (p1 : q1 ≤ 8) (p2 : q2 ≤ 8) (p3 : q3 ≤ 8) (p4 : q4 ≤ 8) (p5 : q5 ≤ 8) (p6 : q6 ≤ 8) (p7 : q7 ≤ 8)
    (y y4 y5 : Nat) (hy : y = q0 + 256 * (q1 + 256 * (q2 + 256 * (q3 + 256 * (q4 + 256 * (q5 + 256 * (q6 + 256 * q7))))))) (h4 : y4 = y + y / 256) (h5 : y5 = y4 + y4 / 65536) :
    (y5 + y5 / 4294967296) % 128 = q0 + q1 + q2 + q3 + q4 + q5 + q6 + q7 ∧ y ≤ 578721382704613384 := by
  have d1 : y / 256 = q1 + 256 * (q2 + 256 * (q3 + 256 * (q4 + 256 * (q5 + 256 * (q6 + 256 * q7))))) := by rw [hy, divB _ _ 256 (by omega)]
  rw [d1] at h4
  have f4 : y4 = ((q0 + q1) + 256 * (q1 + q2)) + 65536 * ((q2 + q3) + 256 * ((q3 + q4) + 256 * ((q4 + q5) + 256 * ((q5 + q6) + 256 * ((q6 + q7) + 256 * q7))))) := by
    rw [h4, hy]; omega
  have d2 : y4 / 65536 = (q2 + q3) + 256 * ((q3 + q4) + 256 * ((q4 + q5) + 256 * ((q5 + q6) + 256 * ((q6 + q7) + 256 * q7)))) := by rw [f4, divB _ _ 65536 (by omega)]
  rw [d2] at h5
  have f5 : y5 = ((q0 + q1 + q2 + q3) + 256 * (q1 + q2 + q3 + q4) + 65536 * (q2 + q3 + q4 + q5) + 16777216 * (q3 + q4 + q5 + q6)) + 4294967296 * ((q4 + q5 + q6 + q7) + 256 * ((q5 + q6 + q7) + 256 * ((q6 + q7) + 256 * q7))) := by
    rw [h5, f4]; omega
  have d3 : y5 / 4294967296 = (q4 + q5 + q6 + q7) + 256 * ((q5 + q6 + q7) + 256 * ((q6 + q7) + 256 * q7)) := by rw [f5, divB _ _ 4294967296 (by omega)]
  refine ⟨?_, ?_⟩
  · rw [d3, f5]
    clear d1 d2 d3 h4 h5 f4 f5 hy
    have e : (q0 + q1 + q2 + q3) + 256 * (q1 + q2 + q3 + q4) + 65536 * (q2 + q3 + q4 + q5) + 16777216 * (q3 + q4 + q5 + q6) + 4294967296 * ((q4 + q5 + q6 + q7) + 256 * ((q5 + q6 + q7) + 256 * ((q6 + q7) + 256 * q7))) + ((q4 + q5 + q6 + q7) + 256 * ((q5 + q6 + q7) + 256 * ((q6 + q7) + 256 * q7)))
        = (q0 + q1 + q2 + q3 + q4 + q5 + q6 + q7) + 128 * (2 * (q1 + q2 + q3 + q4) + 512 * (q2 + q3 + q4 + q5) + 131072 * (q3 + q4 + q5 + q6) + 33554432 * ((q4 + q5 + q6 + q7) + 256 * ((q5 + q6 + q7) + 256 * ((q6 + q7) + 256 * q7))) + 2 * ((q5 + q6 + q7) + 256 * ((q6 + q7) + 256 * q7))) := by omega
    rw [e, Nat.add_mul_mod_self_left, Nat.mod_eq_of_lt (by omega)]
  · clear d1 d2 d3 h4 h5 f4 f5
    omega

/-- The two sums behind the counts by bytes, and the last mask. -/
theorem fold_bytes (x y y4 y5 : Nat) (hy : y = bytesC 8 x) (h4 : y4 = y + y / 256) (h5 : y5 = y4 + y4 / 65536) : (y5 + y5 / 4294967296) % 128 = cnt 64 x ∧ y ≤ 578721382704613384 := by
  have l := fun z => cnt_le 8 z
  have e : cnt 64 x = cnt 8 (x % 256) + cnt 8 (x / 256 % 256) + cnt 8 (x / 256 / 256 % 256) + cnt 8 (x / 256 / 256 / 256 % 256) + cnt 8 (x / 256 / 256 / 256 / 256 % 256) + cnt 8 (x / 256 / 256 / 256 / 256 / 256 % 256) + cnt 8 (x / 256 / 256 / 256 / 256 / 256 / 256 % 256) + cnt 8 (x / 256 / 256 / 256 / 256 / 256 / 256 / 256 % 256) := by
    have h := fun z => cnt_mod 8 8 z (by omega)
    simp only [Nat.reducePow] at h
    have c1 := fun z => cnt_bytes 1 z; have c2 := fun z => cnt_bytes 2 z; have c3 := fun z => cnt_bytes 3 z; have c4 := fun z => cnt_bytes 4 z
    have c5 := fun z => cnt_bytes 5 z; have c6 := fun z => cnt_bytes 6 z; have c7 := fun z => cnt_bytes 7 z
    simp only [Nat.reduceAdd, Nat.reduceMul] at c1 c2 c3 c4 c5 c6 c7
    rw [c7, c6, c5, c4, c3, c2, c1, h (x / 256 / 256 / 256 / 256 / 256 / 256 / 256)]
    simp only [Nat.add_assoc]
  rw [e]
  refine sum8 _ _ _ _ _ _ _ _ (l _) (l _) (l _) (l _) (l _) (l _) (l _) (l _) y y4 y5 ?_ h4 h5
  rw [hy]
  simp only [bytesC, Nat.mul_zero, Nat.add_zero]

/-- s with the numbers of zs. -/
def addAll (s : Nat) (zs : List Int) : Nat := zs.foldl (fun s i => s ||| 2 ^ i.toNat) s
theorem addAll_snoc (s : Nat) (zs : List Int) (x : Int) : addAll s (zs ++ [x]) = addAll s zs ||| 2 ^ x.toNat := by simp [addAll]
theorem or_pow_u64 (s i : Nat) (hs : U64 s) (hi : i < 64) : U64 (s ||| 2 ^ i) := by
  unfold U64 at *
  exact Nat.or_lt_two_pow (n := 64) hs (Nat.pow_lt_pow_right (by omega) hi)
theorem okC_iff (i : Int) : okC i = true ↔ 0 ≤ i ∧ i < 64 := by simp [okC]
theorem addAll_u64 (s : Nat) (zs : List Int) (hs : U64 s) (h : zs.all okC = true) : U64 (addAll s zs) := by
  induction zs generalizing s with
  | nil => exact hs
  | cons x zs ih =>
    simp only [List.all_cons, Bool.and_eq_true] at h
    have := (okC_iff x).1 h.1
    exact ih _ (or_pow_u64 s x.toNat hs (by omega)) h.2

theorem beq_nat (n m : Nat) : ((n : Int) == (m : Int)) = (n == m) := by
  rw [Bool.eq_iff_iff]; simp; omega
theorem beq_nat0 (n : Nat) : ((n : Int) == 0) = (n == 0) := beq_nat n 0

end Go.Proofs.Cats

/- Plain facts on labels: a level, categories, an integrity. No program is named here. -/
namespace Go.Proofs.Cats

/-- A label's three numbers. -/
structure Lab where
  l : Int
  c : Nat
  i : Int

/-- What any three numbers of a machine are. -/
def Lab.fits (a : Lab) : Prop := U64 a.c

def Lab.right (a : Lab) : Bool := decide (0 ≤ a.l) && decide (a.l ≤ 15) && decide (0 ≤ a.i) && decide (a.i ≤ 7)
def Lab.leq (a b : Lab) : Bool := decide (a.l ≤ b.l) && (lessN a.c b.c == 0) && decide (b.i ≤ a.i)
def Lab.under (a b : Lab) : Bool := a.right && b.right && a.leq b
def Lab.join (a b : Lab) : Lab := ⟨max a.l b.l, a.c ||| b.c, min a.i b.i⟩
def Lab.meet (a b : Lab) : Lab := ⟨min a.l b.l, a.c &&& b.c, max a.i b.i⟩
def Lab.bot : Lab := ⟨0, 0, 7⟩
def Lab.top : Lab := ⟨15, 18446744073709551615, 0⟩
def Lab.zero : Lab := ⟨0, 0, 0⟩
def Lab.same (a b : Lab) : Bool := a.l == b.l && a.c == b.c && a.i == b.i
def Lab.ahead (a b : Lab) : Bool := if a.l != b.l then decide (a.l < b.l) else if a.c != b.c then decide (a.c < b.c) else decide (a.i < b.i)
def Lab.cmp (a b : Lab) : Int := if a.same b then 0 else if a.ahead b then -1 else 1

theorem Lab.ext {a b : Lab} (h1 : a.l = b.l) (h2 : a.c = b.c) (h3 : a.i = b.i) : a = b := by
  cases a; cases b; simp_all
theorem Lab.same_iff (a b : Lab) : a.same b = true ↔ a = b := by
  constructor
  · intro h
    simp [Lab.same] at h
    exact Lab.ext h.1.1 h.1.2 h.2
  · rintro rfl; simp [Lab.same]

/-- One set is in another one. -/
def SubN (a b : Nat) : Prop := ∀ i, a.testBit i = true → b.testBit i = true
theorem sub_iff (a b : Nat) (ha : U64 a) (hb : U64 b) : (lessN a b == 0) = true ↔ SubN a b := by
  constructor
  · intro h i hi
    have h0 : lessN a b = 0 := by simpa using h
    have := lessN_testBit a b i ha hb
    rw [h0, Nat.zero_testBit, hi] at this
    cases e : b.testBit i
    · simp [e] at this
    · rfl
  · intro h
    have := less_eq_zero a b ha hb h
    simp [this]
theorem SubN.antisymm {a b : Nat} (h : SubN a b) (k : SubN b a) : a = b := by
  apply Nat.eq_of_testBit_eq
  intro i
  have h1 := h i
  have h2 := k i
  cases e : a.testBit i <;> cases f : b.testBit i <;> simp_all
theorem SubN.trans {a b c : Nat} (h : SubN a b) (k : SubN b c) : SubN a c := fun i hi => k i (h i hi)
theorem SubN.refl (a : Nat) : SubN a a := fun _ h => h
theorem SubN.or_left (a b : Nat) : SubN a (a ||| b) := fun i h => by rw [Nat.testBit_or, h, Bool.true_or]
theorem SubN.or_right (a b : Nat) : SubN b (a ||| b) := fun i h => by rw [Nat.testBit_or, h, Bool.or_true]
theorem SubN.or {a b c : Nat} (h : SubN a c) (k : SubN b c) : SubN (a ||| b) c := fun i hi => by
  rw [Nat.testBit_or, Bool.or_eq_true] at hi
  rcases hi with hi | hi
  · exact h i hi
  · exact k i hi
theorem SubN.and_left (a b : Nat) : SubN (a &&& b) a := fun i h => by rw [Nat.testBit_and, Bool.and_eq_true] at h; exact h.1
theorem SubN.and_right (a b : Nat) : SubN (a &&& b) b := fun i h => by rw [Nat.testBit_and, Bool.and_eq_true] at h; exact h.2
theorem SubN.and {a b c : Nat} (h : SubN c a) (k : SubN c b) : SubN c (a &&& b) := fun i hi => by
  rw [Nat.testBit_and, h i hi, k i hi]; rfl
theorem SubN.zero (a : Nat) : SubN 0 a := fun i h => by simp at h
theorem SubN.all (a : Nat) (ha : U64 a) : SubN a 18446744073709551615 := fun i h => by
  have e : (18446744073709551615 : Nat) = 2 ^ 64 - 1 := rfl
  rw [e, Nat.testBit_two_pow_sub_one]
  by_cases hi : i < 64
  · simp [hi]
  · have : a.testBit i = false := Nat.testBit_lt_two_pow (Nat.lt_of_lt_of_le (show a < 2 ^ 64 from ha) (Nat.pow_le_pow_right (by omega) (by omega)))
    rw [this] at h; cases h
theorem SubN.le {a b : Nat} (h : SubN a b) : a ≤ b := by
  have e : a &&& b = a := (SubN.and_left a b).antisymm (SubN.and (SubN.refl a) h)
  rw [← e]; exact Nat.and_le_right

theorem U64.or {a b : Nat} (ha : U64 a) (hb : U64 b) : U64 (a ||| b) := Nat.or_lt_two_pow (n := 64) ha hb
theorem U64.and {a : Nat} (ha : U64 a) (b : Nat) : U64 (a &&& b) := Nat.lt_of_le_of_lt Nat.and_le_left ha

theorem Lab.right_iff (a : Lab) : a.right = true ↔ 0 ≤ a.l ∧ a.l ≤ 15 ∧ 0 ≤ a.i ∧ a.i ≤ 7 := by
  unfold Lab.right
  simp only [Bool.and_eq_true, decide_eq_true_iff, and_assoc]
theorem Lab.leq_iff (a b : Lab) (ha : a.fits) (hb : b.fits) : a.leq b = true ↔ a.l ≤ b.l ∧ SubN a.c b.c ∧ b.i ≤ a.i := by
  unfold Lab.leq
  simp only [Bool.and_eq_true, decide_eq_true_iff, sub_iff a.c b.c ha hb, and_assoc]
theorem Lab.under_iff (a b : Lab) (ha : a.fits) (hb : b.fits) : a.under b = true ↔ a.right = true ∧ b.right = true ∧ a.l ≤ b.l ∧ SubN a.c b.c ∧ b.i ≤ a.i := by
  unfold Lab.under
  simp only [Bool.and_eq_true, Lab.leq_iff a b ha hb, and_assoc]

theorem Lab.fits_bot : Lab.bot.fits := by unfold Lab.fits Lab.bot U64; decide
theorem Lab.fits_top : Lab.top.fits := by unfold Lab.fits Lab.top U64; decide
theorem Lab.fits.join {a b : Lab} (ha : a.fits) (hb : b.fits) : (a.join b).fits := U64.or ha hb
theorem Lab.fits.meet {a b : Lab} (ha : a.fits) (_hb : b.fits) : (a.meet b).fits := U64.and ha _
theorem Lab.right_join {a b : Lab} (ha : a.right = true) (hb : b.right = true) : (a.join b).right = true := by
  rw [Lab.right_iff] at *; simp only [Lab.join]; omega
theorem Lab.right_meet {a b : Lab} (ha : a.right = true) (hb : b.right = true) : (a.meet b).right = true := by
  rw [Lab.right_iff] at *; simp only [Lab.meet]; omega
theorem Lab.bot_right : Lab.bot.right = true := by decide
theorem Lab.top_right : Lab.top.right = true := by decide
/-- What lies between the bottom and the top is a label. -/
theorem Lab.between (a : Lab) (ha : a.fits) : (Lab.bot.leq a && a.leq Lab.top) = a.right := by
  rw [Bool.eq_iff_iff, Bool.and_eq_true, Lab.leq_iff _ _ Lab.fits_bot ha, Lab.leq_iff _ _ ha Lab.fits_top, Lab.right_iff]
  simp only [Lab.bot, Lab.top]
  constructor
  · rintro ⟨⟨h1, _, h2⟩, h3, _, h4⟩; omega
  · rintro ⟨h1, h2, h3, h4⟩; exact ⟨⟨h1, SubN.zero _, h4⟩, h2, SubN.all _ ha, h3⟩
theorem Lab.bot_join (a : Lab) (h : a.right = true) : Lab.bot.join a = a := by
  rw [Lab.right_iff] at h
  exact Lab.ext (by simp only [Lab.join, Lab.bot]; omega) (by simp [Lab.join, Lab.bot]) (by simp only [Lab.join, Lab.bot]; omega)
theorem top_and (c : Nat) (h : U64 c) : 18446744073709551615 &&& c = c :=
  (SubN.and_right _ _).antisymm (SubN.and (SubN.all c h) (SubN.refl c))
theorem Lab.top_meet (a : Lab) (hf : a.fits) (h : a.right = true) : Lab.top.meet a = a := by
  rw [Lab.right_iff] at h
  exact Lab.ext (by simp only [Lab.meet, Lab.top]; omega) (top_and _ hf) (by simp only [Lab.meet, Lab.top]; omega)

end Go.Proofs.Cats

/- The contracts of cats.Less and cats.Sub. -/
namespace Go.Proofs.YtfpjbefhfkembaaDoor
open Go.RowKit Go.Proofs.Cats

set_option maxHeartbeats 400000 in
theorem less_any (a b : Nat) (ha : U64 a) (hb : U64 b) (w : World) :
    Calls Tryd.prog 69 #[.int .u64 a, .int .u64 b] w fun e w' => e = .returned (.int .u64 (lessN a b : Nat)) ∧ w = w' := by
  go_enter Tryd.func69, Tryd.ntmps69
  go_wp2
  go_ret
  exact ⟨by rw [u64_andNot_nat a b ha hb]; rfl, rfl⟩

set_option maxHeartbeats 400000 in
theorem sub_any (a b : Nat) (ha : U64 a) (hb : U64 b) (w : World) :
    Calls Tryd.prog 53 #[.int .u64 a, .int .u64 b] w fun e w' => e = .returned (.bool (lessN a b == 0)) ∧ w = w' := by
  go_enter Tryd.func53, Tryd.ntmps53
  go_wp2_with (go_at_call 69; refine (less_any a b ha hb _).mono ?_; rintro e w' ⟨rfl, rfl⟩)
  go_ret
  exact ⟨congrArg (fun b => Ending.returned (.bool b)) (beq_nat0 _), rfl⟩

end Go.Proofs.YtfpjbefhfkembaaDoor

/- The contracts of label's leaves: Bottom, Top, under, judge, Right, Under, join, meet, before, Compare. -/
namespace Go.Proofs.YtfpjbefhfkembaaDoor.Lb
open Go.RowKit Go.Proofs.Cats

theorem bcell {W w1 : World} (hb : Below W.heap.size W w1) : (∀ b o, b < W.heap.size → w1.cell? ⟨b, o, none⟩ = W.cell? ⟨b, o, none⟩) ∧ (∀ b o, b < W.heap.size → w1.frozen? ⟨b, o, none⟩ = W.frozen? ⟨b, o, none⟩) :=
  ⟨fun b o h => hb.cell (p := ⟨b, o, none⟩) h, fun b o h => hb.frozen (p := ⟨b, o, none⟩) h⟩
theorem below_more {n : Nat} {w w1 w2 : World} (h : Below n w w1) (k : Below w1.heap.size w1 w2) (hn : n ≤ w.heap.size := by exact Nat.le_refl _) : Below n w w2 := h.trans (k.mono (Nat.le_trans hn h.size))
theorem Below.new (w : World) (o : Obj) : Below w.heap.size w (w.alloc o) := (Below.refl _ w).alloc (Nat.le_refl _) _

set_option maxHeartbeats 400000 in
theorem bottom_at (w : World) :
    Calls Tryd.prog 51 #[] w fun e w' => e = .returned (.agg #[.int .i64 0, .int .u64 0, .int .i64 7]) ∧ w.alloc (.cells #[.int .i64 0, .int .u64 0, .int .i64 7] 24) = w' := by
  go_enter Tryd.func51, Tryd.ntmps51
  go_wp2
  exact bodyPost_ret (v := .agg #[.int .i64 0, .int .u64 0, .int .i64 7]) (by simp [results, Tryd.results51, go_sem]) rfl ⟨rfl, rfl⟩

theorem bottom_any (w : World) :
    Calls Tryd.prog 51 #[] w fun e w' => e = .returned (.agg #[.int .i64 0, .int .u64 0, .int .i64 7]) ∧ Below w.heap.size w w' :=
  (bottom_at w).mono fun _ _ ⟨he, hw⟩ => ⟨he, hw ▸ Below.new _ _⟩

set_option maxHeartbeats 400000 in
theorem top_at (w : World) :
    Calls Tryd.prog 52 #[] w fun e w' => e = .returned (.agg #[.int .i64 15, .int .u64 18446744073709551615, .int .i64 0]) ∧ w.alloc (.cells #[.int .i64 15, .int .u64 18446744073709551615, .int .i64 0] 24) = w' := by
  go_enter Tryd.func52, Tryd.ntmps52
  go_wp2
  exact bodyPost_ret (v := .agg #[.int .i64 15, .int .u64 18446744073709551615, .int .i64 0]) (by simp [results, Tryd.results52, go_sem]) rfl ⟨rfl, rfl⟩

theorem top_any (w : World) :
    Calls Tryd.prog 52 #[] w fun e w' => e = .returned (.agg #[.int .i64 15, .int .u64 18446744073709551615, .int .i64 0]) ∧ Below w.heap.size w w' :=
  (top_at w).mono fun _ _ ⟨he, hw⟩ => ⟨he, hw ▸ Below.new _ _⟩

set_option maxHeartbeats 400000 in
theorem under_at (a b : Lab) (ha : a.fits) (hb : b.fits) (w : World) :
    Calls Tryd.prog 38 #[.agg #[.int .i64 a.l, .int .u64 a.c, .int .i64 a.i, .int .i64 b.l, .int .u64 b.c, .int .i64 b.i]] w fun e w' => e = .returned (.bool (a.leq b)) ∧ w.alloc (.cells #[.int .i64 a.l, .int .u64 a.c, .int .i64 a.i, .int .i64 b.l, .int .u64 b.c, .int .i64 b.i] 72) = w' := by
  by_cases h1 : a.l ≤ b.l
  · by_cases h2 : (lessN a.c b.c == 0) = true
    · have ev : a.leq b = decide (b.i ≤ a.i) := by unfold Lab.leq; rw [decide_eq_true h1, h2]; rfl
      rw [ev]
      have H2 := Lib.hid h2
      clear ev h2
      go_enter Tryd.func38, Tryd.ntmps38
      go_wp2_with fail
      refine (sub_any a.c b.c ha hb _).mono ?_
      rintro e w1 ⟨he, rfl⟩
      rw [H2.out] at he
      subst he
      go_wp2
      go_ret
      exact ⟨rfl, rfl⟩
    · have ev : a.leq b = false := by unfold Lab.leq; rw [Bool.eq_false_iff.2 h2]; simp
      rw [ev]
      have H2 := Lib.hid h2
      clear ev h2
      go_enter Tryd.func38, Tryd.ntmps38
      go_wp2_with fail
      refine (sub_any a.c b.c ha hb _).mono ?_
      rintro e w1 ⟨he, rfl⟩
      rw [Bool.eq_false_iff.2 H2.out] at he
      subst he
      go_wp2
      go_ret
      exact ⟨rfl, rfl⟩
  · have ev : a.leq b = false := by unfold Lab.leq; rw [decide_eq_false h1]; rfl
    rw [ev]
    clear ev
    go_enter Tryd.func38, Tryd.ntmps38
    go_wp2
    go_ret
    exact ⟨rfl, rfl⟩

theorem under_any (a b : Lab) (ha : a.fits) (hb : b.fits) (w : World) :
    Calls Tryd.prog 38 #[.agg #[.int .i64 a.l, .int .u64 a.c, .int .i64 a.i, .int .i64 b.l, .int .u64 b.c, .int .i64 b.i]] w fun e w' => e = .returned (.bool (a.leq b)) ∧ Below w.heap.size w w' :=
  (under_at a b ha hb w).mono fun _ _ ⟨he, hw⟩ => ⟨he, hw ▸ Below.new _ _⟩

/-- What judge tells: nil, or what is no label. -/
def errL (a : Lab) : Value := if a.right then .nilIface else .iface 98 (.agg #[.int .i64 a.l, .int .u64 a.c, .int .i64 a.i])

theorem under_bot (a : Lab) (ha : a.fits) (b : Bool) (h : Hid (Lab.bot.leq a = b)) (w : World) :
    Calls Tryd.prog 38 #[.agg #[.int .i64 0, .int .u64 0, .int .i64 7, .int .i64 a.l, .int .u64 a.c, .int .i64 a.i]] w fun e w' => e = .returned (.bool b) ∧ Below w.heap.size w w' := by
  have := under_any Lab.bot a Lab.fits_bot ha w
  rw [h.out] at this
  exact this
theorem top_c : ((Lab.top.c : Nat) : Int) = 18446744073709551615 := rfl
theorem under_top (a : Lab) (ha : a.fits) (b : Bool) (h : Hid (a.leq Lab.top = b)) (w : World) :
    Calls Tryd.prog 38 #[.agg #[.int .i64 a.l, .int .u64 a.c, .int .i64 a.i, .int .i64 15, .int .u64 18446744073709551615, .int .i64 0]] w fun e w' => e = .returned (.bool b) ∧ Below w.heap.size w w' := by
  have := under_any a Lab.top ha Lab.fits_top w
  rw [h.out, top_c] at this
  exact this

end Go.Proofs.YtfpjbefhfkembaaDoor.Lb

/- The contracts of judge, Right, Under. -/
namespace Go.Proofs.YtfpjbefhfkembaaDoor.Lb
open Go.RowKit Go.Proofs.Cats

set_option maxHeartbeats 1000000 in
theorem judge_in (a : Lab) (ha : a.fits) (H1 : Hid (Lab.bot.leq a = true)) (H2 : Hid (a.leq Lab.top = true)) (w : World) :
    Calls Tryd.prog 37 #[.agg #[.int .i64 a.l, .int .u64 a.c, .int .i64 a.i]] w fun e w' => e = .returned (.nilIface) ∧ Below w.heap.size w w' := by
  go_enter Tryd.func37, Tryd.ntmps37
  go_wp2_with fail
  go_region_held3 (fun w' => w'.cell? ⟨w.heap.size, 0, none⟩ = some (.int .i64 a.l) ∧ w'.cell? ⟨w.heap.size, 1, none⟩ = some (.int .u64 a.c) ∧ w'.cell? ⟨w.heap.size, 2, none⟩ = some (.int .i64 a.i) ∧ Below w.heap.size w w')
    (first | (go_split_ands; exact ⟨cell_later hb (by assumption), cell_later hb (by assumption), cell_later hb (by assumption), below_more (by assumption) hb⟩) | (exact ⟨by simp, by simp, by simp, (Below.new _ _).drew⟩) | (go_keep; done))
    (first
    | (go_at_call 51; ((with_reducible refine (bottom_any _).mono ?_); rintro e w' ⟨rfl, hb⟩))
    | (go_at_call 52; ((with_reducible refine (top_any _).mono ?_); rintro e w' ⟨rfl, hb⟩))
    | (go_at_call 38; ((with_reducible refine (under_bot a ha true H1 _).mono ?_); rintro e w' ⟨rfl, hb⟩))
    | (go_at_call 38; ((with_reducible refine (under_top a ha true H2 _).mono ?_); rintro e w' ⟨rfl, hb⟩)))
  go_split_ands
  go_wp2
  go_ret
  exact ⟨rfl, by assumption⟩

set_option maxHeartbeats 1000000 in
theorem judge_top (a : Lab) (ha : a.fits) (H1 : Hid (Lab.bot.leq a = true)) (H2 : Hid (a.leq Lab.top = false)) (w : World) :
    Calls Tryd.prog 37 #[.agg #[.int .i64 a.l, .int .u64 a.c, .int .i64 a.i]] w fun e w' => e = .returned (.iface 98 (.agg #[.int .i64 a.l, .int .u64 a.c, .int .i64 a.i])) ∧ Below w.heap.size w w' := by
  go_enter Tryd.func37, Tryd.ntmps37
  go_wp2_with fail
  go_region_held3 (fun w' => w'.cell? ⟨w.heap.size, 0, none⟩ = some (.int .i64 a.l) ∧ w'.cell? ⟨w.heap.size, 1, none⟩ = some (.int .u64 a.c) ∧ w'.cell? ⟨w.heap.size, 2, none⟩ = some (.int .i64 a.i) ∧ Below w.heap.size w w')
    (first | (go_split_ands; exact ⟨cell_later hb (by assumption), cell_later hb (by assumption), cell_later hb (by assumption), below_more (by assumption) hb⟩) | (exact ⟨by simp, by simp, by simp, (Below.new _ _).drew⟩) | (go_keep; done))
    (first
    | (go_at_call 51; ((with_reducible refine (bottom_any _).mono ?_); rintro e w' ⟨rfl, hb⟩))
    | (go_at_call 52; ((with_reducible refine (top_any _).mono ?_); rintro e w' ⟨rfl, hb⟩))
    | (go_at_call 38; ((with_reducible refine (under_bot a ha true H1 _).mono ?_); rintro e w' ⟨rfl, hb⟩))
    | (go_at_call 38; ((with_reducible refine (under_top a ha false H2 _).mono ?_); rintro e w' ⟨rfl, hb⟩)))
  go_split_ands
  go_wp2
  go_ret
  exact ⟨rfl, by assumption⟩

theorem under_bot_at (a : Lab) (ha : a.fits) (b : Bool) (h : Hid (Lab.bot.leq a = b)) (w : World) :
    Calls Tryd.prog 38 #[.agg #[.int .i64 0, .int .u64 0, .int .i64 7, .int .i64 a.l, .int .u64 a.c, .int .i64 a.i]] w fun e w' => e = .returned (.bool b) ∧ w.alloc (.cells #[.int .i64 0, .int .u64 0, .int .i64 7, .int .i64 a.l, .int .u64 a.c, .int .i64 a.i] 72) = w' := by
  have := under_at Lab.bot a Lab.fits_bot ha w
  rw [h.out] at this
  exact this

set_option maxHeartbeats 1000000 in
theorem judge_bot (a : Lab) (ha : a.fits) (H1 : Hid (Lab.bot.leq a = false)) (w : World) :
    Calls Tryd.prog 37 #[.agg #[.int .i64 a.l, .int .u64 a.c, .int .i64 a.i]] w fun e w' => e = .returned (.iface 98 (.agg #[.int .i64 a.l, .int .u64 a.c, .int .i64 a.i])) ∧ Below w.heap.size w w' := by
  go_enter Tryd.func37, Tryd.ntmps37
  go_wp2_with fail
  go_region_with (first
    | (go_at_call 51; ((with_reducible refine (bottom_at _).mono ?_); rintro e w' ⟨rfl, rfl⟩))
    | (go_at_call 38; ((with_reducible refine (under_bot_at a ha false H1 _).mono ?_); rintro e w' ⟨rfl, rfl⟩)))
  all_goals go_wp2
  all_goals go_ret
  all_goals exact ⟨rfl, ((((Below.refl _ w).alloc (Nat.le_refl _) _).alloc (by simp) _).alloc (by simp; omega) _).drew⟩

theorem judge_any (a : Lab) (ha : a.fits) (w : World) :
    Calls Tryd.prog 37 #[.agg #[.int .i64 a.l, .int .u64 a.c, .int .i64 a.i]] w fun e w' => e = .returned (errL a) ∧ Below w.heap.size w w' := by
  have h := Lab.between a ha
  unfold errL
  cases h1 : Lab.bot.leq a
  · rw [h1] at h
    rw [← h]
    exact judge_bot a ha (Lib.hid h1) w
  · cases h2 : a.leq Lab.top
    · rw [h1, h2] at h
      rw [← h]
      exact judge_top a ha (Lib.hid h1) (Lib.hid h2) w
    · rw [h1, h2] at h
      rw [← h]
      exact judge_in a ha (Lib.hid h1) (Lib.hid h2) w

theorem errL_yes (a : Lab) (h : a.right = true) : errL a = .nilIface := by unfold errL; rw [h]; rfl
theorem errL_no (a : Lab) (h : a.right = false) : errL a = .iface 98 (.agg #[.int .i64 a.l, .int .u64 a.c, .int .i64 a.i]) := by unfold errL; rw [h]; rfl

set_option maxHeartbeats 400000 in
theorem right_any (a : Lab) (ha : a.fits) (w : World) :
    Calls Tryd.prog 24 #[.agg #[.int .i64 a.l, .int .u64 a.c, .int .i64 a.i]] w fun e w' => e = .returned (.bool a.right) ∧ Below w.heap.size w w' := by
  cases h : a.right
  · have H := Lib.hid (errL_no a h)
    clear h
    go_enter Tryd.func24, Tryd.ntmps24
    go_wp2_with fail
    refine (judge_any a ha _).mono ?_
    rintro e w1 ⟨he, hb⟩
    rw [H.out] at he
    subst he
    go_wp2
    go_ret
    exact ⟨rfl, below_more (Below.new _ _) hb⟩
  · have H := Lib.hid (errL_yes a h)
    clear h
    go_enter Tryd.func24, Tryd.ntmps24
    go_wp2_with fail
    refine (judge_any a ha _).mono ?_
    rintro e w1 ⟨he, hb⟩
    rw [H.out] at he
    subst he
    go_wp2
    go_ret
    exact ⟨rfl, below_more (Below.new _ _) hb⟩


theorem under_no (a b : Lab) (h : a.right = false) : a.under b = false := by unfold Lab.under; rw [h]; rfl
theorem under_no2 (a b : Lab) (h : b.right = false) : a.under b = false := by unfold Lab.under; rw [h, Bool.and_false]; rfl
theorem under_yes (a b : Lab) (h : a.right = true) (k : b.right = true) : a.under b = a.leq b := by unfold Lab.under; rw [h, k]; rfl

set_option maxHeartbeats 400000 in
theorem Under_any (a b : Lab) (ha : a.fits) (hb : b.fits) (w : World) :
    Calls Tryd.prog 25 #[.agg #[.int .i64 a.l, .int .u64 a.c, .int .i64 a.i], .agg #[.int .i64 b.l, .int .u64 b.c, .int .i64 b.i]] w fun e w' => e = .returned (.bool (a.under b)) ∧ Below w.heap.size w w' := by
  have B2 : Below w.heap.size w ((w.alloc (.cells #[.int .i64 a.l, .int .u64 a.c, .int .i64 a.i] 24)).alloc (.cells #[.int .i64 b.l, .int .u64 b.c, .int .i64 b.i] 24)) := (Below.new _ _).alloc (by simp) _
  cases h : a.right
  · have H := Lib.hid h
    rw [under_no a b h]
    clear h
    go_enter Tryd.func25, Tryd.ntmps25
    go_wp2_with fail
    refine (right_any a ha _).mono ?_
    rintro e w1 ⟨he, h1⟩
    rw [H.out] at he
    subst he
    go_wp2
    go_ret
    exact ⟨rfl, below_more B2 h1⟩
  · cases k : b.right
    · have H := Lib.hid h
      have K := Lib.hid k
      rw [under_no2 a b k]
      clear h k
      go_enter Tryd.func25, Tryd.ntmps25
      go_wp2_with fail
      refine (right_any a ha _).mono ?_
      rintro e w1 ⟨he, h1⟩
      rw [H.out] at he
      subst he
      obtain ⟨hc, _⟩ := bcell h1
      go_wp2_with fail
      refine (right_any b hb _).mono ?_
      rintro e w2 ⟨he, h2⟩
      rw [K.out] at he
      subst he
      go_wp2
      go_ret
      exact ⟨rfl, below_more (below_more B2 h1) h2⟩
    · have H := Lib.hid h
      have K := Lib.hid k
      rw [under_yes a b h k]
      clear h k
      go_enter Tryd.func25, Tryd.ntmps25
      go_wp2_with fail
      refine (right_any a ha _).mono ?_
      rintro e w1 ⟨he, h1⟩
      rw [H.out] at he
      subst he
      have c0 : w1.cell? ⟨w.heap.size, 0, none⟩ = some (.int .i64 a.l) := cell_later h1 (by simp)
      have c1 : w1.cell? ⟨w.heap.size, 1, none⟩ = some (.int .u64 a.c) := cell_later h1 (by simp)
      have c2 : w1.cell? ⟨w.heap.size, 2, none⟩ = some (.int .i64 a.i) := cell_later h1 (by simp)
      have d0 : w1.cell? ⟨w.heap.size + 1, 0, none⟩ = some (.int .i64 b.l) := cell_later h1 (by simp)
      have d1 : w1.cell? ⟨w.heap.size + 1, 1, none⟩ = some (.int .u64 b.c) := cell_later h1 (by simp)
      have d2 : w1.cell? ⟨w.heap.size + 1, 2, none⟩ = some (.int .i64 b.i) := cell_later h1 (by simp)
      go_wp2_with fail
      refine (right_any b hb _).mono ?_
      rintro e w2 ⟨he, h2⟩
      rw [K.out] at he
      subst he
      replace c0 := cell_later h2 c0
      replace c1 := cell_later h2 c1
      replace c2 := cell_later h2 c2
      replace d0 := cell_later h2 d0
      replace d1 := cell_later h2 d1
      replace d2 := cell_later h2 d2
      go_wp2_with fail
      refine (under_any a b ha hb _).mono ?_
      rintro e w3 ⟨rfl, h3⟩
      go_wp2
      go_ret
      exact ⟨rfl, below_more (below_more (below_more B2 h1) h2) h3⟩

end Go.Proofs.YtfpjbefhfkembaaDoor.Lb

/- label == label, in the walk. -/
namespace Go.Proofs.YtfpjbefhfkembaaDoor.Lb
open Go.RowKit Go.Proofs.Cats

theorem labFields : (Tryd.prog.fieldsOf 24).toList.map (fun f => (f.name == "_", f.type, f.offset)) = [(false, 3, 0), (false, 22, 1), (false, 3, 2)] := by kernel_rfl

set_option maxHeartbeats 400000 in
theorem eqInL (a b : Lab) (w : World) : (Op.equalIn 10000 24 (.agg #[.int .i64 a.l, .int .u64 a.c, .int .i64 a.i]) (.agg #[.int .i64 b.l, .int .u64 b.c, .int .i64 b.i])).run Tryd.prog w = .ok (a.same b) w := by
  by_cases h1 : a.l = b.l
  · by_cases h2 : a.c = b.c
    · have ev : a.same b = (a.i == b.i) := by unfold Lab.same; simp [h1, h2]
      rw [ev, h1, h2]
      clear ev
      by_cases h3 : a.i = b.i
      · rw [h3]
        go_simp
      · have k2 : (a.i == b.i) = false := by simp [h3]
        rw [k2]
        go_simp
    · have ev : a.same b = false := by unfold Lab.same; simp [h2]
      have k2 : (((a.c : Nat) : Int) == ((b.c : Nat) : Int)) = false := by simp; omega
      rw [ev, h1]
      go_simp
  · have ev : a.same b = false := by unfold Lab.same; simp [h1]
    have k2 : (a.l == b.l) = false := by simp [h1]
    rw [ev]
    go_simp
theorem eqL (a b : Lab) (w : World) : (binOp .eql 24 (.agg #[.int .i64 a.l, .int .u64 a.c, .int .i64 a.i]) (.agg #[.int .i64 b.l, .int .u64 b.c, .int .i64 b.i])).run Tryd.prog w = .ok (.bool (a.same b)) w := by
  rw [run_eql_struct, eqInL]; rfl

end Go.Proofs.YtfpjbefhfkembaaDoor.Lb

/- How labels lie in memory; writing a cell. -/
namespace Go.Proofs.YtfpjbefhfkembaaDoor.Lb
open Go.RowKit Go.Proofs.Cats Go.Shelf

/-- The three cells of a label, at block b from o on. -/
def LabAt (W : World) (b o : Nat) (x : Lab) : Prop :=
  W.cell? ⟨b, o, none⟩ = some (.int .i64 x.l) ∧ W.cell? ⟨b, o + 1, none⟩ = some (.int .u64 x.c) ∧ W.cell? ⟨b, o + 2, none⟩ = some (.int .i64 x.i)
theorem LabAt.below {n : Nat} {A B : World} {b o : Nat} {x : Lab} (h : LabAt A b o x) (k : Below n A B) (hb : b < n) : LabAt B b o x :=
  ⟨(k.cell (p := ⟨b, o, none⟩) hb).trans h.1, (k.cell (p := ⟨b, o + 1, none⟩) hb).trans h.2.1, (k.cell (p := ⟨b, o + 2, none⟩) hb).trans h.2.2⟩

/-- The slice value sv holds the labels zs, in a block below n₀, if there are any. -/
def Labs (n₀ : Nat) (W : World) (sv : Value) (zs : List Lab) : Prop :=
  ∃ ao cap, sv = .slice ao zs.length cap ∧ (zs ≠ [] → ∃ b off, ao = some ⟨b, off, none⟩ ∧ b < n₀ ∧ ∀ j x, zs[j]? = some x → x.fits ∧ LabAt W b (off + j * 3) x)
theorem Labs.below {n₀ : Nat} {A B : World} (h : Below n₀ A B) {sv : Value} {zs : List Lab} : Labs n₀ A sv zs → Labs n₀ B sv zs
  | ⟨ao, cap, e, k⟩ => ⟨ao, cap, e, fun hz => let ⟨b, off, e1, hb, hc⟩ := k hz; ⟨b, off, e1, hb, fun j x hj => ⟨(hc j x hj).1, (hc j x hj).2.below h hb⟩⟩⟩
theorem Labs.mono {n₀ n₁ : Nat} (h : n₀ ≤ n₁) {A : World} {sv : Value} {zs : List Lab} : Labs n₀ A sv zs → Labs n₁ A sv zs
  | ⟨ao, cap, e, k⟩ => ⟨ao, cap, e, fun hz => let ⟨b, off, e1, hb, hc⟩ := k hz; ⟨b, off, e1, by omega, hc⟩⟩
theorem Labs.fits {n₀ : Nat} {A : World} {sv : Value} {zs : List Lab} : Labs n₀ A sv zs → ∀ x ∈ zs, x.fits
  | ⟨_, _, _, k⟩ => fun x hx => by
    obtain ⟨b, off, _, _, hc⟩ := k (fun e => by subst e; cases hx)
    obtain ⟨j, hj⟩ := List.getElem?_of_mem hx
    exact (hc j x hj).1

theorem below_grown {w w' : World} (h : Below w.heap.size w w') : w.grownBy w' none := ⟨h.os, h.tape, h.output, h.size, fun k hk _ => h.block k hk⟩
theorem take_next {α : Type} (zs : List α) (k : Nat) (x : α) (h : zs[k]? = some x) : zs.take (k + 1) = zs.take k ++ [x] := by
  obtain ⟨hk, rfl⟩ := List.getElem?_eq_some_iff.1 h
  rw [List.take_append_getElem hk]

/-- errors.errorType's cell. -/
def ErrT (w : World) : Prop := w.cell? ⟨4, 0, none⟩ = some (.iface 131 (.agg #[.pointer (some ⟨8, 46, none⟩)]))
theorem ErrT.lt {w : World} (h : ErrT w) : 4 < w.heap.size := World.block_lt_of_cell? w _ h
theorem ErrT.below {n : Nat} {A B : World} (h : ErrT A) (hn : 4 < n) (hb : Below n A B) : ErrT B := (hb.cell (p := ⟨4, 0, none⟩) hn).trans h
theorem ErrT.more {A B : World} (h : ErrT A) (hb : Below A.heap.size A B) : ErrT B := h.below h.lt hb

theorem one_at (w : World) (x : Lab) (hg : ErrT w) : Below w.heap.size w (w.alloc (.cells #[.int .i64 x.l, .int .u64 x.c, .int .i64 x.i] 24)) ∧ ErrT (w.alloc (.cells #[.int .i64 x.l, .int .u64 x.c, .int .i64 x.i] 24)) ∧ (w.alloc (.cells #[.int .i64 x.l, .int .u64 x.c, .int .i64 x.i] 24)).cell? ⟨w.heap.size, 0, none⟩ = some (.int .i64 x.l) ∧ (w.alloc (.cells #[.int .i64 x.l, .int .u64 x.c, .int .i64 x.i] 24)).cell? ⟨w.heap.size, 1, none⟩ = some (.int .u64 x.c) ∧ (w.alloc (.cells #[.int .i64 x.l, .int .u64 x.c, .int .i64 x.i] 24)).cell? ⟨w.heap.size, 2, none⟩ = some (.int .i64 x.i) := by
  have hB : Below w.heap.size w (w.alloc (.cells #[.int .i64 x.l, .int .u64 x.c, .int .i64 x.i] 24)) := ((Below.refl _ w).alloc (Nat.le_refl _) _)
  refine ⟨hB, hg.more hB, ?_, ?_, ?_⟩ <;> go_simp
theorem two_at (w : World) (x y : Lab) (hg : ErrT w) : Below w.heap.size w ((w.alloc (.cells #[.int .i64 x.l, .int .u64 x.c, .int .i64 x.i] 24)).alloc (.cells #[.int .i64 y.l, .int .u64 y.c, .int .i64 y.i] 24)) ∧ ErrT ((w.alloc (.cells #[.int .i64 x.l, .int .u64 x.c, .int .i64 x.i] 24)).alloc (.cells #[.int .i64 y.l, .int .u64 y.c, .int .i64 y.i] 24)) ∧ ((w.alloc (.cells #[.int .i64 x.l, .int .u64 x.c, .int .i64 x.i] 24)).alloc (.cells #[.int .i64 y.l, .int .u64 y.c, .int .i64 y.i] 24)).cell? ⟨w.heap.size, 0, none⟩ = some (.int .i64 x.l) ∧ ((w.alloc (.cells #[.int .i64 x.l, .int .u64 x.c, .int .i64 x.i] 24)).alloc (.cells #[.int .i64 y.l, .int .u64 y.c, .int .i64 y.i] 24)).cell? ⟨w.heap.size, 1, none⟩ = some (.int .u64 x.c) ∧ ((w.alloc (.cells #[.int .i64 x.l, .int .u64 x.c, .int .i64 x.i] 24)).alloc (.cells #[.int .i64 y.l, .int .u64 y.c, .int .i64 y.i] 24)).cell? ⟨w.heap.size, 2, none⟩ = some (.int .i64 x.i) ∧ ((w.alloc (.cells #[.int .i64 x.l, .int .u64 x.c, .int .i64 x.i] 24)).alloc (.cells #[.int .i64 y.l, .int .u64 y.c, .int .i64 y.i] 24)).cell? ⟨w.heap.size + 1, 0, none⟩ = some (.int .i64 y.l) ∧ ((w.alloc (.cells #[.int .i64 x.l, .int .u64 x.c, .int .i64 x.i] 24)).alloc (.cells #[.int .i64 y.l, .int .u64 y.c, .int .i64 y.i] 24)).cell? ⟨w.heap.size + 1, 1, none⟩ = some (.int .u64 y.c) ∧ ((w.alloc (.cells #[.int .i64 x.l, .int .u64 x.c, .int .i64 x.i] 24)).alloc (.cells #[.int .i64 y.l, .int .u64 y.c, .int .i64 y.i] 24)).cell? ⟨w.heap.size + 1, 2, none⟩ = some (.int .i64 y.i) := by
  have hB : Below w.heap.size w ((w.alloc (.cells #[.int .i64 x.l, .int .u64 x.c, .int .i64 x.i] 24)).alloc (.cells #[.int .i64 y.l, .int .u64 y.c, .int .i64 y.i] 24)) := (((Below.refl _ w).alloc (Nat.le_refl _) _).alloc (by simp) _)
  refine ⟨hB, hg.more hB, ?_, ?_, ?_, ?_, ?_, ?_⟩ <;> go_simp

theorem setO {W : World} {a b : Addr} {v x : Value} (h : W.cell? a = some v) (hne : b ≠ a) : (W.setCell b x).cell? a = some v := (World.cell?_setCell_other _ _ _ _ (fun e => hne e)).trans h
theorem setS {W : World} {a : Addr} {v : Value} (x : Value) (h : W.cell? a = some v) : (W.setCell a x).cell? a = some x := World.cell?_setCell_same' _ _ _ (by rw [h]; rfl)
theorem setF {W : World} {a b : Addr} {x : Value} (h : W.frozen? a = false) : (W.setCell b x).frozen? a = false := by rw [World.frozen?_setCell]; exact h
theorem ne_blk {b b' o o' : Nat} (h : b ≠ b') : (⟨b, o, none⟩ : Addr) ≠ ⟨b', o', none⟩ := fun e => h (congrArg Addr.block e)
theorem ne_off {b b' o o' : Nat} (h : o ≠ o') : (⟨b, o, none⟩ : Addr) ≠ ⟨b', o', none⟩ := fun e => h (congrArg Addr.off e)

end Go.Proofs.YtfpjbefhfkembaaDoor.Lb

/- The contracts of the document's own Has, Without, Less, Sub, for what needs no more of categories. -/
namespace Go.Proofs.YtfpjbefhfkembaaDoor.Lb
open Go.RowKit Go.Proofs.Cats

/-- Is i in s? -/
def hasB (s : Nat) (i : Int) : Bool := okC i && s.testBit i.toNat
theorem hasB_ok (s k : Nat) (hk : k < 64) : hasB s (k : Int) = s.testBit k := by
  have h : okC (k : Int) = true := (okC_iff _).2 (by omega)
  simp [hasB, h]
theorem hasB_no (s : Nat) (i : Int) (h : okC i = false) : hasB s i = false := by simp [hasB, h]
theorem pow_u64 (k : Nat) (hk : k < 64) : U64 (2 ^ k) := Nat.pow_lt_pow_right (m := k) (n := 64) (by omega) hk
theorem testBit_without (s k i : Nat) (hs : U64 s) (hk : k < 64) : (lessN s (2 ^ k)).testBit i = (s.testBit i && !decide (k = i)) := by
  rw [lessN_testBit s _ i hs (pow_u64 k hk), Nat.testBit_two_pow]
def withoutV (s : Nat) (i : Int) : Nat := if okC i then lessN s (2 ^ i.toNat) else 0
def withoutE (i : Int) : Int := if okC i then 0 else 10
theorem withoutV_one (s k : Nat) (hk : k < 64) : withoutV s (k : Int) = lessN s (2 ^ k) := by
  have h : okC (k : Int) = true := (okC_iff _).2 (by omega)
  simp [withoutV, h]

theorem testBit_rem (s k : Nat) : (((s : Int) / 2 ^ k).tmod 2 == 1) = s.testBit k := by
  have e1 : ((s : Int) / 2 ^ k) = ((s / 2 ^ k : Nat) : Int) := by simp
  rw [e1, Nat.testBit_eq_decide_div_mod_eq, Bool.eq_iff_iff, beq_iff_eq, decide_eq_true_iff]
  generalize s / 2 ^ k = q
  rw [Int.tmod_eq_emod_of_nonneg (by omega)]
  omega

set_option maxHeartbeats 400000 in
theorem refHas_any (s : Nat) (i : Int) (w : World) :
    Calls Tryd.prog 67 #[.int .u64 s, .int .i64 i] w fun e W' => e = .returned (.bool (hasB s i)) ∧ w = W' := by
  by_cases h0 : i < 0
  · have ev : hasB s i = false := hasB_no s i (by simp [okC, Int.not_le.2 h0])
    have h0' : ¬ 0 ≤ i := by omega
    rw [ev]
    clear ev
    go_enter Tryd.func67, Tryd.ntmps67
    go_wp2
    go_ret
    exact ⟨rfl, rfl⟩
  · by_cases h1 : 64 ≤ i
    · have ev : hasB s i = false := hasB_no s i (by simp [okC, Int.not_lt.2 h1])
      have h0' : 0 ≤ i := by omega
      have h1' : ¬ i < 64 := by omega
      rw [ev]
      clear ev
      go_enter Tryd.func67, Tryd.ntmps67
      go_wp2
      go_ret
      exact ⟨rfl, rfl⟩
    · obtain ⟨k, rfl⟩ := Int.eq_ofNat_of_zero_le (Int.not_lt.1 h0)
      have hk : k < 64 := by omega
      rw [hasB_ok s k hk, ← testBit_rem]
      clear h0 h1
      go_enter Tryd.func67, Tryd.ntmps67
      go_wp2
      go_ret
      exact ⟨rfl, rfl⟩


theorem wrap_pow (k : Nat) (hk : k < 64) : IntKind.u64.wrap ((2 : Int) ^ k) = ((2 ^ k : Nat) : Int) := by
  have hp := pow_u64 k hk
  unfold U64 at hp
  have e1 : ((2 : Int) ^ k) = ((2 ^ k : Nat) : Int) := by simp
  rw [IntKind.wrap_u64, e1]
  generalize 2 ^ k = q at *
  omega
theorem less_pow_not (s k : Nat) (hs : U64 s) (hk : k < 64) (h : s.testBit k = false) : lessN s (2 ^ k) = s := by
  apply Nat.eq_of_testBit_eq
  intro i
  rw [testBit_without s k i hs hk]
  by_cases e : k = i
  · subst e; simp [h]
  · simp [e]
theorem less_pow_has (s k : Nat) (hs : U64 s) (hk : k < 64) (h : s.testBit k = true) : lessN s (2 ^ k) + 2 ^ k = s := by
  have h1 := less_add s (2 ^ k) hs (pow_u64 k hk)
  have h2 : lessN s (lessN s (2 ^ k)) = 2 ^ k := by
    apply Nat.eq_of_testBit_eq
    intro i
    rw [less_less s _ hs (pow_u64 k hk), Nat.testBit_two_pow]
    by_cases e : k = i
    · subst e; simp [h]
    · simp [e]
  rw [h2] at h1
  exact h1
theorem sub_pow_int (s k : Nat) (hs : U64 s) (hk : k < 64) (h : s.testBit k = true) : IntKind.u64.wrap ((s : Int) - IntKind.u64.wrap (2 ^ k)) = ((lessN s (2 ^ k) : Nat) : Int) := by
  have h1 := less_pow_has s k hs hk h
  unfold U64 at hs
  rw [wrap_pow k hk, IntKind.wrap_u64]
  generalize lessN s (2 ^ k) = L at *
  generalize 2 ^ k = q at *
  omega

/-- Of the first j bits. -/
theorem less_mod_succ (a b j : Nat) (ha : U64 a) (hb : U64 b) (hj : j < 64) :
    lessN a (b % 2 ^ (j + 1)) = if b.testBit j then lessN (lessN a (b % 2 ^ j)) (2 ^ j) else lessN a (b % 2 ^ j) := by
  have hm : ∀ n, U64 (b % 2 ^ n) := fun n => Nat.lt_of_le_of_lt (Nat.mod_le _ _) hb
  apply Nat.eq_of_testBit_eq
  intro i
  cases ht : b.testBit j
  · rw [if_neg (by simp), lessN_testBit a _ i ha (hm _), lessN_testBit a _ i ha (hm _), Nat.testBit_mod_two_pow, Nat.testBit_mod_two_pow]
    by_cases e : i = j
    · subst e; simp [ht]
    · have : decide (i < j + 1) = decide (i < j) := by simp; omega
      rw [this]
  · rw [if_pos rfl, testBit_without _ j i (ha.less _) hj, lessN_testBit a _ i ha (hm _), lessN_testBit a _ i ha (hm _), Nat.testBit_mod_two_pow, Nat.testBit_mod_two_pow]
    by_cases e : i = j
    · subst e; simp [ht]
    · have : decide (i < j + 1) = decide (i < j) := by simp; omega
      have e' : ¬ j = i := fun h => e h.symm
      rw [this]
      simp [e']

theorem mod64 (b : Nat) (hb : U64 b) : b % 2 ^ 64 = b := Nat.mod_eq_of_lt hb

/-- None of the first j bits of a is missing in b. -/
def NoneLeft (a b j : Nat) : Prop := ∀ i, i < j → a.testBit i = true → b.testBit i = true

theorem less_zero_of (a b : Nat) (ha : U64 a) (hb : U64 b) (h : NoneLeft a b 64) : (lessN a b == 0) = true := by
  rw [beq_iff_eq]
  refine less_eq_zero a b ha hb fun i hi => ?_
  by_cases hl : i < 64
  · exact h i hl hi
  · have : a.testBit i = false := Nat.testBit_lt_two_pow (Nat.lt_of_lt_of_le (show a < 2 ^ 64 from ha) (Nat.pow_le_pow_right (by omega) (by omega)))
    rw [this] at hi
    cases hi
theorem less_not_zero (a b i : Nat) (ha : U64 a) (hb : U64 b) (h1 : a.testBit i = true) (h2 : b.testBit i = false) : (lessN a b == 0) = false := by
  rw [beq_eq_false_iff_ne]
  intro h
  have := lessN_testBit a b i ha hb
  rw [h, h1, h2] at this
  simp at this

set_option maxHeartbeats 1000000 in
theorem refSub_any (a b : Nat) (ha : U64 a) (hb : U64 b) (w : World) :
    Calls Tryd.prog 48 #[.int .u64 a, .int .u64 b] w fun e W' => e = .returned (.bool (lessN a b == 0)) ∧ w = W' := by
  go_enter Tryd.func48, Tryd.ntmps48
  go_wp2
  go_loop [5] (fun i => ∃ j : Nat, j ≤ 64 ∧ i = .int .i64 j ∧ NoneLeft a b j) (fun i => 64 - (intOf i).toNat)
  case atStart => exact ⟨0, by omega, rfl, fun i h => by omega⟩
  case round =>
    obtain ⟨j, hj, rfl, hn⟩ := hrel
    by_cases hlt : j < 64
    · have e1 := Lib.hid (hasB_ok a j hlt)
      have e2 := Lib.hid (hasB_ok b j hlt)
      have HN := Lib.hid hn
      clear hn
      cases h1 : a.testBit j
      · have H1 := Lib.hid h1
        clear h1
        go_wp2_with (go_at_call 67; refine (refHas_any a j _).mono ?_; rintro e w' ⟨he, rfl⟩; rw [e1.out, H1.out] at he; subst he)
        go_round
        case rel => exact ⟨j + 1, by omega, by go_num, fun i hi h => by
          by_cases e : i = j
          · subst e; rw [H1.out] at h; cases h
          · exact HN.out i (by omega) h⟩
        case measure => simp [intOf]; omega
      · have H1 := Lib.hid h1
        clear h1
        cases h2 : b.testBit j
        · have H2 := Lib.hid h2
          clear h2
          go_wp2_with fail
          refine (refHas_any a j _).mono ?_
          rintro e w' ⟨he, rfl⟩
          rw [e1.out, H1.out] at he
          subst he
          go_wp2_with fail
          refine (refHas_any b j _).mono ?_
          rintro e w' ⟨he, rfl⟩
          rw [e2.out, H2.out] at he
          subst he
          go_wp2
          go_ret
          exact ⟨by rw [less_not_zero a b j ha hb H1.out H2.out]; rfl, rfl⟩
        · have H2 := Lib.hid h2
          clear h2
          go_wp2_with fail
          refine (refHas_any a j _).mono ?_
          rintro e w' ⟨he, rfl⟩
          rw [e1.out, H1.out] at he
          subst he
          go_wp2_with fail
          refine (refHas_any b j _).mono ?_
          rintro e w' ⟨he, rfl⟩
          rw [e2.out, H2.out] at he
          subst he
          go_wp2
          go_round
          case rel => exact ⟨j + 1, by omega, by go_num, fun i hi h => by
            by_cases e : i = j
            · subst e; exact H2.out
            · exact HN.out i (by omega) h⟩
          case measure => simp [intOf]; omega
    · obtain rfl : j = 64 := by omega
      have HN := Lib.hid (less_zero_of a b ha hb hn)
      clear hn
      go_wp2
      go_ret
      exact ⟨by rw [HN.out]; rfl, rfl⟩

end Go.Proofs.YtfpjbefhfkembaaDoor.Lb

/- The contracts of the document's own Right, Under. -/
namespace Go.Proofs.YtfpjbefhfkembaaDoor.Lb
open Go.RowKit Go.Proofs.Cats Go.Shelf

set_option maxHeartbeats 400000 in
theorem refRight_any (a : Lab) (w : World) :
    Calls Tryd.prog 28 #[.agg #[.int .i64 a.l, .int .u64 a.c, .int .i64 a.i]] w fun e w' => e = .returned (.bool a.right) ∧ Below w.heap.size w w' := by
  by_cases h1 : 0 ≤ a.l
  · by_cases h2 : a.l ≤ 15
    · by_cases h3 : 0 ≤ a.i
      · have ev : a.right = decide (a.i ≤ 7) := by unfold Lab.right; rw [decide_eq_true h1, decide_eq_true h2, decide_eq_true h3]; rfl
        rw [ev]
        clear ev
        go_enter Tryd.func28, Tryd.ntmps28
        go_wp2
        go_ret
        exact ⟨rfl, Below.new _ _⟩
      · have ev : a.right = false := by unfold Lab.right; rw [decide_eq_false h3]; simp
        rw [ev]
        clear ev
        go_enter Tryd.func28, Tryd.ntmps28
        go_wp2
        go_ret
        exact ⟨rfl, Below.new _ _⟩
    · have ev : a.right = false := by unfold Lab.right; rw [decide_eq_false h2]; simp
      rw [ev]
      clear ev
      go_enter Tryd.func28, Tryd.ntmps28
      go_wp2
      go_ret
      exact ⟨rfl, Below.new _ _⟩
  · have ev : a.right = false := by unfold Lab.right; rw [decide_eq_false h1]; simp
    rw [ev]
    clear ev
    go_enter Tryd.func28, Tryd.ntmps28
    go_wp2
    go_ret
    exact ⟨rfl, Below.new _ _⟩

set_option maxRecDepth 100000 in
set_option maxHeartbeats 1000000 in
theorem refUnder_r0 (a b : Lab) (_ha : a.fits) (_hb0 : b.fits) (h1 : a.right = false) (w : World) (hg : ErrT w) :
    Calls Tryd.prog 34 #[.agg #[.int .i64 a.l, .int .u64 a.c, .int .i64 a.i], .agg #[.int .i64 b.l, .int .u64 b.c, .int .i64 b.i]] w fun e w' => e = .returned (.bool (a.under b)) ∧ Below w.heap.size w w' := by
  rw [show a.under b = false by unfold Lab.under; rw [h1]; rfl]
  have H1 := Lib.hid h1
  clear h1
  obtain ⟨hB, hg1, a0, a1, a2, b0, b1, b2⟩ := two_at w a b hg
  clear hg
  go_enter Tryd.func34, Tryd.ntmps34
  go_wp2_with fail
  refine (refRight_any a _).mono ?_
  rintro e w1 ⟨he, hb⟩
  rw [H1.out] at he
  subst he
  replace a0 := cell_later hb a0
  replace a1 := cell_later hb a1
  replace a2 := cell_later hb a2
  replace b0 := cell_later hb b0
  replace b1 := cell_later hb b1
  replace b2 := cell_later hb b2
  replace hB := below_more hB hb
  replace hg1 := hg1.more hb
  clear hb
  go_wp2
  go_ret
  exact ⟨rfl, hB⟩

set_option maxRecDepth 100000 in
set_option maxHeartbeats 1000000 in
theorem refUnder_r1 (a b : Lab) (_ha : a.fits) (_hb0 : b.fits) (h1 : a.right = true) (h2 : b.right = false) (w : World) (hg : ErrT w) :
    Calls Tryd.prog 34 #[.agg #[.int .i64 a.l, .int .u64 a.c, .int .i64 a.i], .agg #[.int .i64 b.l, .int .u64 b.c, .int .i64 b.i]] w fun e w' => e = .returned (.bool (a.under b)) ∧ Below w.heap.size w w' := by
  rw [show a.under b = false by unfold Lab.under; rw [h1, h2]; rfl]
  have H1 := Lib.hid h1
  have H2 := Lib.hid h2
  clear h1 h2
  obtain ⟨hB, hg1, a0, a1, a2, b0, b1, b2⟩ := two_at w a b hg
  clear hg
  go_enter Tryd.func34, Tryd.ntmps34
  go_wp2_with fail
  refine (refRight_any a _).mono ?_
  rintro e w1 ⟨he, hb⟩
  rw [H1.out] at he
  subst he
  replace a0 := cell_later hb a0
  replace a1 := cell_later hb a1
  replace a2 := cell_later hb a2
  replace b0 := cell_later hb b0
  replace b1 := cell_later hb b1
  replace b2 := cell_later hb b2
  replace hB := below_more hB hb
  replace hg1 := hg1.more hb
  clear hb
  go_wp2_with fail
  refine (refRight_any b _).mono ?_
  rintro e w2 ⟨he, hb⟩
  rw [H2.out] at he
  subst he
  replace a0 := cell_later hb a0
  replace a1 := cell_later hb a1
  replace a2 := cell_later hb a2
  replace b0 := cell_later hb b0
  replace b1 := cell_later hb b1
  replace b2 := cell_later hb b2
  replace hB := below_more hB hb
  replace hg1 := hg1.more hb
  clear hb
  go_wp2
  go_ret
  exact ⟨rfl, hB⟩

set_option maxRecDepth 100000 in
set_option maxHeartbeats 1000000 in
theorem refUnder_r2 (a b : Lab) (_ha : a.fits) (_hb0 : b.fits) (h1 : a.right = true) (h2 : b.right = true) (h3 : ¬ a.l ≤ b.l) (w : World) (hg : ErrT w) :
    Calls Tryd.prog 34 #[.agg #[.int .i64 a.l, .int .u64 a.c, .int .i64 a.i], .agg #[.int .i64 b.l, .int .u64 b.c, .int .i64 b.i]] w fun e w' => e = .returned (.bool (a.under b)) ∧ Below w.heap.size w w' := by
  rw [show a.under b = false by unfold Lab.under Lab.leq; rw [h1, h2, decide_eq_false h3]; rfl]
  have H1 := Lib.hid h1
  have H2 := Lib.hid h2
  clear h1 h2
  obtain ⟨hB, hg1, a0, a1, a2, b0, b1, b2⟩ := two_at w a b hg
  clear hg
  go_enter Tryd.func34, Tryd.ntmps34
  go_wp2_with fail
  refine (refRight_any a _).mono ?_
  rintro e w1 ⟨he, hb⟩
  rw [H1.out] at he
  subst he
  replace a0 := cell_later hb a0
  replace a1 := cell_later hb a1
  replace a2 := cell_later hb a2
  replace b0 := cell_later hb b0
  replace b1 := cell_later hb b1
  replace b2 := cell_later hb b2
  replace hB := below_more hB hb
  replace hg1 := hg1.more hb
  clear hb
  go_wp2_with fail
  refine (refRight_any b _).mono ?_
  rintro e w2 ⟨he, hb⟩
  rw [H2.out] at he
  subst he
  replace a0 := cell_later hb a0
  replace a1 := cell_later hb a1
  replace a2 := cell_later hb a2
  replace b0 := cell_later hb b0
  replace b1 := cell_later hb b1
  replace b2 := cell_later hb b2
  replace hB := below_more hB hb
  replace hg1 := hg1.more hb
  clear hb
  go_wp2
  go_ret
  exact ⟨rfl, hB⟩

set_option maxRecDepth 100000 in
set_option maxHeartbeats 1000000 in
theorem refUnder_r3 (a b : Lab) (ha : a.fits) (hb0 : b.fits) (h1 : a.right = true) (h2 : b.right = true) (h3 : a.l ≤ b.l) (h4 : (lessN a.c b.c == 0) = false) (w : World) (hg : ErrT w) :
    Calls Tryd.prog 34 #[.agg #[.int .i64 a.l, .int .u64 a.c, .int .i64 a.i], .agg #[.int .i64 b.l, .int .u64 b.c, .int .i64 b.i]] w fun e w' => e = .returned (.bool (a.under b)) ∧ Below w.heap.size w w' := by
  rw [show a.under b = false by unfold Lab.under Lab.leq; rw [h1, h2, decide_eq_true h3, h4]; rfl]
  have H1 := Lib.hid h1
  have H2 := Lib.hid h2
  clear h1 h2
  have H4 := Lib.hid h4
  clear h4
  obtain ⟨hB, hg1, a0, a1, a2, b0, b1, b2⟩ := two_at w a b hg
  clear hg
  go_enter Tryd.func34, Tryd.ntmps34
  go_wp2_with fail
  refine (refRight_any a _).mono ?_
  rintro e w1 ⟨he, hb⟩
  rw [H1.out] at he
  subst he
  replace a0 := cell_later hb a0
  replace a1 := cell_later hb a1
  replace a2 := cell_later hb a2
  replace b0 := cell_later hb b0
  replace b1 := cell_later hb b1
  replace b2 := cell_later hb b2
  replace hB := below_more hB hb
  replace hg1 := hg1.more hb
  clear hb
  go_wp2_with fail
  refine (refRight_any b _).mono ?_
  rintro e w2 ⟨he, hb⟩
  rw [H2.out] at he
  subst he
  replace a0 := cell_later hb a0
  replace a1 := cell_later hb a1
  replace a2 := cell_later hb a2
  replace b0 := cell_later hb b0
  replace b1 := cell_later hb b1
  replace b2 := cell_later hb b2
  replace hB := below_more hB hb
  replace hg1 := hg1.more hb
  clear hb
  go_wp2_with fail
  refine (refSub_any a.c b.c ha hb0 _).mono ?_
  rintro e wz ⟨he, rfl⟩
  rw [H4.out] at he
  subst he
  go_wp2
  go_ret
  exact ⟨rfl, hB⟩

set_option maxRecDepth 100000 in
set_option maxHeartbeats 1000000 in
theorem refUnder_r4 (a b : Lab) (ha : a.fits) (hb0 : b.fits) (h1 : a.right = true) (h2 : b.right = true) (h3 : a.l ≤ b.l) (h4 : (lessN a.c b.c == 0) = true) (w : World) (hg : ErrT w) :
    Calls Tryd.prog 34 #[.agg #[.int .i64 a.l, .int .u64 a.c, .int .i64 a.i], .agg #[.int .i64 b.l, .int .u64 b.c, .int .i64 b.i]] w fun e w' => e = .returned (.bool (a.under b)) ∧ Below w.heap.size w w' := by
  rw [show a.under b = decide (b.i ≤ a.i) by unfold Lab.under Lab.leq; rw [h1, h2, decide_eq_true h3, h4]; rfl]
  have H1 := Lib.hid h1
  have H2 := Lib.hid h2
  clear h1 h2
  have H4 := Lib.hid h4
  clear h4
  obtain ⟨hB, hg1, a0, a1, a2, b0, b1, b2⟩ := two_at w a b hg
  clear hg
  go_enter Tryd.func34, Tryd.ntmps34
  go_wp2_with fail
  refine (refRight_any a _).mono ?_
  rintro e w1 ⟨he, hb⟩
  rw [H1.out] at he
  subst he
  replace a0 := cell_later hb a0
  replace a1 := cell_later hb a1
  replace a2 := cell_later hb a2
  replace b0 := cell_later hb b0
  replace b1 := cell_later hb b1
  replace b2 := cell_later hb b2
  replace hB := below_more hB hb
  replace hg1 := hg1.more hb
  clear hb
  go_wp2_with fail
  refine (refRight_any b _).mono ?_
  rintro e w2 ⟨he, hb⟩
  rw [H2.out] at he
  subst he
  replace a0 := cell_later hb a0
  replace a1 := cell_later hb a1
  replace a2 := cell_later hb a2
  replace b0 := cell_later hb b0
  replace b1 := cell_later hb b1
  replace b2 := cell_later hb b2
  replace hB := below_more hB hb
  replace hg1 := hg1.more hb
  clear hb
  go_wp2_with fail
  refine (refSub_any a.c b.c ha hb0 _).mono ?_
  rintro e wz ⟨he, rfl⟩
  rw [H4.out] at he
  subst he
  go_wp2
  go_ret
  exact ⟨rfl, hB⟩

theorem refUnder_any (a b : Lab) (ha : a.fits) (hb : b.fits) (w : World) (hg : ErrT w) :
    Calls Tryd.prog 34 #[.agg #[.int .i64 a.l, .int .u64 a.c, .int .i64 a.i], .agg #[.int .i64 b.l, .int .u64 b.c, .int .i64 b.i]] w fun e w' => e = .returned (.bool (a.under b)) ∧ Below w.heap.size w w' := by
  cases h1 : a.right
  · exact refUnder_r0 a b ha hb h1 w hg
  · cases h2 : b.right
    · exact refUnder_r1 a b ha hb h1 h2 w hg
    · by_cases h3 : a.l ≤ b.l
      · cases h4 : (lessN a.c b.c == 0)
        · exact refUnder_r3 a b ha hb h1 h2 h3 h4 w hg
        · exact refUnder_r4 a b ha hb h1 h2 h3 h4 w hg
      · exact refUnder_r2 a b ha hb h1 h2 h3 w hg

end Go.Proofs.YtfpjbefhfkembaaDoor.Lb
