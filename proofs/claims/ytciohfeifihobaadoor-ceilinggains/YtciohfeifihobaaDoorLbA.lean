/- Merged texts: Math, LabMath, Less, LabLeaf, LabJudge, LabOps, LabAs, LabAsHit, LabIter, LabBase -/
import Derived.Laws.BitsAllLaws
import Derived.Test.YtciohfeifihobaaDoorRows
import Derived.WalkKit
import Derived.WalkSpells
import Derived.WalkLawsBesides
import Derived.Lib.Hide
import Derived.Laws.Bits128
import Derived.Shelf.Abstract
import Derived.Deep.RegionWith
import Derived.Deep.RegionHeld3
import Derived.LaidEql
import Derived.Stop.Asserts
import Derived.RowKitTokens
import Derived.RangeFuncNested
import Derived.RangeFuncBound
import Derived.RangeFuncCalls
import Derived.RangeFuncLeaves
import Derived.RangeFuncBox
import Derived.Shelf.RegionOpen
import Derived.OwnWalkIn
import Derived.TacticsInMore
import Derived.LoopNIn
import Derived.LoopIn
import Derived.WalkMore
import Derived.Laws.EntriesVeiled
/- Plain facts on numbers below 2^64 as sets of categories: bits, counts, and the count by bytes. No program is named here. -/
namespace Go.Proofs.Cats

/-- A number of 64 bits. -/
def U64 (n : Nat) : Prop := n < 18446744073709551616

/-- Is i a category? -/
def okC (i : Int) : Bool := decide (0 ≤ i) && decide (i < 64)

/-- a's bits that are none of b's. -/
def lessN (a b : Nat) : Nat := a &&& (18446744073709551615 - b)

/-- How many of the first n bits of s are 1. -/
def cnt : Nat → Nat → Nat
  | 0, _ => 0
  | n + 1, s => cnt n s + (if s.testBit n then 1 else 0)

theorem lessN_testBit (a b i : Nat) (ha : U64 a) (hb : U64 b) : (lessN a b).testBit i = (a.testBit i && !b.testBit i) := by
  unfold U64 at ha hb
  unfold lessN
  rw [Nat.testBit_and]
  have e : 18446744073709551615 - b = 2 ^ 64 - (b + 1) := by omega
  rw [e, Nat.testBit_two_pow_sub_succ (by omega)]
  by_cases h : i < 64
  · simp [h]
  · have : a.testBit i = false := Nat.testBit_lt_two_pow (Nat.lt_of_lt_of_le (show a < 2 ^ 64 by omega) (Nat.pow_le_pow_right (by omega) (by omega)))
    simp [this]

theorem lessN_le (a b : Nat) : lessN a b ≤ a := Nat.and_le_left
theorem U64.less {a : Nat} (ha : U64 a) (b : Nat) : U64 (lessN a b) := Nat.lt_of_le_of_lt (lessN_le a b) ha

/-- What is left of a, and the rest, are a. -/
theorem less_less (a b : Nat) (ha : U64 a) (hb : U64 b) (i : Nat) : (lessN a (lessN a b)).testBit i = (a.testBit i && b.testBit i) := by
  rw [lessN_testBit a _ i ha (ha.less b), lessN_testBit a b i ha hb]
  cases a.testBit i <;> cases b.testBit i <;> rfl

theorem cnt_split (n a b : Nat) (ha : U64 a) (hb : U64 b) : cnt n (lessN a b) + cnt n (lessN a (lessN a b)) = cnt n a := by
  induction n with
  | zero => rfl
  | succ n ih =>
    simp only [cnt]
    rw [lessN_testBit a b n ha hb, less_less a b ha hb n]
    cases a.testBit n <;> cases b.testBit n <;> simp <;> omega

theorem cnt_le (n s : Nat) : cnt n s ≤ n := by
  induction n with
  | zero => simp [cnt]
  | succ n ih => simp only [cnt]; split <;> omega

theorem add_of_disjoint (x y : Nat) (h : ∀ i, (x.testBit i && y.testBit i) = false) : x + y = x ||| y := by
  have := Nat.two_pow_pos 0
  induction x using Nat.strongRecOn generalizing y with
  | ind x ih =>
    by_cases hx : x = 0
    · subst hx; simp
    · have h0 := h 0
      have hd := ih (x / 2) (Nat.div_lt_self (by omega) (by omega)) (y / 2) (fun i => by
        have := h (i + 1)
        rwa [Nat.testBit_succ, Nat.testBit_succ] at this)
      have e : (x ||| y) / 2 = x / 2 ||| y / 2 := by simpa using Nat.or_div_two_pow (n := 1) (a := x) (b := y)
      have m : (x ||| y) % 2 = (x % 2) ||| (y % 2) := by simpa using Nat.or_mod_two_pow (n := 1) (a := x) (b := y)
      have hm : (x % 2) ||| (y % 2) = x % 2 + y % 2 := by
        simp only [Nat.testBit_zero] at h0
        have h1 : x % 2 = 0 ∨ x % 2 = 1 := by omega
        have h2 : y % 2 = 0 ∨ y % 2 = 1 := by omega
        rcases h1 with h1 | h1 <;> rcases h2 with h2 | h2 <;> simp [h1, h2] at h0 ⊢
      have hm0 : x % 2 + y % 2 ≤ 1 := by
        simp only [Nat.testBit_zero] at h0
        have h1 : x % 2 = 0 ∨ x % 2 = 1 := by omega
        have h2 : y % 2 = 0 ∨ y % 2 = 1 := by omega
        rcases h1 with h1 | h1 <;> rcases h2 with h2 | h2 <;> simp [h1, h2] at h0 ⊢
      omega

theorem less_add (a b : Nat) (ha : U64 a) (hb : U64 b) : lessN a b + lessN a (lessN a b) = a := by
  rw [add_of_disjoint]
  · apply Nat.eq_of_testBit_eq
    intro i
    rw [Nat.testBit_or, lessN_testBit a b i ha hb, less_less a b ha hb i]
    cases a.testBit i <;> cases b.testBit i <;> rfl
  · intro i
    rw [lessN_testBit a b i ha hb, less_less a b ha hb i]
    cases a.testBit i <;> cases b.testBit i <;> rfl

theorem less_eq_zero (a b : Nat) (ha : U64 a) (hb : U64 b) (h : ∀ i, a.testBit i = true → b.testBit i = true) : lessN a b = 0 := by
  apply Nat.eq_of_testBit_eq
  intro i
  rw [lessN_testBit a b i ha hb, Nat.zero_testBit]
  cases e : a.testBit i
  · rfl
  · simp [h i e]

/-! ### The count by bytes -/

theorem and_split (k a b c d : Nat) (ha : a < 2 ^ k) (hc : c < 2 ^ k) : (a + 2 ^ k * b) &&& (c + 2 ^ k * d) = (a &&& c) + 2 ^ k * (b &&& d) := by
  have hp : 0 < 2 ^ k := Nat.two_pow_pos k
  have e1 := Nat.and_div_two_pow (n := k) (a := a + 2 ^ k * b) (b := c + 2 ^ k * d)
  have e2 := Nat.and_mod_two_pow (n := k) (a := a + 2 ^ k * b) (b := c + 2 ^ k * d)
  rw [Nat.add_mul_div_left _ _ hp, Nat.add_mul_div_left _ _ hp, Nat.div_eq_of_lt ha, Nat.div_eq_of_lt hc, Nat.zero_add, Nat.zero_add] at e1
  rw [Nat.add_mul_mod_self_left, Nat.add_mul_mod_self_left, Nat.mod_eq_of_lt ha, Nat.mod_eq_of_lt hc] at e2
  have := Nat.div_add_mod ((a + 2 ^ k * b) &&& (c + 2 ^ k * d)) (2 ^ k)
  rw [e1, e2] at this
  omega

theorem and_split8 (a b c d : Nat) (ha : a < 256) (hc : c < 256) : (a + 256 * b) &&& (c + 256 * d) = (a &&& c) + 256 * (b &&& d) :=
  and_split 8 a b c d ha hc

def g1 (m x : Nat) : Nat := (x / 2 &&& m) + (x &&& m)
def g2 (m x : Nat) : Nat := (x / 4 &&& m) + (x &&& m)
def g3 (m x : Nat) : Nat := (x / 16 + x) &&& m

theorem b1 : ∀ (b : Fin 256) (r : Fin 2), (b.val / 2 + 128 * r.val) &&& 85 = b.val / 2 &&& 85 := by decide +kernel
theorem b2 : ∀ (b : Fin 256) (r : Fin 4), (b.val / 4 + 64 * r.val) &&& 51 = b.val / 4 &&& 51 := by decide +kernel

theorem g1_split (b r m : Nat) (hb : b < 256) : g1 (85 + 256 * m) (b + 256 * r) = g1 85 b + 256 * g1 m r := by
  unfold g1
  have e : (b + 256 * r) / 2 = (b / 2 + 128 * (r % 2)) + 256 * (r / 2) := by omega
  rw [e, and_split8 _ _ _ _ (by omega) (by omega), and_split8 _ _ _ _ hb (by omega)]
  have := b1 ⟨b, hb⟩ ⟨r % 2, by omega⟩
  simp only at this
  rw [this]
  omega

theorem g2_split (b r m : Nat) (hb : b < 256) : g2 (51 + 256 * m) (b + 256 * r) = g2 51 b + 256 * g2 m r := by
  unfold g2
  have e : (b + 256 * r) / 4 = (b / 4 + 64 * (r % 4)) + 256 * (r / 4) := by omega
  rw [e, and_split8 _ _ _ _ (by omega) (by omega), and_split8 _ _ _ _ hb (by omega)]
  have := b2 ⟨b, hb⟩ ⟨r % 4, by omega⟩
  simp only at this
  rw [this]
  omega

theorem by1 : ∀ b : Fin 256, g1 85 b.val < 256 := by decide +kernel
theorem by2 : ∀ b : Fin 256, g2 51 (g1 85 b.val) < 69 ∧ g2 51 (g1 85 b.val) % 16 ≤ 4 := by decide +kernel
theorem by3 : ∀ b : Fin 256, g3 15 (g2 51 (g1 85 b.val)) = cnt 8 b.val := by decide +kernel
theorem b3 : ∀ (b : Fin 69) (r : Fin 5), (b.val / 16 + 16 * r.val + b.val) &&& 15 = (b.val / 16 + b.val) &&& 15 := by decide +kernel

theorem g3_split (c r m : Nat) (hc : c < 69) (hr : r % 16 ≤ 4) : g3 (15 + 256 * m) (c + 256 * r) = g3 15 c + 256 * g3 m r := by
  unfold g3
  have e : (c + 256 * r) / 16 + (c + 256 * r) = (c / 16 + 16 * (r % 16) + c) + 256 * (r / 16 + r) := by omega
  rw [e, and_split8 _ _ _ _ (by omega) (by omega)]
  have := b3 ⟨c, hc⟩ ⟨r % 16, by omega⟩
  simp only at this
  rw [this]

/-- The masks of n bytes. -/
def mk (q : Nat) : Nat → Nat
  | 0 => 0
  | n + 1 => q + 256 * mk q n

/-- The counts of n bytes, a byte each. -/
def bytesC : Nat → Nat → Nat
  | 0, _ => 0
  | n + 1, x => cnt 8 (x % 256) + 256 * bytesC n (x / 256)

theorem g12_low (n x : Nat) : g2 (mk 51 n) (g1 (mk 85 n) x) % 16 ≤ 4 := by
  cases n with
  | zero => simp [mk, g1, g2]
  | succ n =>
    have hx : x = x % 256 + 256 * (x / 256) := by omega
    have h1 := by1 ⟨x % 256, by omega⟩
    have h2 := by2 ⟨x % 256, by omega⟩
    simp only at h1 h2
    rw [hx]
    simp only [mk]
    rw [g1_split _ _ _ (by omega), g2_split _ _ _ h1]
    omega

theorem swar (n x : Nat) : g3 (mk 15 n) (g2 (mk 51 n) (g1 (mk 85 n) x)) = bytesC n x := by
  induction n generalizing x with
  | zero => simp [mk, g1, g2, g3, bytesC]
  | succ n ih =>
    have hx : x = x % 256 + 256 * (x / 256) := by omega
    have h1 := by1 ⟨x % 256, by omega⟩
    have h2 := by2 ⟨x % 256, by omega⟩
    have h3 := by3 ⟨x % 256, by omega⟩
    simp only at h1 h2 h3
    simp only [bytesC]
    rw [← ih (x / 256), ← h3]
    conv => lhs; rw [hx]
    simp only [mk]
    rw [g1_split _ _ _ (by omega), g2_split _ _ _ h1, g3_split _ _ _ h2.1 (g12_low n _)]

theorem cnt_add (a b s : Nat) : cnt (a + b) s = cnt a s + cnt b (s / 2 ^ a) := by
  induction b with
  | zero => simp [cnt]
  | succ b ih =>
    rw [← Nat.add_assoc]
    simp only [cnt]
    rw [ih, Nat.testBit_div_two_pow]
    rw [show a + b = b + a by omega]
    omega

theorem cnt_mod (a k s : Nat) (h : a ≤ k) : cnt a (s % 2 ^ k) = cnt a s := by
  induction a with
  | zero => rfl
  | succ a ih =>
    simp only [cnt]
    rw [ih (by omega), Nat.testBit_mod_two_pow]
    simp [show a < k by omega]

theorem cnt_bytes (n x : Nat) : cnt (8 * (n + 1)) x = cnt 8 (x % 256) + cnt (8 * n) (x / 256) := by
  rw [show 8 * (n + 1) = 8 + 8 * n by omega, cnt_add, cnt_mod 8 8 x (by omega)]

theorem cnt_zero (a : Nat) : cnt a 0 = 0 := by
  induction a with
  | zero => rfl
  | succ a ih => simp [cnt, ih]

theorem divB (a c B : Nat) (h : a < B) : (a + B * c) / B = c := by
  rw [Nat.add_mul_div_left _ _ (by omega), Nat.div_eq_of_lt h, Nat.zero_add]

theorem sum8 (q0 q1 q2 q3 q4 q5 q6 q7 : Nat) (p0 : q0 ≤ 8) (p1 : q1 ≤ 8) (p2 : q2 ≤ 8) (p3 : q3 ≤ 8) (p4 : q4 ≤ 8) (p5 : q5 ≤ 8) (p6 : q6 ≤ 8) (p7 : q7 ≤ 8)
    (y y4 y5 : Nat) (hy : y = q0 + 256 * (q1 + 256 * (q2 + 256 * (q3 + 256 * (q4 + 256 * (q5 + 256 * (q6 + 256 * q7))))))) (h4 : y4 = y + y / 256) (h5 : y5 = y4 + y4 / 65536) :
    (y5 + y5 / 4294967296) % 128 = q0 + q1 + q2 + q3 + q4 + q5 + q6 + q7 ∧ y ≤ 578721382704613384 := by
  have d1 : y / 256 = q1 + 256 * (q2 + 256 * (q3 + 256 * (q4 + 256 * (q5 + 256 * (q6 + 256 * q7))))) := by rw [hy, divB _ _ 256 (by omega)]
  rw [d1] at h4
  have f4 : y4 = ((q0 + q1) + 256 * (q1 + q2)) + 65536 * ((q2 + q3) + 256 * ((q3 + q4) + 256 * ((q4 + q5) + 256 * ((q5 + q6) + 256 * ((q6 + q7) + 256 * q7))))) := by
    rw [h4, hy]; omega
  have d2 : y4 / 65536 = (q2 + q3) + 256 * ((q3 + q4) + 256 * ((q4 + q5) + 256 * ((q5 + q6) + 256 * ((q6 + q7) + 256 * q7)))) := by rw [f4, divB _ _ 65536 (by omega)]
  rw [d2] at h5
  have f5 : y5 = ((q0 + q1 + q2 + q3) + 256 * (q1 + q2 + q3 + q4) + 65536 * (q2 + q3 + q4 + q5) + 16777216 * (q3 + q4 + q5 + q6)) + 4294967296 * ((q4 + q5 + q6 + q7) + 256 * ((q5 + q6 + q7) + 256 * ((q6 + q7) + 256 * q7))) := by
    rw [h5, f4]; omega
  have d3 : y5 / 4294967296 = (q4 + q5 + q6 + q7) + 256 * ((q5 + q6 + q7) + 256 * ((q6 + q7) + 256 * q7)) := by rw [f5, divB _ _ 4294967296 (by omega)]
  refine ⟨?_, ?_⟩
  · rw [d3, f5]
    clear d1 d2 d3 h4 h5 f4 f5 hy
    have e : (q0 + q1 + q2 + q3) + 256 * (q1 + q2 + q3 + q4) + 65536 * (q2 + q3 + q4 + q5) + 16777216 * (q3 + q4 + q5 + q6) + 4294967296 * ((q4 + q5 + q6 + q7) + 256 * ((q5 + q6 + q7) + 256 * ((q6 + q7) + 256 * q7))) + ((q4 + q5 + q6 + q7) + 256 * ((q5 + q6 + q7) + 256 * ((q6 + q7) + 256 * q7)))
        = (q0 + q1 + q2 + q3 + q4 + q5 + q6 + q7) + 128 * (2 * (q1 + q2 + q3 + q4) + 512 * (q2 + q3 + q4 + q5) + 131072 * (q3 + q4 + q5 + q6) + 33554432 * ((q4 + q5 + q6 + q7) + 256 * ((q5 + q6 + q7) + 256 * ((q6 + q7) + 256 * q7))) + 2 * ((q5 + q6 + q7) + 256 * ((q6 + q7) + 256 * q7))) := by omega
    rw [e, Nat.add_mul_mod_self_left, Nat.mod_eq_of_lt (by omega)]
  · clear d1 d2 d3 h4 h5 f4 f5
    omega

/-- The two sums behind the counts by bytes, and the last mask. -/
theorem fold_bytes (x y y4 y5 : Nat) (hy : y = bytesC 8 x) (h4 : y4 = y + y / 256) (h5 : y5 = y4 + y4 / 65536) : (y5 + y5 / 4294967296) % 128 = cnt 64 x ∧ y ≤ 578721382704613384 := by
  have l := fun z => cnt_le 8 z
  have e : cnt 64 x = cnt 8 (x % 256) + cnt 8 (x / 256 % 256) + cnt 8 (x / 256 / 256 % 256) + cnt 8 (x / 256 / 256 / 256 % 256) + cnt 8 (x / 256 / 256 / 256 / 256 % 256) + cnt 8 (x / 256 / 256 / 256 / 256 / 256 % 256) + cnt 8 (x / 256 / 256 / 256 / 256 / 256 / 256 % 256) + cnt 8 (x / 256 / 256 / 256 / 256 / 256 / 256 / 256 % 256) := by
    have h := fun z => cnt_mod 8 8 z (by omega)
    simp only [Nat.reducePow] at h
    have c1 := fun z => cnt_bytes 1 z; have c2 := fun z => cnt_bytes 2 z; have c3 := fun z => cnt_bytes 3 z; have c4 := fun z => cnt_bytes 4 z
    have c5 := fun z => cnt_bytes 5 z; have c6 := fun z => cnt_bytes 6 z; have c7 := fun z => cnt_bytes 7 z
    simp only [Nat.reduceAdd, Nat.reduceMul] at c1 c2 c3 c4 c5 c6 c7
    rw [c7, c6, c5, c4, c3, c2, c1, h (x / 256 / 256 / 256 / 256 / 256 / 256 / 256)]
    simp only [Nat.add_assoc]
  rw [e]
  refine sum8 _ _ _ _ _ _ _ _ (l _) (l _) (l _) (l _) (l _) (l _) (l _) (l _) y y4 y5 ?_ h4 h5
  rw [hy]
  simp only [bytesC, Nat.mul_zero, Nat.add_zero]

/-- s with the numbers of zs. -/
def addAll (s : Nat) (zs : List Int) : Nat := zs.foldl (fun s i => s ||| 2 ^ i.toNat) s
theorem addAll_snoc (s : Nat) (zs : List Int) (x : Int) : addAll s (zs ++ [x]) = addAll s zs ||| 2 ^ x.toNat := by simp [addAll]
theorem or_pow_u64 (s i : Nat) (hs : U64 s) (hi : i < 64) : U64 (s ||| 2 ^ i) := by
  unfold U64 at *
  exact Nat.or_lt_two_pow (n := 64) hs (Nat.pow_lt_pow_right (by omega) hi)
theorem okC_iff (i : Int) : okC i = true ↔ 0 ≤ i ∧ i < 64 := by simp [okC]
theorem addAll_u64 (s : Nat) (zs : List Int) (hs : U64 s) (h : zs.all okC = true) : U64 (addAll s zs) := by
  induction zs generalizing s with
  | nil => exact hs
  | cons x zs ih =>
    simp only [List.all_cons, Bool.and_eq_true] at h
    have := (okC_iff x).1 h.1
    exact ih _ (or_pow_u64 s x.toNat hs (by omega)) h.2

theorem beq_nat (n m : Nat) : ((n : Int) == (m : Int)) = (n == m) := by
  rw [Bool.eq_iff_iff]; simp; omega
theorem beq_nat0 (n : Nat) : ((n : Int) == 0) = (n == 0) := beq_nat n 0

end Go.Proofs.Cats

/- Plain facts on labels: a level, categories, an integrity. No program is named here. -/
namespace Go.Proofs.Cats

/-- A label's three numbers. -/
structure Lab where
  l : Int
  c : Nat
  i : Int

/-- What any three numbers of a machine are. -/
def Lab.fits (a : Lab) : Prop := U64 a.c

def Lab.right (a : Lab) : Bool := decide (0 ≤ a.l) && decide (a.l ≤ 15) && decide (0 ≤ a.i) && decide (a.i ≤ 7)
def Lab.leq (a b : Lab) : Bool := decide (a.l ≤ b.l) && (lessN a.c b.c == 0) && decide (b.i ≤ a.i)
def Lab.under (a b : Lab) : Bool := a.right && b.right && a.leq b
def Lab.join (a b : Lab) : Lab := ⟨max a.l b.l, a.c ||| b.c, min a.i b.i⟩
def Lab.meet (a b : Lab) : Lab := ⟨min a.l b.l, a.c &&& b.c, max a.i b.i⟩
def Lab.bot : Lab := ⟨0, 0, 7⟩
def Lab.top : Lab := ⟨15, 18446744073709551615, 0⟩
def Lab.zero : Lab := ⟨0, 0, 0⟩
def Lab.same (a b : Lab) : Bool := a.l == b.l && a.c == b.c && a.i == b.i
def Lab.ahead (a b : Lab) : Bool := if a.l != b.l then decide (a.l < b.l) else if a.c != b.c then decide (a.c < b.c) else decide (a.i < b.i)
def Lab.cmp (a b : Lab) : Int := if a.same b then 0 else if a.ahead b then -1 else 1

theorem Lab.ext {a b : Lab} (h1 : a.l = b.l) (h2 : a.c = b.c) (h3 : a.i = b.i) : a = b := by
  cases a; cases b; simp_all
theorem Lab.same_iff (a b : Lab) : a.same b = true ↔ a = b := by
  constructor
  · intro h
    simp [Lab.same] at h
    exact Lab.ext h.1.1 h.1.2 h.2
  · rintro rfl; simp [Lab.same]

/-- One set is in another one. -/
def SubN (a b : Nat) : Prop := ∀ i, a.testBit i = true → b.testBit i = true
theorem sub_iff (a b : Nat) (ha : U64 a) (hb : U64 b) : (lessN a b == 0) = true ↔ SubN a b := by
  constructor
  · intro h i hi
    have h0 : lessN a b = 0 := by simpa using h
    have := lessN_testBit a b i ha hb
    rw [h0, Nat.zero_testBit, hi] at this
    cases e : b.testBit i
    · simp [e] at this
    · rfl
  · intro h
    have := less_eq_zero a b ha hb h
    simp [this]
theorem SubN.antisymm {a b : Nat} (h : SubN a b) (k : SubN b a) : a = b := by
  apply Nat.eq_of_testBit_eq
  intro i
  have h1 := h i
  have h2 := k i
  cases e : a.testBit i <;> cases f : b.testBit i <;> simp_all
theorem SubN.trans {a b c : Nat} (h : SubN a b) (k : SubN b c) : SubN a c := fun i hi => k i (h i hi)
theorem SubN.refl (a : Nat) : SubN a a := fun _ h => h
theorem SubN.or_left (a b : Nat) : SubN a (a ||| b) := fun i h => by rw [Nat.testBit_or, h, Bool.true_or]
theorem SubN.or_right (a b : Nat) : SubN b (a ||| b) := fun i h => by rw [Nat.testBit_or, h, Bool.or_true]
theorem SubN.or {a b c : Nat} (h : SubN a c) (k : SubN b c) : SubN (a ||| b) c := fun i hi => by
  rw [Nat.testBit_or, Bool.or_eq_true] at hi
  rcases hi with hi | hi
  · exact h i hi
  · exact k i hi
theorem SubN.and_left (a b : Nat) : SubN (a &&& b) a := fun i h => by rw [Nat.testBit_and, Bool.and_eq_true] at h; exact h.1
theorem SubN.and_right (a b : Nat) : SubN (a &&& b) b := fun i h => by rw [Nat.testBit_and, Bool.and_eq_true] at h; exact h.2
theorem SubN.and {a b c : Nat} (h : SubN c a) (k : SubN c b) : SubN c (a &&& b) := fun i hi => by
  rw [Nat.testBit_and, h i hi, k i hi]; rfl
theorem SubN.zero (a : Nat) : SubN 0 a := fun i h => by simp at h
theorem SubN.all (a : Nat) (ha : U64 a) : SubN a 18446744073709551615 := fun i h => by
  have e : (18446744073709551615 : Nat) = 2 ^ 64 - 1 := rfl
  rw [e, Nat.testBit_two_pow_sub_one]
  by_cases hi : i < 64
  · simp [hi]
  · have : a.testBit i = false := Nat.testBit_lt_two_pow (Nat.lt_of_lt_of_le (show a < 2 ^ 64 from ha) (Nat.pow_le_pow_right (by omega) (by omega)))
    rw [this] at h; cases h
theorem SubN.le {a b : Nat} (h : SubN a b) : a ≤ b := by
  have e : a &&& b = a := (SubN.and_left a b).antisymm (SubN.and (SubN.refl a) h)
  rw [← e]; exact Nat.and_le_right

theorem U64.or {a b : Nat} (ha : U64 a) (hb : U64 b) : U64 (a ||| b) := Nat.or_lt_two_pow (n := 64) ha hb
theorem U64.and {a : Nat} (ha : U64 a) (b : Nat) : U64 (a &&& b) := Nat.lt_of_le_of_lt Nat.and_le_left ha

theorem Lab.right_iff (a : Lab) : a.right = true ↔ 0 ≤ a.l ∧ a.l ≤ 15 ∧ 0 ≤ a.i ∧ a.i ≤ 7 := by
  unfold Lab.right
  simp only [Bool.and_eq_true, decide_eq_true_iff, and_assoc]
theorem Lab.leq_iff (a b : Lab) (ha : a.fits) (hb : b.fits) : a.leq b = true ↔ a.l ≤ b.l ∧ SubN a.c b.c ∧ b.i ≤ a.i := by
  unfold Lab.leq
  simp only [Bool.and_eq_true, decide_eq_true_iff, sub_iff a.c b.c ha hb, and_assoc]
theorem Lab.under_iff (a b : Lab) (ha : a.fits) (hb : b.fits) : a.under b = true ↔ a.right = true ∧ b.right = true ∧ a.l ≤ b.l ∧ SubN a.c b.c ∧ b.i ≤ a.i := by
  unfold Lab.under
  simp only [Bool.and_eq_true, Lab.leq_iff a b ha hb, and_assoc]

theorem Lab.fits_bot : Lab.bot.fits := by unfold Lab.fits Lab.bot U64; decide
theorem Lab.fits_top : Lab.top.fits := by unfold Lab.fits Lab.top U64; decide
theorem Lab.fits.join {a b : Lab} (ha : a.fits) (hb : b.fits) : (a.join b).fits := U64.or ha hb
theorem Lab.fits.meet {a b : Lab} (ha : a.fits) (_hb : b.fits) : (a.meet b).fits := U64.and ha _
theorem Lab.right_join {a b : Lab} (ha : a.right = true) (hb : b.right = true) : (a.join b).right = true := by
  rw [Lab.right_iff] at *; simp only [Lab.join]; omega
theorem Lab.right_meet {a b : Lab} (ha : a.right = true) (hb : b.right = true) : (a.meet b).right = true := by
  rw [Lab.right_iff] at *; simp only [Lab.meet]; omega
theorem Lab.bot_right : Lab.bot.right = true := by decide
theorem Lab.top_right : Lab.top.right = true := by decide
/-- What lies between the bottom and the top is a label. -/
theorem Lab.between (a : Lab) (ha : a.fits) : (Lab.bot.leq a && a.leq Lab.top) = a.right := by
  rw [Bool.eq_iff_iff, Bool.and_eq_true, Lab.leq_iff _ _ Lab.fits_bot ha, Lab.leq_iff _ _ ha Lab.fits_top, Lab.right_iff]
  simp only [Lab.bot, Lab.top]
  constructor
  · rintro ⟨⟨h1, _, h2⟩, h3, _, h4⟩; omega
  · rintro ⟨h1, h2, h3, h4⟩; exact ⟨⟨h1, SubN.zero _, h4⟩, h2, SubN.all _ ha, h3⟩
theorem Lab.bot_join (a : Lab) (h : a.right = true) : Lab.bot.join a = a := by
  rw [Lab.right_iff] at h
  exact Lab.ext (by simp only [Lab.join, Lab.bot]; omega) (by simp [Lab.join, Lab.bot]) (by simp only [Lab.join, Lab.bot]; omega)
theorem top_and (c : Nat) (h : U64 c) : 18446744073709551615 &&& c = c :=
  (SubN.and_right _ _).antisymm (SubN.and (SubN.all c h) (SubN.refl c))
theorem Lab.top_meet (a : Lab) (hf : a.fits) (h : a.right = true) : Lab.top.meet a = a := by
  rw [Lab.right_iff] at h
  exact Lab.ext (by simp only [Lab.meet, Lab.top]; omega) (top_and _ hf) (by simp only [Lab.meet, Lab.top]; omega)

end Go.Proofs.Cats

/- The contracts of cats.Less and cats.Sub. -/
namespace Go.Proofs.YtciohfeifihobaaDoor
open Go.RowKit Go.Proofs.Cats

set_option maxHeartbeats 400000 in
theorem less_any (a b : Nat) (ha : U64 a) (hb : U64 b) (w : World) :
    Calls Tryd.prog 48 #[.int .u64 a, .int .u64 b] w fun e w' => e = .returned (.int .u64 (lessN a b : Nat)) ∧ w = w' := by
  go_enter Tryd.func48, Tryd.ntmps48
  go_wp2
  go_ret
  exact ⟨by rw [u64_andNot_nat a b ha hb]; rfl, rfl⟩

set_option maxHeartbeats 400000 in
theorem sub_any (a b : Nat) (ha : U64 a) (hb : U64 b) (w : World) :
    Calls Tryd.prog 56 #[.int .u64 a, .int .u64 b] w fun e w' => e = .returned (.bool (lessN a b == 0)) ∧ w = w' := by
  go_enter Tryd.func56, Tryd.ntmps56
  go_wp2_with (go_at_call 48; refine (less_any a b ha hb _).mono ?_; rintro e w' ⟨rfl, rfl⟩)
  go_ret
  exact ⟨congrArg (fun b => Ending.returned (.bool b)) (beq_nat0 _), rfl⟩

end Go.Proofs.YtciohfeifihobaaDoor

/- The contracts of label's leaves: Bottom, Top, under, judge, Right, Under, join, meet, before, Compare. -/
namespace Go.Proofs.YtciohfeifihobaaDoor
open Go.RowKit Go.Proofs.Cats

theorem bcell {W w1 : World} (hb : Below W.heap.size W w1) : (∀ b o, b < W.heap.size → w1.cell? ⟨b, o, none⟩ = W.cell? ⟨b, o, none⟩) ∧ (∀ b o, b < W.heap.size → w1.frozen? ⟨b, o, none⟩ = W.frozen? ⟨b, o, none⟩) :=
  ⟨fun b o h => hb.cell (p := ⟨b, o, none⟩) h, fun b o h => hb.frozen (p := ⟨b, o, none⟩) h⟩
theorem below_more {n : Nat} {w w1 w2 : World} (h : Below n w w1) (k : Below w1.heap.size w1 w2) (hn : n ≤ w.heap.size := by exact Nat.le_refl _) : Below n w w2 := h.trans (k.mono (Nat.le_trans hn h.size))
theorem Below.new (w : World) (o : Obj) : Below w.heap.size w (w.alloc o) := (Below.refl _ w).alloc (Nat.le_refl _) _

set_option maxHeartbeats 400000 in
theorem bottom_at (w : World) :
    Calls Tryd.prog 27 #[] w fun e w' => e = .returned (.agg #[.int .i64 0, .int .u64 0, .int .i64 7]) ∧ w.alloc (.cells #[.int .i64 0, .int .u64 0, .int .i64 7] 24) = w' := by
  go_enter Tryd.func27, Tryd.ntmps27
  go_wp2
  exact bodyPost_ret (v := .agg #[.int .i64 0, .int .u64 0, .int .i64 7]) (by simp [results, Tryd.results27, go_sem]) rfl ⟨rfl, rfl⟩

theorem bottom_any (w : World) :
    Calls Tryd.prog 27 #[] w fun e w' => e = .returned (.agg #[.int .i64 0, .int .u64 0, .int .i64 7]) ∧ Below w.heap.size w w' :=
  (bottom_at w).mono fun _ _ ⟨he, hw⟩ => ⟨he, hw ▸ Below.new _ _⟩

set_option maxHeartbeats 400000 in
theorem top_at (w : World) :
    Calls Tryd.prog 28 #[] w fun e w' => e = .returned (.agg #[.int .i64 15, .int .u64 18446744073709551615, .int .i64 0]) ∧ w.alloc (.cells #[.int .i64 15, .int .u64 18446744073709551615, .int .i64 0] 24) = w' := by
  go_enter Tryd.func28, Tryd.ntmps28
  go_wp2
  exact bodyPost_ret (v := .agg #[.int .i64 15, .int .u64 18446744073709551615, .int .i64 0]) (by simp [results, Tryd.results28, go_sem]) rfl ⟨rfl, rfl⟩

theorem top_any (w : World) :
    Calls Tryd.prog 28 #[] w fun e w' => e = .returned (.agg #[.int .i64 15, .int .u64 18446744073709551615, .int .i64 0]) ∧ Below w.heap.size w w' :=
  (top_at w).mono fun _ _ ⟨he, hw⟩ => ⟨he, hw ▸ Below.new _ _⟩

set_option maxHeartbeats 400000 in
theorem under_at (a b : Lab) (ha : a.fits) (hb : b.fits) (w : World) :
    Calls Tryd.prog 41 #[.agg #[.int .i64 a.l, .int .u64 a.c, .int .i64 a.i, .int .i64 b.l, .int .u64 b.c, .int .i64 b.i]] w fun e w' => e = .returned (.bool (a.leq b)) ∧ w.alloc (.cells #[.int .i64 a.l, .int .u64 a.c, .int .i64 a.i, .int .i64 b.l, .int .u64 b.c, .int .i64 b.i] 61) = w' := by
  by_cases h1 : a.l ≤ b.l
  · by_cases h2 : (lessN a.c b.c == 0) = true
    · have ev : a.leq b = decide (b.i ≤ a.i) := by unfold Lab.leq; rw [decide_eq_true h1, h2]; rfl
      rw [ev]
      have H2 := Lib.hid h2
      clear ev h2
      go_enter Tryd.func41, Tryd.ntmps41
      go_wp2_with fail
      refine (sub_any a.c b.c ha hb _).mono ?_
      rintro e w1 ⟨he, rfl⟩
      rw [H2.out] at he
      subst he
      go_wp2
      go_ret
      exact ⟨rfl, rfl⟩
    · have ev : a.leq b = false := by unfold Lab.leq; rw [Bool.eq_false_iff.2 h2]; simp
      rw [ev]
      have H2 := Lib.hid h2
      clear ev h2
      go_enter Tryd.func41, Tryd.ntmps41
      go_wp2_with fail
      refine (sub_any a.c b.c ha hb _).mono ?_
      rintro e w1 ⟨he, rfl⟩
      rw [Bool.eq_false_iff.2 H2.out] at he
      subst he
      go_wp2
      go_ret
      exact ⟨rfl, rfl⟩
  · have ev : a.leq b = false := by unfold Lab.leq; rw [decide_eq_false h1]; rfl
    rw [ev]
    clear ev
    go_enter Tryd.func41, Tryd.ntmps41
    go_wp2
    go_ret
    exact ⟨rfl, rfl⟩

theorem under_any (a b : Lab) (ha : a.fits) (hb : b.fits) (w : World) :
    Calls Tryd.prog 41 #[.agg #[.int .i64 a.l, .int .u64 a.c, .int .i64 a.i, .int .i64 b.l, .int .u64 b.c, .int .i64 b.i]] w fun e w' => e = .returned (.bool (a.leq b)) ∧ Below w.heap.size w w' :=
  (under_at a b ha hb w).mono fun _ _ ⟨he, hw⟩ => ⟨he, hw ▸ Below.new _ _⟩

/-- What judge tells: nil, or what is no label. -/
def errL (a : Lab) : Value := if a.right then .nilIface else .iface 87 (.agg #[.int .i64 a.l, .int .u64 a.c, .int .i64 a.i])

theorem under_bot (a : Lab) (ha : a.fits) (b : Bool) (h : Hid (Lab.bot.leq a = b)) (w : World) :
    Calls Tryd.prog 41 #[.agg #[.int .i64 0, .int .u64 0, .int .i64 7, .int .i64 a.l, .int .u64 a.c, .int .i64 a.i]] w fun e w' => e = .returned (.bool b) ∧ Below w.heap.size w w' := by
  have := under_any Lab.bot a Lab.fits_bot ha w
  rw [h.out] at this
  exact this
theorem top_c : ((Lab.top.c : Nat) : Int) = 18446744073709551615 := rfl
theorem under_top (a : Lab) (ha : a.fits) (b : Bool) (h : Hid (a.leq Lab.top = b)) (w : World) :
    Calls Tryd.prog 41 #[.agg #[.int .i64 a.l, .int .u64 a.c, .int .i64 a.i, .int .i64 15, .int .u64 18446744073709551615, .int .i64 0]] w fun e w' => e = .returned (.bool b) ∧ Below w.heap.size w w' := by
  have := under_any a Lab.top ha Lab.fits_top w
  rw [h.out, top_c] at this
  exact this

end Go.Proofs.YtciohfeifihobaaDoor

/- The contracts of judge, Right, Under. -/
namespace Go.Proofs.YtciohfeifihobaaDoor
open Go.RowKit Go.Proofs.Cats

set_option maxHeartbeats 1000000 in
theorem judge_in (a : Lab) (ha : a.fits) (H1 : Hid (Lab.bot.leq a = true)) (H2 : Hid (a.leq Lab.top = true)) (w : World) :
    Calls Tryd.prog 55 #[.agg #[.int .i64 a.l, .int .u64 a.c, .int .i64 a.i]] w fun e w' => e = .returned (.nilIface) ∧ Below w.heap.size w w' := by
  go_enter Tryd.func55, Tryd.ntmps55
  go_wp2_with fail
  go_region_held3 (fun w' => w'.cell? ⟨w.heap.size, 0, none⟩ = some (.int .i64 a.l) ∧ w'.cell? ⟨w.heap.size, 1, none⟩ = some (.int .u64 a.c) ∧ w'.cell? ⟨w.heap.size, 2, none⟩ = some (.int .i64 a.i) ∧ Below w.heap.size w w')
    (first | (go_split_ands; exact ⟨cell_later hb (by assumption), cell_later hb (by assumption), cell_later hb (by assumption), below_more (by assumption) hb⟩) | (exact ⟨by simp, by simp, by simp, (Below.new _ _).drew⟩) | (go_keep; done))
    (first
    | (go_at_call 27; ((with_reducible refine (bottom_any _).mono ?_); rintro e w' ⟨rfl, hb⟩))
    | (go_at_call 28; ((with_reducible refine (top_any _).mono ?_); rintro e w' ⟨rfl, hb⟩))
    | (go_at_call 41; ((with_reducible refine (under_bot a ha true H1 _).mono ?_); rintro e w' ⟨rfl, hb⟩))
    | (go_at_call 41; ((with_reducible refine (under_top a ha true H2 _).mono ?_); rintro e w' ⟨rfl, hb⟩)))
  go_split_ands
  go_wp2
  go_ret
  exact ⟨rfl, by assumption⟩

set_option maxHeartbeats 1000000 in
theorem judge_top (a : Lab) (ha : a.fits) (H1 : Hid (Lab.bot.leq a = true)) (H2 : Hid (a.leq Lab.top = false)) (w : World) :
    Calls Tryd.prog 55 #[.agg #[.int .i64 a.l, .int .u64 a.c, .int .i64 a.i]] w fun e w' => e = .returned (.iface 87 (.agg #[.int .i64 a.l, .int .u64 a.c, .int .i64 a.i])) ∧ Below w.heap.size w w' := by
  go_enter Tryd.func55, Tryd.ntmps55
  go_wp2_with fail
  go_region_held3 (fun w' => w'.cell? ⟨w.heap.size, 0, none⟩ = some (.int .i64 a.l) ∧ w'.cell? ⟨w.heap.size, 1, none⟩ = some (.int .u64 a.c) ∧ w'.cell? ⟨w.heap.size, 2, none⟩ = some (.int .i64 a.i) ∧ Below w.heap.size w w')
    (first | (go_split_ands; exact ⟨cell_later hb (by assumption), cell_later hb (by assumption), cell_later hb (by assumption), below_more (by assumption) hb⟩) | (exact ⟨by simp, by simp, by simp, (Below.new _ _).drew⟩) | (go_keep; done))
    (first
    | (go_at_call 27; ((with_reducible refine (bottom_any _).mono ?_); rintro e w' ⟨rfl, hb⟩))
    | (go_at_call 28; ((with_reducible refine (top_any _).mono ?_); rintro e w' ⟨rfl, hb⟩))
    | (go_at_call 41; ((with_reducible refine (under_bot a ha true H1 _).mono ?_); rintro e w' ⟨rfl, hb⟩))
    | (go_at_call 41; ((with_reducible refine (under_top a ha false H2 _).mono ?_); rintro e w' ⟨rfl, hb⟩)))
  go_split_ands
  go_wp2
  go_ret
  exact ⟨rfl, by assumption⟩

theorem under_bot_at (a : Lab) (ha : a.fits) (b : Bool) (h : Hid (Lab.bot.leq a = b)) (w : World) :
    Calls Tryd.prog 41 #[.agg #[.int .i64 0, .int .u64 0, .int .i64 7, .int .i64 a.l, .int .u64 a.c, .int .i64 a.i]] w fun e w' => e = .returned (.bool b) ∧ w.alloc (.cells #[.int .i64 0, .int .u64 0, .int .i64 7, .int .i64 a.l, .int .u64 a.c, .int .i64 a.i] 61) = w' := by
  have := under_at Lab.bot a Lab.fits_bot ha w
  rw [h.out] at this
  exact this

set_option maxHeartbeats 1000000 in
theorem judge_bot (a : Lab) (ha : a.fits) (H1 : Hid (Lab.bot.leq a = false)) (w : World) :
    Calls Tryd.prog 55 #[.agg #[.int .i64 a.l, .int .u64 a.c, .int .i64 a.i]] w fun e w' => e = .returned (.iface 87 (.agg #[.int .i64 a.l, .int .u64 a.c, .int .i64 a.i])) ∧ Below w.heap.size w w' := by
  go_enter Tryd.func55, Tryd.ntmps55
  go_wp2_with fail
  go_region_with (first
    | (go_at_call 27; ((with_reducible refine (bottom_at _).mono ?_); rintro e w' ⟨rfl, rfl⟩))
    | (go_at_call 41; ((with_reducible refine (under_bot_at a ha false H1 _).mono ?_); rintro e w' ⟨rfl, rfl⟩)))
  all_goals go_wp2
  all_goals go_ret
  all_goals exact ⟨rfl, ((((Below.refl _ w).alloc (Nat.le_refl _) _).alloc (by simp) _).alloc (by simp; omega) _).drew⟩

theorem judge_any (a : Lab) (ha : a.fits) (w : World) :
    Calls Tryd.prog 55 #[.agg #[.int .i64 a.l, .int .u64 a.c, .int .i64 a.i]] w fun e w' => e = .returned (errL a) ∧ Below w.heap.size w w' := by
  have h := Lab.between a ha
  unfold errL
  cases h1 : Lab.bot.leq a
  · rw [h1] at h
    rw [← h]
    exact judge_bot a ha (Lib.hid h1) w
  · cases h2 : a.leq Lab.top
    · rw [h1, h2] at h
      rw [← h]
      exact judge_top a ha (Lib.hid h1) (Lib.hid h2) w
    · rw [h1, h2] at h
      rw [← h]
      exact judge_in a ha (Lib.hid h1) (Lib.hid h2) w

theorem errL_yes (a : Lab) (h : a.right = true) : errL a = .nilIface := by unfold errL; rw [h]; rfl
theorem errL_no (a : Lab) (h : a.right = false) : errL a = .iface 87 (.agg #[.int .i64 a.l, .int .u64 a.c, .int .i64 a.i]) := by unfold errL; rw [h]; rfl

set_option maxHeartbeats 400000 in
theorem right_any (a : Lab) (ha : a.fits) (w : World) :
    Calls Tryd.prog 40 #[.agg #[.int .i64 a.l, .int .u64 a.c, .int .i64 a.i]] w fun e w' => e = .returned (.bool a.right) ∧ Below w.heap.size w w' := by
  cases h : a.right
  · have H := Lib.hid (errL_no a h)
    clear h
    go_enter Tryd.func40, Tryd.ntmps40
    go_wp2_with fail
    refine (judge_any a ha _).mono ?_
    rintro e w1 ⟨he, hb⟩
    rw [H.out] at he
    subst he
    go_wp2
    go_ret
    exact ⟨rfl, below_more (Below.new _ _) hb⟩
  · have H := Lib.hid (errL_yes a h)
    clear h
    go_enter Tryd.func40, Tryd.ntmps40
    go_wp2_with fail
    refine (judge_any a ha _).mono ?_
    rintro e w1 ⟨he, hb⟩
    rw [H.out] at he
    subst he
    go_wp2
    go_ret
    exact ⟨rfl, below_more (Below.new _ _) hb⟩


theorem under_no (a b : Lab) (h : a.right = false) : a.under b = false := by unfold Lab.under; rw [h]; rfl
theorem under_no2 (a b : Lab) (h : b.right = false) : a.under b = false := by unfold Lab.under; rw [h, Bool.and_false]; rfl
theorem under_yes (a b : Lab) (h : a.right = true) (k : b.right = true) : a.under b = a.leq b := by unfold Lab.under; rw [h, k]; rfl

set_option maxHeartbeats 400000 in
theorem Under_any (a b : Lab) (ha : a.fits) (hb : b.fits) (w : World) :
    Calls Tryd.prog 24 #[.agg #[.int .i64 a.l, .int .u64 a.c, .int .i64 a.i], .agg #[.int .i64 b.l, .int .u64 b.c, .int .i64 b.i]] w fun e w' => e = .returned (.bool (a.under b)) ∧ Below w.heap.size w w' := by
  have B2 : Below w.heap.size w ((w.alloc (.cells #[.int .i64 a.l, .int .u64 a.c, .int .i64 a.i] 24)).alloc (.cells #[.int .i64 b.l, .int .u64 b.c, .int .i64 b.i] 24)) := (Below.new _ _).alloc (by simp) _
  cases h : a.right
  · have H := Lib.hid h
    rw [under_no a b h]
    clear h
    go_enter Tryd.func24, Tryd.ntmps24
    go_wp2_with fail
    refine (right_any a ha _).mono ?_
    rintro e w1 ⟨he, h1⟩
    rw [H.out] at he
    subst he
    go_wp2
    go_ret
    exact ⟨rfl, below_more B2 h1⟩
  · cases k : b.right
    · have H := Lib.hid h
      have K := Lib.hid k
      rw [under_no2 a b k]
      clear h k
      go_enter Tryd.func24, Tryd.ntmps24
      go_wp2_with fail
      refine (right_any a ha _).mono ?_
      rintro e w1 ⟨he, h1⟩
      rw [H.out] at he
      subst he
      obtain ⟨hc, _⟩ := bcell h1
      go_wp2_with fail
      refine (right_any b hb _).mono ?_
      rintro e w2 ⟨he, h2⟩
      rw [K.out] at he
      subst he
      go_wp2
      go_ret
      exact ⟨rfl, below_more (below_more B2 h1) h2⟩
    · have H := Lib.hid h
      have K := Lib.hid k
      rw [under_yes a b h k]
      clear h k
      go_enter Tryd.func24, Tryd.ntmps24
      go_wp2_with fail
      refine (right_any a ha _).mono ?_
      rintro e w1 ⟨he, h1⟩
      rw [H.out] at he
      subst he
      have c0 : w1.cell? ⟨w.heap.size, 0, none⟩ = some (.int .i64 a.l) := cell_later h1 (by simp)
      have c1 : w1.cell? ⟨w.heap.size, 1, none⟩ = some (.int .u64 a.c) := cell_later h1 (by simp)
      have c2 : w1.cell? ⟨w.heap.size, 2, none⟩ = some (.int .i64 a.i) := cell_later h1 (by simp)
      have d0 : w1.cell? ⟨w.heap.size + 1, 0, none⟩ = some (.int .i64 b.l) := cell_later h1 (by simp)
      have d1 : w1.cell? ⟨w.heap.size + 1, 1, none⟩ = some (.int .u64 b.c) := cell_later h1 (by simp)
      have d2 : w1.cell? ⟨w.heap.size + 1, 2, none⟩ = some (.int .i64 b.i) := cell_later h1 (by simp)
      go_wp2_with fail
      refine (right_any b hb _).mono ?_
      rintro e w2 ⟨he, h2⟩
      rw [K.out] at he
      subst he
      replace c0 := cell_later h2 c0
      replace c1 := cell_later h2 c1
      replace c2 := cell_later h2 c2
      replace d0 := cell_later h2 d0
      replace d1 := cell_later h2 d1
      replace d2 := cell_later h2 d2
      go_wp2_with fail
      refine (under_any a b ha hb _).mono ?_
      rintro e w3 ⟨rfl, h3⟩
      go_wp2
      go_ret
      exact ⟨rfl, below_more (below_more (below_more B2 h1) h2) h3⟩

end Go.Proofs.YtciohfeifihobaaDoor

/- The contracts of join, meet, before, Compare. -/
namespace Go.Proofs.YtciohfeifihobaaDoor
open Go.RowKit Go.Proofs.Cats

set_option maxHeartbeats 400000 in
theorem joinP_any (a b : Lab) (ha : a.fits) (hb : b.fits) (w : World) :
    Calls Tryd.prog 57 #[.agg #[.int .i64 a.l, .int .u64 a.c, .int .i64 a.i, .int .i64 b.l, .int .u64 b.c, .int .i64 b.i]] w fun e w' => e = .returned (.agg #[.int .i64 (a.join b).l, .int .u64 (a.join b).c, .int .i64 (a.join b).i]) ∧ Below w.heap.size w w' := by
  have e1 : (((a.join b).c : Nat) : Int) = bits BinOp.or IntKind.u64 (a.c : Int) (b.c : Int) := (u64_or_nat a.c b.c ha hb).symm
  rw [e1]
  clear e1
  go_enter Tryd.func57, Tryd.ntmps57
  go_wp2
  all_goals
    refine bodyPost_ret (v := .agg #[.int .i64 (a.join b).l, .int .u64 (bits BinOp.or IntKind.u64 (a.c : Int) (b.c : Int)), .int .i64 (a.join b).i]) ?_ rfl ⟨rfl, (Below.new _ _).alloc (by simp) _⟩
    (first | rw [show (a.join b).l = a.l by simp only [Lab.join]; omega] | rw [show (a.join b).l = b.l by simp only [Lab.join]; omega])
    (first | rw [show (a.join b).i = a.i by simp only [Lab.join]; omega] | rw [show (a.join b).i = b.i by simp only [Lab.join]; omega])
    simp [results, Tryd.results57, go_sem]

theorem labFields : (Tryd.prog.fieldsOf 24).toList.map (fun f => (f.name == "_", f.type, f.offset)) = [(false, 3, 0), (false, 22, 1), (false, 3, 2)] := by kernel_rfl

set_option maxHeartbeats 400000 in
theorem eqInL (a b : Lab) (w : World) : (Op.equalIn 10000 24 (.agg #[.int .i64 a.l, .int .u64 a.c, .int .i64 a.i]) (.agg #[.int .i64 b.l, .int .u64 b.c, .int .i64 b.i])).run Tryd.prog w = .ok (a.same b) w := by
  by_cases h1 : a.l = b.l
  · by_cases h2 : a.c = b.c
    · have ev : a.same b = (a.i == b.i) := by unfold Lab.same; simp [h1, h2]
      rw [ev, h1, h2]
      clear ev
      by_cases h3 : a.i = b.i
      · rw [h3]
        go_simp
      · have k2 : (a.i == b.i) = false := by simp [h3]
        rw [k2]
        go_simp
    · have ev : a.same b = false := by unfold Lab.same; simp [h2]
      have k2 : (((a.c : Nat) : Int) == ((b.c : Nat) : Int)) = false := by simp; omega
      rw [ev, h1]
      go_simp
  · have ev : a.same b = false := by unfold Lab.same; simp [h1]
    have k2 : (a.l == b.l) = false := by simp [h1]
    rw [ev]
    go_simp
theorem eqL (a b : Lab) (w : World) : (binOp .eql 24 (.agg #[.int .i64 a.l, .int .u64 a.c, .int .i64 a.i]) (.agg #[.int .i64 b.l, .int .u64 b.c, .int .i64 b.i])).run Tryd.prog w = .ok (.bool (a.same b)) w := by
  rw [run_eql_struct, eqInL]; rfl

end Go.Proofs.YtciohfeifihobaaDoor

/- errors.As at the one target, a variable of type label.none: nil, and what is no label. -/
namespace Go.Proofs.YtciohfeifihobaaDoor
open Go.RowKit Go.Extern.Stop Go.Stop Go.Extern

/-- errors.As(nil, target). -/
theorem as_nil (t : Value) (w : World) :
    Calls Tryd.prog 39 #[.nilIface, t] w fun e w' => e = .returned (.bool false) ∧ w = w' := by
  go_enter Tryd.func39, Tryd.ntmps39
  go_wp2
  go_ret
  exact ⟨rfl, rfl⟩

theorem asV (t : Addr) (w : World) : (ReflectliteValue.unpack (.iface 88 (.pointer (some t)))).run Tryd.prog w
    = .ok (.agg #[.pointer (some ⟨4, 88, none⟩), .pointer (some ⟨w.heap.size, 0, none⟩), .int .u64 150]) (w.alloc (.cells #[.pointer (some t)] 88)) := by kernel_rfl
theorem asT (a : Addr) (w : World) : (ReflectliteValue.methodAny (ReflectliteValue.valueError "reflectlite.Value.Type" 0) (fun t _ _ _ => ReflectliteType.toType t) #[.agg #[.pointer (some ⟨4, 88, none⟩), .pointer (some a), .int .u64 150]]).run Tryd.prog w
    = .ok (.iface 95 (.agg #[.pointer (some ⟨4, 88, none⟩)])) w := by kernel_rfl
theorem asMK (h : Value) (w : World) : (Go.method 250 95 (.agg #[h]) "Kind").run Tryd.prog w = .ok (82, h) w := by kernel_rfl
theorem asKp (w : World) : ((ReflectliteType.abiMethod fun t => (fun a : Nat => Value.int IntKind.u8 (a : Int)) <$> Rtype.kind t) #[.pointer (some ⟨4, 88, none⟩)]).run Tryd.prog w = .ok (.int .u8 22) w := by kernel_rfl
theorem asKs (w : World) : ((ReflectliteType.abiMethod fun t => (fun a : Nat => Value.int IntKind.u8 (a : Int)) <$> Rtype.kind t) #[.pointer (some ⟨4, 87, none⟩)]).run Tryd.prog w = .ok (.int .u8 25) w := by kernel_rfl

theorem asPartsP (a : Addr) (w : World) : (ReflectliteValue.parts (.agg #[.pointer (some ⟨4, 88, none⟩), .pointer (some a), .int .u64 150])).run Tryd.prog w = .ok (some (88, a, 150)) w := by kernel_rfl
theorem asIsNil (a p : Addr) (W : World) (ha : W.cell? a = some (.pointer (some p))) :
    (ReflectliteValue.method (ReflectliteValue.valueError "reflectlite.Value.IsNil" 0) ReflectliteValue.isNil #[.agg #[.pointer (some ⟨4, 88, none⟩), .pointer (some a), .int .u64 150]]).run Tryd.prog W = .ok (.bool false) W := by
  show (ReflectliteValue.parts (.agg #[.pointer (some ⟨4, 88, none⟩), .pointer (some a), .int .u64 150]) >>= _ : Sem Value).run Tryd.prog W = _
  simp only [Sem.run_bind, asPartsP, Result.andThen]
  simp [ReflectliteValue.isNil, loadVar, isAgg, underlying, Tryd.underlying88, ha, Result.andThen]
theorem asME (h : Value) (w : World) : (Go.method 250 95 (.agg #[h]) "Elem").run Tryd.prog w = .ok (95, .agg #[h]) w := by kernel_rfl
theorem asMI (h : Value) (w : World) : (Go.method 250 95 (.agg #[h]) "Implements").run Tryd.prog w = .ok (96, .agg #[h]) w := by kernel_rfl
theorem asMA (h : Value) (w : World) : (Go.method 250 95 (.agg #[h]) "AssignableTo").run Tryd.prog w = .ok (93, .agg #[h]) w := by kernel_rfl
theorem asElemT (w : World) : (ReflectliteType.method ReflectliteType.elem #[.agg #[.pointer (some ⟨4, 88, none⟩)]]).run Tryd.prog w = .ok (.iface 95 (.agg #[.pointer (some ⟨4, 87, none⟩)])) w := by kernel_rfl
theorem asImpl (w : World) : (ReflectliteType.relation "Implements" ReflectliteType.implements_ #[.agg #[.pointer (some ⟨4, 87, none⟩)], .iface 95 (.agg #[.pointer (some ⟨4, 44, none⟩)])]).run Tryd.prog w = .ok (.bool true) w := by kernel_rfl
theorem asTypeOf (v : Value) (w : World) : (ReflectliteType.typeOf #[.iface 87 v]).run Tryd.prog w = .ok (.iface 95 (.agg #[.pointer (some ⟨4, 87, none⟩)])) w := by kernel_rfl
theorem asAssign (w : World) : (ReflectliteType.relation "AssignableTo" ReflectliteType.assignableTo #[.agg #[.pointer (some ⟨4, 87, none⟩)], .iface 95 (.agg #[.pointer (some ⟨4, 87, none⟩)])]).run Tryd.prog w = .ok (.bool true) w := by kernel_rfl
theorem asVs (l c i : Value) (w : World) : (ReflectliteValue.unpack (.iface 87 (.agg #[l, c, i]))).run Tryd.prog w
    = .ok (.agg #[.pointer (some ⟨4, 87, none⟩), .pointer (some ⟨w.heap.size, 0, none⟩), .int .u64 153]) (w.alloc (.cells #[l, c, i] 87)) := by kernel_rfl
theorem asElemOf (w : World) : (Rtype.elem? 88).run Tryd.prog w = .ok (some 87) w := by kernel_rfl
theorem asMk (p : Addr) (w : World) : (ReflectliteValue.mk 87 p ReflectliteValue.flagAddr).run Tryd.prog w = .ok (.agg #[.pointer (some ⟨4, 87, none⟩), .pointer (some p), .int .u64 409]) w := by kernel_rfl
theorem asElemV (a p : Addr) (W : World) (ha : W.cell? a = some (.pointer (some p))) :
    (ReflectliteValue.method (ReflectliteValue.valueError "reflectlite.Value.Elem" 0) ReflectliteValue.elem #[.agg #[.pointer (some ⟨4, 88, none⟩), .pointer (some a), .int .u64 150]]).run Tryd.prog W
      = .ok (.agg #[.pointer (some ⟨4, 87, none⟩), .pointer (some p), .int .u64 409]) W := by
  show (ReflectliteValue.parts (.agg #[.pointer (some ⟨4, 88, none⟩), .pointer (some a), .int .u64 150]) >>= _ : Sem Value).run Tryd.prog W = _
  simp only [Sem.run_bind, asPartsP, Result.andThen]
  simp [ReflectliteValue.elem, loadVar, isAgg, underlying, Tryd.underlying88, ha, Result.andThen, asElemOf, asMk]
theorem asPartsA (a : Addr) (w : World) : (ReflectliteValue.parts (.agg #[.pointer (some ⟨4, 87, none⟩), .pointer (some a), .int .u64 409])).run Tryd.prog w = .ok (some (87, a, 409)) w := by kernel_rfl
theorem asPartsS (a : Addr) (w : World) : (ReflectliteValue.parts (.agg #[.pointer (some ⟨4, 87, none⟩), .pointer (some a), .int .u64 153])).run Tryd.prog w = .ok (some (87, a, 153)) w := by kernel_rfl
theorem asDirect (w : World) : (Rtype.directlyAssignable 87 87).run Tryd.prog w = .ok true w := by kernel_rfl
theorem asSize (w : World) : (sizeOf 87).run Tryd.prog w = .ok 3 w := by kernel_rfl

end Go.Proofs.YtciohfeifihobaaDoor

/- errors.As at what is no label. -/
namespace Go.Proofs.YtciohfeifihobaaDoor
open Go.RowKit Go.Extern.Stop Go.Stop Go.Extern

/-- (Value).Set: the variable at block t gets what the Value's own variable at block b holds. -/
theorem asSet (t b : Nat) (l c i : Int) (o0 o1 o2 : Value) (W : World) (h0 : W.cell? ⟨b, 0, none⟩ = some (.int .i64 l)) (h1 : W.cell? ⟨b, 1, none⟩ = some (.int .u64 c)) (h2 : W.cell? ⟨b, 2, none⟩ = some (.int .i64 i))
    (t0 : W.cell? ⟨t, 0, none⟩ = some o0) (t1 : W.cell? ⟨t, 1, none⟩ = some o1) (t2 : W.cell? ⟨t, 2, none⟩ = some o2)
    (f0 : W.frozen? ⟨t, 0, none⟩ = false) (f1 : W.frozen? ⟨t, 1, none⟩ = false) (f2 : W.frozen? ⟨t, 2, none⟩ = false) :
    (ReflectliteValue.set #[.agg #[.pointer (some ⟨4, 87, none⟩), .pointer (some ⟨t, 0, none⟩), .int .u64 409], .agg #[.pointer (some ⟨4, 87, none⟩), .pointer (some ⟨b, 0, none⟩), .int .u64 153]]).run Tryd.prog W
      = .ok (.tuple #[]) (((W.setCell ⟨t, 0, none⟩ (.int .i64 l)).setCell ⟨t, 1, none⟩ (.int .u64 c)).setCell ⟨t, 2, none⟩ (.int .i64 i)) := by
  have u1 : (W.setCell ⟨t, 0, none⟩ (.int .i64 l)).cell? ⟨t, 1, none⟩ = some o1 := (World.cell?_setCell_other _ _ _ _ (by simp)).trans t1
  have u2 : ((W.setCell ⟨t, 0, none⟩ (.int .i64 l)).setCell ⟨t, 1, none⟩ (.int .u64 c)).cell? ⟨t, 2, none⟩ = some o2 := (World.cell?_setCell_other _ _ _ _ (by simp)).trans ((World.cell?_setCell_other _ _ _ _ (by simp)).trans t2)
  have hl := run_loadCells_list (P := Tryd.prog) W ⟨b, 0, none⟩ [.int .i64 l, .int .u64 c, .int .i64 i] (fun j v hj => by
    match j with
    | 0 => obtain rfl := Option.some.inj hj; exact h0
    | 1 => obtain rfl := Option.some.inj hj; exact h1
    | 2 => obtain rfl := Option.some.inj hj; exact h2
    | n + 3 => simp at hj)
  simp only [List.length_cons, List.length_nil, Nat.reduceAdd] at hl
  show (ReflectliteValue.parts (.agg #[.pointer (some ⟨4, 87, none⟩), .pointer (some ⟨t, 0, none⟩), .int .u64 409]) >>= fun _ => ReflectliteValue.parts (.agg #[.pointer (some ⟨4, 87, none⟩), .pointer (some ⟨b, 0, none⟩), .int .u64 153]) >>= fun _ => _ : Sem Value).run Tryd.prog W = _
  simp only [Sem.run_bind, asPartsA, asPartsS, Result.andThen]
  simp [ReflectliteValue.flagAddr, loadVar, isAgg, underlying, Tryd.underlying87, hl, Result.andThen, asDirect, storeVar, Value.cells, storeCells, Addr.add]
  rw [run_store_int]
  simp [stored, t0, f0]
  rw [run_store_int]
  simp [stored, u1, f1, World.frozen?_setCell]
  rw [run_store_int]
  simp [stored, u2, f2, World.frozen?_setCell]

set_option maxRecDepth 100000 in
set_option maxHeartbeats 4000000 in
theorem as_hit (l c i : Int) (t : Nat) (o0 o1 o2 : Value) (w : World) (hg : w.cell? ⟨3, 0, none⟩ = some (.iface 95 (.agg #[.pointer (some ⟨4, 44, none⟩)])))
    (t0 : w.cell? ⟨t, 0, none⟩ = some o0) (t1 : w.cell? ⟨t, 1, none⟩ = some o1) (t2 : w.cell? ⟨t, 2, none⟩ = some o2)
    (f0 : w.frozen? ⟨t, 0, none⟩ = false) (f1 : w.frozen? ⟨t, 1, none⟩ = false) (f2 : w.frozen? ⟨t, 2, none⟩ = false) :
    Calls Tryd.prog 39 #[.iface 87 (.agg #[.int .i64 l, .int .u64 c, .int .i64 i]), .iface 88 (.pointer (some ⟨t, 0, none⟩))] w fun ev w' => ev = .returned (.bool true) ∧ Below t w w' := by
  have h6 := @run_callFunc_extern Tryd.prog 51 _ (fun args => ReflectliteValue.unpack (args.getD 0 (.tuple #[]))) Tryd.func51 (by kernel_rfl) (by kernel_rfl) (by kernel_rfl) (by kernel_rfl)
  have h7 := @run_callFunc_extern Tryd.prog 52 _ (ReflectliteValue.methodAny (ReflectliteValue.valueError "reflectlite.Value.Type" 0) (fun t _ _ _ => ReflectliteType.toType t)) Tryd.func52 (by kernel_rfl) (by kernel_rfl) (by kernel_rfl) (by kernel_rfl)
  have h8 := @run_callFunc_extern Tryd.prog 53 _ (ReflectliteValue.method (ReflectliteValue.valueError "reflectlite.Value.IsNil" 0) ReflectliteValue.isNil) Tryd.func53 (by kernel_rfl) (by kernel_rfl) (by kernel_rfl) (by kernel_rfl)
  have h27 := @run_callFunc_extern Tryd.prog 82 _ (ReflectliteType.abiMethod fun t => do pure (.int .u8 (← Rtype.kind t))) Tryd.func82 (by kernel_rfl) (by kernel_rfl) (by kernel_rfl) (by kernel_rfl)
  have h37 := @run_callFunc_extern Tryd.prog 95 _ (ReflectliteType.method ReflectliteType.elem) Tryd.func95 (by kernel_rfl) (by kernel_rfl) (by kernel_rfl) (by kernel_rfl)
  have h38 := @run_callFunc_extern Tryd.prog 96 _ (ReflectliteType.relation "Implements" ReflectliteType.implements_) Tryd.func96 (by kernel_rfl) (by kernel_rfl) (by kernel_rfl) (by kernel_rfl)
  have h10 := @run_callFunc_extern Tryd.prog 60 _ ReflectliteType.typeOf Tryd.func60 (by kernel_rfl) (by kernel_rfl) (by kernel_rfl) (by kernel_rfl)
  have h35 := @run_callFunc_extern Tryd.prog 93 _ (ReflectliteType.relation "AssignableTo" ReflectliteType.assignableTo) Tryd.func93 (by kernel_rfl) (by kernel_rfl) (by kernel_rfl) (by kernel_rfl)
  have h11 := @run_callFunc_extern Tryd.prog 62 _ (ReflectliteValue.method (ReflectliteValue.valueError "reflectlite.Value.Elem" 0) ReflectliteValue.elem) Tryd.func62 (by kernel_rfl) (by kernel_rfl) (by kernel_rfl) (by kernel_rfl)
  have h12 := @run_callFunc_extern Tryd.prog 63 _ ReflectliteValue.set Tryd.func63 (by kernel_rfl) (by kernel_rfl) (by kernel_rfl) (by kernel_rfl)
  have tO := asTypeOf
  have mA := asMA
  have a25 := asAssign
  have v25 := asVs (.int .i64 l) (.int .u64 c) (.int .i64 i)
  have f6 := asV
  have f7 := asT
  have mK := asMK
  have mE := asME
  have mI := asMI
  have k27 := asKp
  have k25 := asKs
  have e27 := asElemT
  have i25 := asImpl
  have hlt : 3 < w.heap.size := World.block_lt_of_cell? w _ hg
  have htl : t < w.heap.size := World.block_lt_of_cell? w _ t0
  have hB2 : Below w.heap.size w ((w.alloc (.cells #[.pointer (some ⟨t, 0, none⟩)] 88)).alloc (.cells #[.pointer (some ⟨4, 88, none⟩), .pointer (some ⟨w.heap.size, 0, none⟩), .int .u64 150] 76)) := ((Below.refl _ w).alloc (Nat.le_refl _) _).alloc (by simp) _
  have hB4 := ((hB2.alloc (by simp; omega) (.cells #[.pointer (some ⟨4, 88, none⟩), .pointer (some ⟨w.heap.size, 0, none⟩), .int .u64 150] 76)).alloc (by simp; omega) (.cells #[.int .i64 l, .int .u64 c, .int .i64 i] 87))
  have n8 := asIsNil ⟨w.heap.size, 0, none⟩ ⟨t, 0, none⟩ ((w.alloc (.cells #[.pointer (some ⟨t, 0, none⟩)] 88)).alloc (.cells #[.pointer (some ⟨4, 88, none⟩), .pointer (some ⟨w.heap.size, 0, none⟩), .int .u64 150] 76)) (by simp)
  have hg2 := (hB2.cell (p := ⟨3, 0, none⟩) hlt).trans hg
  have el := asElemV ⟨w.heap.size, 0, none⟩ ⟨t, 0, none⟩ (((w.alloc (.cells #[.pointer (some ⟨t, 0, none⟩)] 88)).alloc (.cells #[.pointer (some ⟨4, 88, none⟩), .pointer (some ⟨w.heap.size, 0, none⟩), .int .u64 150] 76)).alloc (.cells #[.pointer (some ⟨4, 88, none⟩), .pointer (some ⟨w.heap.size, 0, none⟩), .int .u64 150] 76)) (by rw [World.cell?_alloc_lt _ _ ⟨w.heap.size, 0, none⟩ (by simp; omega)]; simp)
  have st := asSet t (w.heap.size + 1 + 1 + 1) l c i o0 o1 o2 _ (by rw [World.cell?_alloc_at _ _ _ _ (by simp)]; rfl) (by rw [World.cell?_alloc_at _ _ _ _ (by simp)]; rfl) (by rw [World.cell?_alloc_at _ _ _ _ (by simp)]; rfl)
    ((hB4.cell (p := ⟨t, 0, none⟩) htl).trans t0) ((hB4.cell (p := ⟨t, 1, none⟩) htl).trans t1) ((hB4.cell (p := ⟨t, 2, none⟩) htl).trans t2)
    ((hB4.frozen (p := ⟨t, 0, none⟩) htl).trans f0) ((hB4.frozen (p := ⟨t, 1, none⟩) htl).trans f1) ((hB4.frozen (p := ⟨t, 2, none⟩) htl).trans f2)
  go_enter Tryd.func39, Tryd.ntmps39
  go_wp2
  refine wp_loop_rounds 1 ?_
  rw [rounds_succ]
  go_wp2
  go_ret
  exact ⟨rfl, (((hB4.mono (Nat.le_of_lt htl)).setCell (p := ⟨t, 0, none⟩) (Nat.le_refl _) _).setCell (p := ⟨t, 1, none⟩) (Nat.le_refl _) _).setCell (p := ⟨t, 2, none⟩) (Nat.le_refl _) _⟩
end Go.Proofs.YtciohfeifihobaaDoor

/- The iterator over judged labels. -/
namespace Go.Proofs.YtciohfeifihobaaDoor
open Go.RowKit Go.Proofs.Cats Go.Shelf

attribute [local go_sem] Oper.semAt_some

/-- The three cells of a label, at block b from o on. -/
def LabAt (W : World) (b o : Nat) (x : Lab) : Prop :=
  W.cell? ⟨b, o, none⟩ = some (.int .i64 x.l) ∧ W.cell? ⟨b, o + 1, none⟩ = some (.int .u64 x.c) ∧ W.cell? ⟨b, o + 2, none⟩ = some (.int .i64 x.i)
theorem LabAt.below {n : Nat} {A B : World} {b o : Nat} {x : Lab} (h : LabAt A b o x) (k : Below n A B) (hb : b < n) : LabAt B b o x :=
  ⟨(k.cell (p := ⟨b, o, none⟩) hb).trans h.1, (k.cell (p := ⟨b, o + 1, none⟩) hb).trans h.2.1, (k.cell (p := ⟨b, o + 2, none⟩) hb).trans h.2.2⟩

/-- The slice value sv holds the labels zs, in a block below n₀, if there are any. -/
def Labs (n₀ : Nat) (W : World) (sv : Value) (zs : List Lab) : Prop :=
  ∃ ao cap, sv = .slice ao zs.length cap ∧ (zs ≠ [] → ∃ b off, ao = some ⟨b, off, none⟩ ∧ b < n₀ ∧ ∀ j x, zs[j]? = some x → x.fits ∧ LabAt W b (off + j * 3) x)
theorem Labs.below {n₀ : Nat} {A B : World} (h : Below n₀ A B) {sv : Value} {zs : List Lab} : Labs n₀ A sv zs → Labs n₀ B sv zs
  | ⟨ao, cap, e, k⟩ => ⟨ao, cap, e, fun hz => let ⟨b, off, e1, hb, hc⟩ := k hz; ⟨b, off, e1, hb, fun j x hj => ⟨(hc j x hj).1, (hc j x hj).2.below h hb⟩⟩⟩
theorem Labs.mono {n₀ n₁ : Nat} (h : n₀ ≤ n₁) {A : World} {sv : Value} {zs : List Lab} : Labs n₀ A sv zs → Labs n₁ A sv zs
  | ⟨ao, cap, e, k⟩ => ⟨ao, cap, e, fun hz => let ⟨b, off, e1, hb, hc⟩ := k hz; ⟨b, off, e1, by omega, hc⟩⟩
theorem Labs.fits {n₀ : Nat} {A : World} {sv : Value} {zs : List Lab} : Labs n₀ A sv zs → ∀ x ∈ zs, x.fits
  | ⟨_, _, _, k⟩ => fun x hx => by
    obtain ⟨b, off, _, _, hc⟩ := k (fun e => by subst e; cases hx)
    obtain ⟨j, hj⟩ := List.getElem?_of_mem hx
    exact (hc j x hj).1

theorem below_grown {w w' : World} (h : Below w.heap.size w w') : w.grownBy w' none := ⟨h.os, h.tape, h.output, h.size, fun k hk _ => h.block k hk⟩
theorem take_next {α : Type} (zs : List α) (k : Nat) (x : α) (h : zs[k]? = some x) : zs.take (k + 1) = zs.take k ++ [x] := by
  obtain ⟨hk, rfl⟩ := List.getElem?_eq_some_iff.1 h
  rw [List.take_append_getElem hk]

/-- What a round tells: whether to go on. -/
def Told (J Jx : List Lab → World → Prop) (pre : List Lab) (x : Lab) (n₀ : Nat) (W W' : World) (b : Bool) : Prop :=
  (b = true → J (pre ++ [x]) W' ∧ Below n₀ W W') ∧ (b = false → Jx (pre ++ [x]) W')

set_option maxRecDepth 100000 in
set_option maxHeartbeats 2000000 in
theorem judged1_in (n : Nat) (hn : 1 ≤ n) (l Bs n₀ b off len cap : Nat) (zs : List Lab) (hlen : zs.length = len) (hreach : len * 24 ≤ 140737488351232) (hb : b < n₀) (J Jx : List Lab → World → Prop)
    (W : World) (hn₀ : n₀ ≤ W.heap.size) (hJ : AbidesFrom W.heap.size J)
    (hY : ∀ pre x W, J pre W → pre.length < len → x.fits → YieldAt Fence.wide (n - 1) Tryd.prog l #[.agg #[.int .i64 x.l, .int .u64 x.c, .int .i64 x.i], errL x] W fun e W' =>
      ∃ g, e = .returned (.bool g) ∧ Told J Jx pre x n₀ W W' g)
    (hBs : W.cell? ⟨Bs, 0, none⟩ = some (.slice (some ⟨b, off, none⟩) len cap)) (hc : ∀ j x, zs[j]? = some x → x.fits ∧ LabAt W b (off + j * 3) x)
    (h0 : J [] W) :
    CallsIn Fence.wide n Tryd.prog 67 #[.func (.yield l) #[] #[], .pointer (some ⟨Bs, 0, none⟩)] W fun e W' => (∃ v, e = .returned v) ∧
      ((∃ ys, ys = zs ∧ J ys W') ∨ (∃ pre, (∃ k, k ≤ len ∧ pre = zs.take k) ∧ Jx pre W')) := by
  have hmx : Tryd.prog.follows .mixedOrders = true := by kernel_rfl
  refine callsIn_of_wp Tryd.func67 rfl trivial ?_ rfl
  simp only [Tryd.ntmps67, List.size_toArray, List.length_cons, List.length_nil, Nat.reduceAdd, Nat.reduceSub, Array.replicate_succ, Array.replicate_zero, List.push_toArray, List.append_toArray, List.nil_append, List.cons_append]
  gi_wp2
  have HL := Lib.hid hlen
  clear hlen
  have HC := Lib.hid hc
  clear hc
  gi_loopw [7] (fun i wr => ∃ k : Nat, k ≤ len ∧ i = .int .i64 k ∧ J (zs.take k) wr ∧ Below n₀ W wr)
    (fun i _ => len - (intOf i).toNat)
  case atStart => exact ⟨0, Nat.zero_le _, rfl, h0, Below.refl _ _⟩
  case round =>
    obtain ⟨k, hk, rfl, hJs, hnx⟩ := hrel
    have hsz := hnx.size
    by_cases hlt : k < len
    · obtain ⟨x, hx⟩ : ∃ x, zs[k]? = some x := ⟨_, List.getElem?_eq_getElem (by rw [HL.out]; exact hlt)⟩
      obtain ⟨hfit, hat⟩ := HC.out k x hx
      obtain ⟨q0, q1, q2⟩ := hat.below hnx hb
      have HX := Lib.hid hx
      have HT := Lib.hid (take_next zs k x hx)
      clear hx hat
      have HJ := Lib.hid hJs
      have HJ0 := Lib.hid hJ
      have HY := Lib.hid hY
      clear hJs
      clear hJ hY
      have hkl : (zs.take k).length < len := by rw [List.length_take, HL.out]; omega
      gi_wp2
      gi_region_with_o (first
        | (refine ⟨trivial, ?_⟩; gi_at_call 55; refine (callsIn_wide.2 (judge_any x hfit _)).mono ?_; rintro e w' ⟨rfl, hbw⟩
           have d0 : w'.cell? ⟨wr.heap.size, 0, none⟩ = some (.int .i64 x.l) := cell_later hbw (by simp)
           have d1 : w'.cell? ⟨wr.heap.size, 1, none⟩ = some (.int .u64 x.c) := cell_later hbw (by simp)
           have d2 : w'.cell? ⟨wr.heap.size, 2, none⟩ = some (.int .i64 x.i) := cell_later hbw (by simp)
           have hbr := below_more ((Below.new wr (.cells #[.int .i64 x.l, .int .u64 x.c, .int .i64 x.i] 24)).drew) hbw
           obtain ⟨fn, tmps, assign, body, hy, hR⟩ := HY.out _ x w' (HJ0.out _ _ _ none HJ.out (below_grown hbr) (fun r e => by cases e)) hkl hfit)
        | (refine hR.mono ?_; rintro e W3 ⟨g, rfl, htold⟩))
      all_goals (
        cases g with
        | true =>
          obtain ⟨hJ3, hk3⟩ := htold.1 rfl
          have hw3 := (hnx.trans (hbr.mono (by omega))).trans hk3
          clear htold hbr hbw hR hy d0 d1 d2 q0 q1 q2
          gi_wp2
          go_roundw
          case rel => exact ⟨k + 1, by omega, by simp, by rw [HT.out]; exact hJ3, hw3⟩
          case measure => simp [intOf]; omega
        | false =>
          have hx3 := htold.2 rfl
          clear htold hbr hbw hR hy d0 d1 d2 q0 q1 q2
          gi_wp2
          refine bodyPost_ret (results_none rfl _ _ _) rfl ?_
          exact ⟨⟨_, rfl⟩, .inr ⟨_, ⟨k + 1, by omega, HT.out.symm⟩, hx3⟩⟩)
    · obtain rfl : k = len := by omega
      gi_wp2
      go_end0
      exact ⟨⟨_, rfl⟩, .inl ⟨_, by rw [List.take_of_length_le (by rw [HL.out]; exact Nat.le_refl _)], hJs⟩⟩

set_option maxRecDepth 100000 in
set_option maxHeartbeats 1000000 in
theorem judged1_nil_in (n : Nat) (l Bs : Nat) (ao : Option Addr) (cap : Nat) (J : List Lab → World → Prop) (W : World) (hBs : W.cell? ⟨Bs, 0, none⟩ = some (.slice ao 0 cap)) (h0 : J [] W) :
    CallsIn Fence.wide n Tryd.prog 67 #[.func (.yield l) #[] #[], .pointer (some ⟨Bs, 0, none⟩)] W fun e W' => (∃ v, e = .returned v) ∧ J [] W' := by
  refine callsIn_of_wp Tryd.func67 rfl trivial ?_ rfl
  simp only [Tryd.ntmps67, List.size_toArray, List.length_cons, List.length_nil, Nat.reduceAdd, Nat.reduceSub, Array.replicate_succ, Array.replicate_zero, List.push_toArray, List.append_toArray, List.nil_append, List.cons_append]
  gi_wp2
  gi_loopw [7] (fun i wr => i = .int .i64 0 ∧ J [] wr) (fun _ _ => 0)
  case atStart => exact ⟨rfl, h0⟩
  case round =>
    obtain ⟨rfl, hJs⟩ := hrel
    gi_wp2
    go_end0
    exact ⟨⟨_, rfl⟩, hJs⟩

set_option maxHeartbeats 1000000 in
theorem judged_in (n : Nat) (a : Option Addr) (len cap : Nat) (w : World) :
    CallsIn Fence.wide n Tryd.prog 64 #[.slice a len cap] w fun e w' => e = .returned (.func (.func 67) #[] #[.pointer (some ⟨w.heap.size, 0, none⟩)]) ∧ w' = w.alloc (.cells #[.slice a len cap] 34) := by
  refine callsIn_of_wp Tryd.func64 rfl trivial ?_ rfl
  simp only [Tryd.ntmps64, List.size_toArray, List.length_cons, List.length_nil, Nat.reduceAdd, Nat.reduceSub, Array.replicate_succ, Array.replicate_zero, List.push_toArray, List.append_toArray, List.nil_append, List.cons_append]
  gi_wp2
  go_ret
  exact ⟨rfl, rfl⟩

/-- Labels whose numbers are numbers of the machine. -/
def FLab : Type := { x : Lab // x.fits }

theorem judged_stops (n : Nat) (hn : 1 ≤ n) (Bs n₀ : Nat) (sv : Value) (zs : List Lab) (hreach : zs.length * 24 ≤ 140737488351232) (w : World) (hBs : Bs < w.heap.size) (hn₀ : n₀ ≤ w.heap.size)
    (hc : w.cell? ⟨Bs, 0, none⟩ = some sv) (hI : Labs n₀ w sv zs) :
    SeqStopsK Fence.wide n Tryd.prog 67 #[.pointer (some ⟨Bs, 0, none⟩)] (fun x : FLab => #[Value.agg #[.int .i64 x.1.l, .int .u64 x.1.c, .int .i64 x.1.i], errL x.1]) (Below n₀) (fun ys => ys.map (·.1) = zs) (fun pre => pre.map (·.1) <+: zs) zs.length w := fun l J Jx W hW hJ hJx hY h0 => by
  have hc' := (hW.cell (p := ⟨Bs, 0, none⟩) hBs).trans hc
  obtain ⟨ao, cap, rfl, hk⟩ := hI.below (hW.mono hn₀)
  by_cases hz : zs = []
  · subst hz
    exact (judged1_nil_in n l Bs ao cap (fun pre W => pre = [] ∧ J [] W) W hc' ⟨rfl, h0⟩).mono fun e W' ⟨he, hj⟩ => ⟨he, .inl ⟨[], rfl, hj.2⟩⟩
  · obtain ⟨b, off, rfl, hb, hcs⟩ := hk hz
    refine (judged1_in n hn l Bs n₀ b off zs.length cap zs rfl hreach hb (fun pre W => ∃ p : List FLab, p.map (·.1) = pre ∧ J p W) (fun pre W => ∃ p : List FLab, p.map (·.1) = pre ∧ Jx p W) W (Nat.le_trans hn₀ hW.size)
      (fun s A B row ⟨p, hp, hs⟩ hg hr => ⟨p, hp, hJ p A B row hs hg hr⟩) ?_ hc' hcs ⟨[], rfl, h0⟩).mono ?_
    · rintro pre x W1 ⟨p, rfl, hp⟩ hlt hx
      refine (hY p ⟨x, hx⟩ W1 hp (by simpa using hlt)).mono ?_
      rintro e W' (⟨rfl, h1, h2⟩ | ⟨rfl, h1⟩)
      · exact ⟨true, rfl, fun _ => ⟨⟨_, List.map_append, h1⟩, h2⟩, fun h => by cases h⟩
      · exact ⟨false, rfl, fun h => (by cases h), fun _ => ⟨_, List.map_append, h1⟩⟩
    · rintro e W' ⟨he, ⟨ys, rfl, p, hp, hj⟩ | ⟨pre, ⟨k, hk, rfl⟩, p, hp, hj⟩⟩
      · exact ⟨he, .inl ⟨p, hp, hj⟩⟩
      · exact ⟨he, .inr ⟨p, by show p.map (·.1) <+: zs; rw [hp]; exact List.take_prefix _ _, hj⟩⟩

end Go.Proofs.YtciohfeifihobaaDoor

/- What a fold keeps in memory. -/
namespace Go.Proofs.YtciohfeifihobaaDoor
open Go.RowKit Go.Proofs.Cats Go.Shelf

/-- A scope that no goto leaves, at the wide fence. -/
theorem wpIn_scope_wide {n : Nat} {P : Program} {c : Code} {Q : Exit → Act → World → Prop} {a : Act} {w : World} (h : c.wpIn Fence.wide n P (Exit.noGoto Q) a w) : (Code.scope c).wpIn Fence.wide n P Q a w :=
  wpIn_wide.2 (wp_scope_straight (wpIn_wide.1 h))

theorem keeps_below {W W1 : World} (h : Below W.heap.size W W1) : KeepsOthers W W1 := KeepsOthers.of_grownBy (below_grown h) (fun j o e _ => by cases e)

/-- Three cells that may be written. -/
def Free3 (W : World) (b : Nat) : Prop := W.frozen? ⟨b, 0, none⟩ = false ∧ W.frozen? ⟨b, 1, none⟩ = false ∧ W.frozen? ⟨b, 2, none⟩ = false

theorem cellK {W W' : World} {row : Option Nat} {a : Addr} {v : Value} (h : W.cell? a = some v) (hg : W.grownBy W' row) (hr : ∀ r, row = some r → ∃ o : Obj, W.heap[r]? = some o ∧ o.isCells = false) : W'.cell? a = some v := cell_kept h hg hr
theorem frozenK {W W' : World} {row : Option Nat} {a : Addr} {v : Value} {b : Bool} (h : W.cell? a = some v) (f : W.frozen? a = b) (hg : W.grownBy W' row) (hr : ∀ r, row = some r → ∃ o : Obj, W.heap[r]? = some o ∧ o.isCells = false) : W'.frozen? a = b := (frozen_kept h hg hr).trans f

/-- What a fold keeps: its function; the label made so far; what is wrong; the answer's room. -/
structure FoldB (n : Nat) (W : World) (m : Lab) (ev fv : Value) : Prop where
  f : W.cell? ⟨n, 3, none⟩ = some fv
  r0 : W.cell? ⟨n + 1, 0, none⟩ = some (.int .i64 0)
  r1 : W.cell? ⟨n + 1, 1, none⟩ = some (.int .u64 0)
  r2 : W.cell? ⟨n + 1, 2, none⟩ = some (.int .i64 0)
  fr0 : W.frozen? ⟨n + 1, 0, none⟩ = false
  fr1 : W.frozen? ⟨n + 1, 1, none⟩ = false
  fr2 : W.frozen? ⟨n + 1, 2, none⟩ = false
  m0 : W.cell? ⟨n + 1 + 1, 0, none⟩ = some (.int .i64 m.l)
  m1 : W.cell? ⟨n + 1 + 1, 1, none⟩ = some (.int .u64 m.c)
  m2 : W.cell? ⟨n + 1 + 1, 2, none⟩ = some (.int .i64 m.i)
  fm0 : W.frozen? ⟨n + 1 + 1, 0, none⟩ = false
  fm1 : W.frozen? ⟨n + 1 + 1, 1, none⟩ = false
  fm2 : W.frozen? ⟨n + 1 + 1, 2, none⟩ = false
  e : W.cell? ⟨n + 1 + 1 + 1, 0, none⟩ = some ev
  fe : W.frozen? ⟨n + 1 + 1 + 1, 0, none⟩ = false

theorem FoldB.kept {n : Nat} {W W' : World} {m : Lab} {ev fv : Value} {row : Option Nat} (h : FoldB n W m ev fv) (hg : W.grownBy W' row) (hr : ∀ r, row = some r → ∃ o : Obj, W.heap[r]? = some o ∧ o.isCells = false) : FoldB n W' m ev fv :=
  ⟨cellK h.f hg hr, cellK h.r0 hg hr, cellK h.r1 hg hr, cellK h.r2 hg hr, frozenK h.r0 h.fr0 hg hr, frozenK h.r1 h.fr1 hg hr, frozenK h.r2 h.fr2 hg hr,
   cellK h.m0 hg hr, cellK h.m1 hg hr, cellK h.m2 hg hr, frozenK h.m0 h.fm0 hg hr, frozenK h.m1 h.fm1 hg hr, frozenK h.m2 h.fm2 hg hr, cellK h.e hg hr, frozenK h.e h.fe hg hr⟩
theorem FoldB.below {n : Nat} {W W' : World} {m : Lab} {ev fv : Value} (h : FoldB n W m ev fv) (k : Below W.heap.size W W') : FoldB n W' m ev fv :=
  h.kept (below_grown k) (fun r e => by cases e)

theorem setO {W : World} {a b : Addr} {v x : Value} (h : W.cell? a = some v) (hne : b ≠ a) : (W.setCell b x).cell? a = some v := (World.cell?_setCell_other _ _ _ _ (fun e => hne e)).trans h
theorem setS {W : World} {a : Addr} {v : Value} (x : Value) (h : W.cell? a = some v) : (W.setCell a x).cell? a = some x := World.cell?_setCell_same' _ _ _ (by rw [h]; rfl)
theorem setF {W : World} {a b : Addr} {x : Value} (h : W.frozen? a = false) : (W.setCell b x).frozen? a = false := by rw [World.frozen?_setCell]; exact h
theorem ne_blk {b b' o o' : Nat} (h : b ≠ b') : (⟨b, o, none⟩ : Addr) ≠ ⟨b', o', none⟩ := fun e => h (congrArg Addr.block e)
theorem ne_off {b b' o o' : Nat} (h : o ≠ o') : (⟨b, o, none⟩ : Addr) ≠ ⟨b', o', none⟩ := fun e => h (congrArg Addr.off e)

theorem FoldB.set {n : Nat} {W : World} {m : Lab} {ev fv : Value} (h : FoldB n W m ev fv) (k : Lab) :
    FoldB n (((W.setCell ⟨n + 1 + 1, 0, none⟩ (.int .i64 k.l)).setCell ⟨n + 1 + 1, 1, none⟩ (.int .u64 k.c)).setCell ⟨n + 1 + 1, 2, none⟩ (.int .i64 k.i)) k ev fv where
  f := setO (setO (setO h.f (ne_blk (by omega))) (ne_blk (by omega))) (ne_blk (by omega))
  r0 := setO (setO (setO h.r0 (ne_blk (by omega))) (ne_blk (by omega))) (ne_blk (by omega))
  r1 := setO (setO (setO h.r1 (ne_blk (by omega))) (ne_blk (by omega))) (ne_blk (by omega))
  r2 := setO (setO (setO h.r2 (ne_blk (by omega))) (ne_blk (by omega))) (ne_blk (by omega))
  fr0 := setF (setF (setF h.fr0))
  fr1 := setF (setF (setF h.fr1))
  fr2 := setF (setF (setF h.fr2))
  m0 := setO (setO (setS _ h.m0) (ne_off (by omega))) (ne_off (by omega))
  m1 := setO (setS _ (setO h.m1 (ne_off (by omega)))) (ne_off (by omega))
  m2 := setS _ (setO (setO h.m2 (ne_off (by omega))) (ne_off (by omega)))
  fm0 := setF (setF (setF h.fm0))
  fm1 := setF (setF (setF h.fm1))
  fm2 := setF (setF (setF h.fm2))
  e := setO (setO (setO h.e (ne_blk (by omega))) (ne_blk (by omega))) (ne_blk (by omega))
  fe := setF (setF (setF h.fe))
theorem FoldB.err {n : Nat} {W : World} {m : Lab} {ev fv : Value} (h : FoldB n W m ev fv) (ev' : Value) : FoldB n (W.setCell ⟨n + 1 + 1 + 1, 0, none⟩ ev') m ev' fv where
  f := setO h.f (ne_blk (by omega))
  r0 := setO h.r0 (ne_blk (by omega))
  r1 := setO h.r1 (ne_blk (by omega))
  r2 := setO h.r2 (ne_blk (by omega))
  fr0 := setF h.fr0
  fr1 := setF h.fr1
  fr2 := setF h.fr2
  m0 := setO h.m0 (ne_blk (by omega))
  m1 := setO h.m1 (ne_blk (by omega))
  m2 := setO h.m2 (ne_blk (by omega))
  fm0 := setF h.fm0
  fm1 := setF h.fm1
  fm2 := setF h.fm2
  e := setS _ h.e
  fe := setF h.fe

theorem foldB_new (w : World) (s : Lab) (fv sv : Value) : FoldB w.heap.size (((((w.alloc (.cells #[.int .i64 s.l, .int .u64 s.c, .int .i64 s.i, fv] 64)).alloc (.cells #[.int .i64 0, .int .u64 0, .int .i64 0] 24)).alloc (.cells #[.int .i64 s.l, .int .u64 s.c, .int .i64 s.i] 24)).alloc (.cells #[.nilIface] 44)).alloc (.cells #[sv] 34)) s .nilIface fv := by
  constructor <;> go_simp

/-- The block for the rounds' deferred calls is shut: the cells read as they did. -/
theorem cellP {W : World} {D : Nat} {a : Addr} {v : Value} (hK : W.heap[D]? = some (.deferred (some []))) (h : W.cell? a = some v) : (W.putObj D (.deferred none)).cell? a = some v :=
  cellK h (grownBy_putObj' _ D _) (fun r e => by cases e; exact ⟨_, hK, rfl⟩)

end Go.Proofs.YtciohfeifihobaaDoor
