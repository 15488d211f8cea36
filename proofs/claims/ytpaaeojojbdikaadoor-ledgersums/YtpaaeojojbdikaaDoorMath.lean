/- Plain facts on numbers below 2^64 as sets of categories: bits, counts, and the count by bytes. No program is named here. -/
import Derived.Laws.BitsAllLaws
namespace Go.Proofs.Cats

/-- A number of 64 bits. -/
def U64 (n : Nat) : Prop := n < 18446744073709551616

/-- Is i a category? -/
def okC (i : Int) : Bool := decide (0 ≤ i) && decide (i < 64)

/-- a's bits that are none of b's. -/
def lessN (a b : Nat) : Nat := a &&& (18446744073709551615 - b)

/-- How many of the first n bits of s are 1. -/
def cnt : Nat → Nat → Nat
  | 0, _ => 0
  | n + 1, s => cnt n s + (if s.testBit n then 1 else 0)

theorem lessN_testBit (a b i : Nat) (ha : U64 a) (hb : U64 b) : (lessN a b).testBit i = (a.testBit i && !b.testBit i) := by
  unfold U64 at ha hb
  unfold lessN
  rw [Nat.testBit_and]
  have e : 18446744073709551615 - b = 2 ^ 64 - (b + 1) := by omega
  rw [e, Nat.testBit_two_pow_sub_succ (by omega)]
  by_cases h : i < 64
  · simp [h]
  · have : a.testBit i = false := Nat.testBit_lt_two_pow (Nat.lt_of_lt_of_le (show a < 2 ^ 64 by omega) (Nat.pow_le_pow_right (by omega) (by omega)))
    simp [this]

theorem lessN_le (a b : Nat) : lessN a b ≤ a := Nat.and_le_left
theorem U64.less {a : Nat} (ha : U64 a) (b : Nat) : U64 (lessN a b) := Nat.lt_of_le_of_lt (lessN_le a b) ha

/-- What is left of a, and the rest, are a. -/
theorem less_less (a b : Nat) (ha : U64 a) (hb : U64 b) (i : Nat) : (lessN a (lessN a b)).testBit i = (a.testBit i && b.testBit i) := by
  rw [lessN_testBit a _ i ha (ha.less b), lessN_testBit a b i ha hb]
  cases a.testBit i <;> cases b.testBit i <;> rfl

theorem cnt_split (n a b : Nat) (ha : U64 a) (hb : U64 b) : cnt n (lessN a b) + cnt n (lessN a (lessN a b)) = cnt n a := by
  induction n with
  | zero => rfl
  | succ n ih =>
    simp only [cnt]
    rw [lessN_testBit a b n ha hb, less_less a b ha hb n]
    cases a.testBit n <;> cases b.testBit n <;> simp <;> omega

theorem cnt_le (n s : Nat) : cnt n s ≤ n := by
  induction n with
  | zero => simp [cnt]
  | succ n ih => simp only [cnt]; split <;> omega

theorem add_of_disjoint (x y : Nat) (h : ∀ i, (x.testBit i && y.testBit i) = false) : x + y = x ||| y := by
  have := Nat.two_pow_pos 0
  induction x using Nat.strongRecOn generalizing y with
  | ind x ih =>
    by_cases hx : x = 0
    · subst hx; simp
    · have h0 := h 0
      have hd := ih (x / 2) (Nat.div_lt_self (by omega) (by omega)) (y / 2) (fun i => by
        have := h (i + 1)
        rwa [Nat.testBit_succ, Nat.testBit_succ] at this)
      have e : (x ||| y) / 2 = x / 2 ||| y / 2 := by simpa using Nat.or_div_two_pow (n := 1) (a := x) (b := y)
      have m : (x ||| y) % 2 = (x % 2) ||| (y % 2) := by simpa using Nat.or_mod_two_pow (n := 1) (a := x) (b := y)
      have hm : (x % 2) ||| (y % 2) = x % 2 + y % 2 := by
        simp only [Nat.testBit_zero] at h0
        have h1 : x % 2 = 0 ∨ x % 2 = 1 := by omega
        have h2 : y % 2 = 0 ∨ y % 2 = 1 := by omega
        rcases h1 with h1 | h1 <;> rcases h2 with h2 | h2 <;> simp [h1, h2] at h0 ⊢
      have hm0 : x % 2 + y % 2 ≤ 1 := by
        simp only [Nat.testBit_zero] at h0
        have h1 : x % 2 = 0 ∨ x % 2 = 1 := by omega
        have h2 : y % 2 = 0 ∨ y % 2 = 1 := by omega
        rcases h1 with h1 | h1 <;> rcases h2 with h2 | h2 <;> simp [h1, h2] at h0 ⊢
      omega

theorem less_add (a b : Nat) (ha : U64 a) (hb : U64 b) : lessN a b + lessN a (lessN a b) = a := by
  rw [add_of_disjoint]
  · apply Nat.eq_of_testBit_eq
    intro i
    rw [Nat.testBit_or, lessN_testBit a b i ha hb, less_less a b ha hb i]
    cases a.testBit i <;> cases b.testBit i <;> rfl
  · intro i
    rw [lessN_testBit a b i ha hb, less_less a b ha hb i]
    cases a.testBit i <;> cases b.testBit i <;> rfl

theorem less_eq_zero (a b : Nat) (ha : U64 a) (hb : U64 b) (h : ∀ i, a.testBit i = true → b.testBit i = true) : lessN a b = 0 := by
  apply Nat.eq_of_testBit_eq
  intro i
  rw [lessN_testBit a b i ha hb, Nat.zero_testBit]
  cases e : a.testBit i
  · rfl
  · simp [h i e]

/-! ### The count by bytes -/

theorem and_split (k a b c d : Nat) (ha : a < 2 ^ k) (hc : c < 2 ^ k) : (a + 2 ^ k * b) &&& (c + 2 ^ k * d) = (a &&& c) + 2 ^ k * (b &&& d) := by
  have hp : 0 < 2 ^ k := Nat.two_pow_pos k
  have e1 := Nat.and_div_two_pow (n := k) (a := a + 2 ^ k * b) (b := c + 2 ^ k * d)
  have e2 := Nat.and_mod_two_pow (n := k) (a := a + 2 ^ k * b) (b := c + 2 ^ k * d)
  rw [Nat.add_mul_div_left _ _ hp, Nat.add_mul_div_left _ _ hp, Nat.div_eq_of_lt ha, Nat.div_eq_of_lt hc, Nat.zero_add, Nat.zero_add] at e1
  rw [Nat.add_mul_mod_self_left, Nat.add_mul_mod_self_left, Nat.mod_eq_of_lt ha, Nat.mod_eq_of_lt hc] at e2
  have := Nat.div_add_mod ((a + 2 ^ k * b) &&& (c + 2 ^ k * d)) (2 ^ k)
  rw [e1, e2] at this
  omega

theorem and_split8 (a b c d : Nat) (ha : a < 256) (hc : c < 256) : (a + 256 * b) &&& (c + 256 * d) = (a &&& c) + 256 * (b &&& d) :=
  and_split 8 a b c d ha hc

def g1 (m x : Nat) : Nat := (x / 2 &&& m) + (x &&& m)
def g2 (m x : Nat) : Nat := (x / 4 &&& m) + (x &&& m)
def g3 (m x : Nat) : Nat := (x / 16 + x) &&& m

theorem b1 : ∀ (b : Fin 256) (r : Fin 2), (b.val / 2 + 128 * r.val) &&& 85 = b.val / 2 &&& 85 := by decide +kernel
theorem b2 : ∀ (b : Fin 256) (r : Fin 4), (b.val / 4 + 64 * r.val) &&& 51 = b.val / 4 &&& 51 := by decide +kernel

theorem g1_split (b r m : Nat) (hb : b < 256) : g1 (85 + 256 * m) (b + 256 * r) = g1 85 b + 256 * g1 m r := by
  unfold g1
  have e : (b + 256 * r) / 2 = (b / 2 + 128 * (r % 2)) + 256 * (r / 2) := by omega
  rw [e, and_split8 _ _ _ _ (by omega) (by omega), and_split8 _ _ _ _ hb (by omega)]
  have := b1 ⟨b, hb⟩ ⟨r % 2, by omega⟩
  simp only at this
  rw [this]
  omega

theorem g2_split (b r m : Nat) (hb : b < 256) : g2 (51 + 256 * m) (b + 256 * r) = g2 51 b + 256 * g2 m r := by
  unfold g2
  have e : (b + 256 * r) / 4 = (b / 4 + 64 * (r % 4)) + 256 * (r / 4) := by omega
  rw [e, and_split8 _ _ _ _ (by omega) (by omega), and_split8 _ _ _ _ hb (by omega)]
  have := b2 ⟨b, hb⟩ ⟨r % 4, by omega⟩
  simp only at this
  rw [this]
  omega

theorem by1 : ∀ b : Fin 256, g1 85 b.val < 256 := by decide +kernel
theorem by2 : ∀ b : Fin 256, g2 51 (g1 85 b.val) < 69 ∧ g2 51 (g1 85 b.val) % 16 ≤ 4 := by decide +kernel
theorem by3 : ∀ b : Fin 256, g3 15 (g2 51 (g1 85 b.val)) = cnt 8 b.val := by decide +kernel
theorem b3 : ∀ (b : Fin 69) (r : Fin 5), (b.val / 16 + 16 * r.val + b.val) &&& 15 = (b.val / 16 + b.val) &&& 15 := by decide +kernel

theorem g3_split (c r m : Nat) (hc : c < 69) (hr : r % 16 ≤ 4) : g3 (15 + 256 * m) (c + 256 * r) = g3 15 c + 256 * g3 m r := by
  unfold g3
  have e : (c + 256 * r) / 16 + (c + 256 * r) = (c / 16 + 16 * (r % 16) + c) + 256 * (r / 16 + r) := by omega
  rw [e, and_split8 _ _ _ _ (by omega) (by omega)]
  have := b3 ⟨c, hc⟩ ⟨r % 16, by omega⟩
  simp only at this
  rw [this]

/-- The masks of n bytes. -/
def mk (q : Nat) : Nat → Nat
  | 0 => 0
  | n + 1 => q + 256 * mk q n

/-- The counts of n bytes, a byte each. -/
def bytesC : Nat → Nat → Nat
  | 0, _ => 0
  | n + 1, x => cnt 8 (x % 256) + 256 * bytesC n (x / 256)

theorem g12_low (n x : Nat) : g2 (mk 51 n) (g1 (mk 85 n) x) % 16 ≤ 4 := by
  cases n with
  | zero => simp [mk, g1, g2]
  | succ n =>
    have hx : x = x % 256 + 256 * (x / 256) := by omega
    have h1 := by1 ⟨x % 256, by omega⟩
    have h2 := by2 ⟨x % 256, by omega⟩
    simp only at h1 h2
    rw [hx]
    simp only [mk]
    rw [g1_split _ _ _ (by omega), g2_split _ _ _ h1]
    omega

theorem swar (n x : Nat) : g3 (mk 15 n) (g2 (mk 51 n) (g1 (mk 85 n) x)) = bytesC n x := by
  induction n generalizing x with
  | zero => simp [mk, g1, g2, g3, bytesC]
  | succ n ih =>
    have hx : x = x % 256 + 256 * (x / 256) := by omega
    have h1 := by1 ⟨x % 256, by omega⟩
    have h2 := by2 ⟨x % 256, by omega⟩
    have h3 := by3 ⟨x % 256, by omega⟩
    simp only at h1 h2 h3
    simp only [bytesC]
    rw [← ih (x / 256), ← h3]
    conv => lhs; rw [hx]
    simp only [mk]
    rw [g1_split _ _ _ (by omega), g2_split _ _ _ h1, g3_split _ _ _ h2.1 (g12_low n _)]

theorem cnt_add (a b s : Nat) : cnt (a + b) s = cnt a s + cnt b (s / 2 ^ a) := by
  induction b with
  | zero => simp [cnt]
  | succ b ih =>
    rw [← Nat.add_assoc]
    simp only [cnt]
    rw [ih, Nat.testBit_div_two_pow]
    rw [show a + b = b + a by omega]
    omega

theorem cnt_mod (a k s : Nat) (h : a ≤ k) : cnt a (s % 2 ^ k) = cnt a s := by
  induction a with
  | zero => rfl
  | succ a ih =>
    simp only [cnt]
    rw [ih (by omega), Nat.testBit_mod_two_pow]
    simp [show a < k by omega]

theorem cnt_bytes (n x : Nat) : cnt (8 * (n + 1)) x = cnt 8 (x % 256) + cnt (8 * n) (x / 256) := by
  rw [show 8 * (n + 1) = 8 + 8 * n by omega, cnt_add, cnt_mod 8 8 x (by omega)]

theorem cnt_zero (a : Nat) : cnt a 0 = 0 := by
  induction a with
  | zero => rfl
  | succ a ih => simp [cnt, ih]

theorem divB (a c B : Nat) (h : a < B) : (a + B * c) / B = c := by
  rw [Nat.add_mul_div_left _ _ (by omega), Nat.div_eq_of_lt h, Nat.zero_add]

theorem sum8 (q0 q1 q2 q3 q4 q5 q6 q7 : Nat) (p0 : q0 ≤ 8) (p1 : q1 ≤ 8) (p2 : q2 ≤ 8) (p3 : q3 ≤ 8) (p4 : q4 ≤ 8) (p5 : q5 ≤ 8) (p6 : q6 ≤ 8) (p7 : q7 ≤ 8)
    (y y4 y5 : Nat) (hy : y = q0 + 256 * (q1 + 256 * (q2 + 256 * (q3 + 256 * (q4 + 256 * (q5 + 256 * (q6 + 256 * q7))))))) (h4 : y4 = y + y / 256) (h5 : y5 = y4 + y4 / 65536) :
    (y5 + y5 / 4294967296) % 128 = q0 + q1 + q2 + q3 + q4 + q5 + q6 + q7 ∧ y ≤ 578721382704613384 := by
  have d1 : y / 256 = q1 + 256 * (q2 + 256 * (q3 + 256 * (q4 + 256 * (q5 + 256 * (q6 + 256 * q7))))) := by rw [hy, divB _ _ 256 (by omega)]
  rw [d1] at h4
  have f4 : y4 = ((q0 + q1) + 256 * (q1 + q2)) + 65536 * ((q2 + q3) + 256 * ((q3 + q4) + 256 * ((q4 + q5) + 256 * ((q5 + q6) + 256 * ((q6 + q7) + 256 * q7))))) := by
    rw [h4, hy]; omega
  have d2 : y4 / 65536 = (q2 + q3) + 256 * ((q3 + q4) + 256 * ((q4 + q5) + 256 * ((q5 + q6) + 256 * ((q6 + q7) + 256 * q7)))) := by rw [f4, divB _ _ 65536 (by omega)]
  rw [d2] at h5
  have f5 : y5 = ((q0 + q1 + q2 + q3) + 256 * (q1 + q2 + q3 + q4) + 65536 * (q2 + q3 + q4 + q5) + 16777216 * (q3 + q4 + q5 + q6)) + 4294967296 * ((q4 + q5 + q6 + q7) + 256 * ((q5 + q6 + q7) + 256 * ((q6 + q7) + 256 * q7))) := by
    rw [h5, f4]; omega
  have d3 : y5 / 4294967296 = (q4 + q5 + q6 + q7) + 256 * ((q5 + q6 + q7) + 256 * ((q6 + q7) + 256 * q7)) := by rw [f5, divB _ _ 4294967296 (by omega)]
  refine ⟨?_, ?_⟩
  · rw [d3, f5]
    clear d1 d2 d3 h4 h5 f4 f5 hy
    have e : (q0 + q1 + q2 + q3) + 256 * (q1 + q2 + q3 + q4) + 65536 * (q2 + q3 + q4 + q5) + 16777216 * (q3 + q4 + q5 + q6) + 4294967296 * ((q4 + q5 + q6 + q7) + 256 * ((q5 + q6 + q7) + 256 * ((q6 + q7) + 256 * q7))) + ((q4 + q5 + q6 + q7) + 256 * ((q5 + q6 + q7) + 256 * ((q6 + q7) + 256 * q7)))
        = (q0 + q1 + q2 + q3 + q4 + q5 + q6 + q7) + 128 * (2 * (q1 + q2 + q3 + q4) + 512 * (q2 + q3 + q4 + q5) + 131072 * (q3 + q4 + q5 + q6) + 33554432 * ((q4 + q5 + q6 + q7) + 256 * ((q5 + q6 + q7) + 256 * ((q6 + q7) + 256 * q7))) + 2 * ((q5 + q6 + q7) + 256 * ((q6 + q7) + 256 * q7))) := by omega
    rw [e, Nat.add_mul_mod_self_left, Nat.mod_eq_of_lt (by omega)]
  · clear d1 d2 d3 h4 h5 f4 f5
    omega

/-- The two sums behind the counts by bytes, and the last mask. -/
theorem fold_bytes (x y y4 y5 : Nat) (hy : y = bytesC 8 x) (h4 : y4 = y + y / 256) (h5 : y5 = y4 + y4 / 65536) : (y5 + y5 / 4294967296) % 128 = cnt 64 x ∧ y ≤ 578721382704613384 := by
  have l := fun z => cnt_le 8 z
  have e : cnt 64 x = cnt 8 (x % 256) + cnt 8 (x / 256 % 256) + cnt 8 (x / 256 / 256 % 256) + cnt 8 (x / 256 / 256 / 256 % 256) + cnt 8 (x / 256 / 256 / 256 / 256 % 256) + cnt 8 (x / 256 / 256 / 256 / 256 / 256 % 256) + cnt 8 (x / 256 / 256 / 256 / 256 / 256 / 256 % 256) + cnt 8 (x / 256 / 256 / 256 / 256 / 256 / 256 / 256 % 256) := by
    have h := fun z => cnt_mod 8 8 z (by omega)
    simp only [Nat.reducePow] at h
    have c1 := fun z => cnt_bytes 1 z; have c2 := fun z => cnt_bytes 2 z; have c3 := fun z => cnt_bytes 3 z; have c4 := fun z => cnt_bytes 4 z
    have c5 := fun z => cnt_bytes 5 z; have c6 := fun z => cnt_bytes 6 z; have c7 := fun z => cnt_bytes 7 z
    simp only [Nat.reduceAdd, Nat.reduceMul] at c1 c2 c3 c4 c5 c6 c7
    rw [c7, c6, c5, c4, c3, c2, c1, h (x / 256 / 256 / 256 / 256 / 256 / 256 / 256)]
    simp only [Nat.add_assoc]
  rw [e]
  refine sum8 _ _ _ _ _ _ _ _ (l _) (l _) (l _) (l _) (l _) (l _) (l _) (l _) y y4 y5 ?_ h4 h5
  rw [hy]
  simp only [bytesC, Nat.mul_zero, Nat.add_zero]

/-- s with the numbers of zs. -/
def addAll (s : Nat) (zs : List Int) : Nat := zs.foldl (fun s i => s ||| 2 ^ i.toNat) s
theorem addAll_snoc (s : Nat) (zs : List Int) (x : Int) : addAll s (zs ++ [x]) = addAll s zs ||| 2 ^ x.toNat := by simp [addAll]
theorem or_pow_u64 (s i : Nat) (hs : U64 s) (hi : i < 64) : U64 (s ||| 2 ^ i) := by
  unfold U64 at *
  exact Nat.or_lt_two_pow (n := 64) hs (Nat.pow_lt_pow_right (by omega) hi)
theorem okC_iff (i : Int) : okC i = true ↔ 0 ≤ i ∧ i < 64 := by simp [okC]
theorem addAll_u64 (s : Nat) (zs : List Int) (hs : U64 s) (h : zs.all okC = true) : U64 (addAll s zs) := by
  induction zs generalizing s with
  | nil => exact hs
  | cons x zs ih =>
    simp only [List.all_cons, Bool.and_eq_true] at h
    have := (okC_iff x).1 h.1
    exact ih _ (or_pow_u64 s x.toNat hs (by omega)) h.2

theorem beq_nat (n m : Nat) : ((n : Int) == (m : Int)) = (n == m) := by
  rw [Bool.eq_iff_iff]; simp; omega
theorem beq_nat0 (n : Nat) : ((n : Int) == 0) = (n == 0) := beq_nat n 0

end Go.Proofs.Cats
