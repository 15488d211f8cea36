/- Numbers and their bytes, the greatest one first: plain facts. -/
import GoSem.Claim
namespace Go.Proofs.Fld

/-- A string of some bytes. -/
def bs (l : List UInt8) : ByteArray := ⟨l.toArray⟩
theorem bs_size (l : List UInt8) : (bs l).size = l.length := by simp [bs, ByteArray.size]
theorem bs_inj {l m : List UInt8} (h : bs l = bs m) : l = m := by
  unfold bs at h
  injection h with h
  exact List.toArray_inj h
theorem bs_all (s : ByteArray) : s = bs s.data.toList := by
  obtain ⟨⟨l⟩⟩ := s
  rfl

/-- The k least bytes of n, the greatest first. -/
def enc : Nat → Nat → List UInt8
  | 0, _ => []
  | k + 1, n => UInt8.ofNat (n / 256 ^ k) :: enc k n
/-- The number of some bytes, behind a number. -/
def dec (acc : Nat) : List UInt8 → Nat
  | [] => acc
  | b :: r => dec (acc * 256 + b.toNat) r

theorem ofNat_toNat (n : Nat) : (UInt8.ofNat n).toNat = n % 256 := by simp
theorem enc_length (k n : Nat) : (enc k n).length = k := by
  induction k with
  | zero => rfl
  | succ k ih => simp [enc, ih]
theorem enc_get (k n j : Nat) (h : j < k) : (enc k n)[j]? = some (UInt8.ofNat (n / 256 ^ (k - 1 - j))) := by
  induction k generalizing j with
  | zero => omega
  | succ k ih =>
    cases j with
    | zero => simp [enc]
    | succ j =>
      simp only [enc, List.getElem?_cons_succ]
      rw [ih j (by omega)]
      congr 4
      omega
theorem dec_acc (acc : Nat) (l : List UInt8) : dec acc l = acc * 256 ^ l.length + dec 0 l := by
  induction l generalizing acc with
  | nil => simp [dec]
  | cons b r ih =>
    rw [dec, ih, dec, ih (0 * 256 + b.toNat), List.length_cons, Nat.pow_succ]
    have e : acc * (256 ^ r.length * 256) = acc * 256 * 256 ^ r.length := by rw [Nat.mul_comm (256 ^ r.length), Nat.mul_assoc]
    rw [Nat.add_mul, e, Nat.zero_mul, Nat.zero_add, Nat.add_assoc]
theorem dec_lt (l : List UInt8) : dec 0 l < 256 ^ l.length := by
  induction l with
  | nil => simp [dec]
  | cons b r ih =>
    rw [dec, dec_acc, List.length_cons, Nat.pow_succ]
    have hb : b.toNat < 256 := b.toNat_lt
    have h1 : (0 * 256 + b.toNat) * 256 ^ r.length ≤ 255 * 256 ^ r.length := Nat.mul_le_mul_right _ (by omega)
    have h2 : 256 ^ r.length * 256 = 255 * 256 ^ r.length + 256 ^ r.length := by omega
    omega
theorem enc_add (k a m : Nat) : enc k (a * 256 ^ k + m) = enc k m := by
  suffices h : ∀ j a, enc k (a * 256 ^ (k + j) + m) = enc k m from h 0 a
  induction k with
  | zero => intros; rfl
  | succ k ih =>
    intro j a
    have e : a * 256 ^ (k + 1 + j) = a * 256 ^ (k + (j + 1)) := by congr 2; omega
    rw [e]
    simp only [enc]
    rw [ih (j + 1) a]
    congr 1
    have e2 : a * 256 ^ (k + (j + 1)) = (a * 256 ^ j * 256) * 256 ^ k := by
      have : 256 ^ (k + (j + 1)) = 256 ^ j * 256 * 256 ^ k := by rw [show k + (j + 1) = j + 1 + k by omega, Nat.pow_add, Nat.pow_succ]
      rw [this, ← Nat.mul_assoc, ← Nat.mul_assoc]
    rw [e2, Nat.add_comm, Nat.add_mul_div_right _ _ (Nat.pow_pos (by decide))]
    apply UInt8.toNat_inj.1
    rw [ofNat_toNat, ofNat_toNat]
    omega
theorem dec_enc (k n : Nat) : dec 0 (enc k n) = n % 256 ^ k := by
  induction k with
  | zero => simp [enc, dec, Nat.mod_one]
  | succ k ih =>
    rw [enc, dec, dec_acc, enc_length, ih, ofNat_toNat, Nat.zero_mul, Nat.zero_add, Nat.pow_succ]
    have h := Nat.mod_mul (x := n) (a := 256 ^ k) (b := 256)
    rw [h, Nat.add_comm, Nat.mul_comm]
theorem dec_enc_lt {k n : Nat} (h : n < 256 ^ k) : dec 0 (enc k n) = n := by rw [dec_enc, Nat.mod_eq_of_lt h]
theorem enc_dec (l : List UInt8) : enc l.length (dec 0 l) = l := by
  induction l with
  | nil => rfl
  | cons b r ih =>
    rw [dec, dec_acc, List.length_cons, enc, enc_add, ih]
    congr 1
    apply UInt8.toNat_inj.1
    have hb : b.toNat < 256 := b.toNat_lt
    rw [ofNat_toNat, Nat.add_comm, Nat.add_mul_div_right _ _ (Nat.pow_pos (by decide)), Nat.div_eq_of_lt (dec_lt r)]
    omega
theorem enc_inj {k n m : Nat} (hn : n < 256 ^ k) (hm : m < 256 ^ k) (h : enc k n = enc k m) : n = m := by
  rw [← dec_enc_lt hn, ← dec_enc_lt hm, h]

/-- Bytes' order is the numbers' order. -/
theorem enc_less (k n m : Nat) (hn : n < 256 ^ k) (hm : m < 256 ^ k) : Op.bytesLess (enc k n) (enc k m) = decide (n < m) := by
  induction k generalizing n m with
  | zero => simp at hn hm; subst hn; subst hm; rfl
  | succ k ih =>
    have hp : 0 < 256 ^ k := Nat.pow_pos (by decide)
    have en : enc k n = enc k (n % 256 ^ k) := by
      conv => lhs; rw [← Nat.div_add_mod n (256 ^ k), Nat.mul_comm, enc_add]
    have em : enc k m = enc k (m % 256 ^ k) := by
      conv => lhs; rw [← Nat.div_add_mod m (256 ^ k), Nat.mul_comm, enc_add]
    have h1 : n / 256 ^ k < 256 := Nat.div_lt_of_lt_mul (by rw [Nat.pow_succ] at hn; omega)
    have h2 : m / 256 ^ k < 256 := Nat.div_lt_of_lt_mul (by rw [Nat.pow_succ] at hm; omega)
    have hi := ih (n % 256 ^ k) (m % 256 ^ k) (Nat.mod_lt _ hp) (Nat.mod_lt _ hp)
    have dn := Nat.div_add_mod n (256 ^ k)
    have dm := Nat.div_add_mod m (256 ^ k)
    have ln := Nat.mod_lt n hp
    have lm := Nat.mod_lt m hp
    rw [enc, enc, en, em]
    generalize n / 256 ^ k = qn at *
    generalize m / 256 ^ k = qm at *
    generalize n % 256 ^ k = rn at *
    generalize m % 256 ^ k = rm at *
    generalize 256 ^ k = p at *
    have a1 : (UInt8.ofNat qn).toNat = qn := by rw [ofNat_toNat]; omega
    have a2 : (UInt8.ofNat qm).toNat = qm := by rw [ofNat_toNat]; omega
    rcases Nat.lt_trichotomy qn qm with h | h | h
    · have hm' : p * (qn + 1) ≤ p * qm := Nat.mul_le_mul_left _ h
      rw [Nat.mul_succ] at hm'
      have e1 : UInt8.ofNat qn < UInt8.ofNat qm := by rw [UInt8.lt_iff_toNat_lt, a1, a2]; exact h
      have e2 : n < m := by omega
      simp [Op.bytesLess, e1, e2]
    · subst h
      have e1 : ¬ UInt8.ofNat qn < UInt8.ofNat qn := by rw [UInt8.lt_iff_toNat_lt]; omega
      have e2 : (n < m) = (rn < rm) := by apply propext; omega
      simp [Op.bytesLess, e1, hi, e2]
    · have hm' : p * (qm + 1) ≤ p * qn := Nat.mul_le_mul_left _ h
      rw [Nat.mul_succ] at hm'
      have e1 : ¬ UInt8.ofNat qn < UInt8.ofNat qm := by rw [UInt8.lt_iff_toNat_lt, a1, a2]; omega
      have e3 : UInt8.ofNat qm < UInt8.ofNat qn := by rw [UInt8.lt_iff_toNat_lt, a1, a2]; exact h
      have e2 : ¬ n < m := by omega
      have e4 : UInt8.ofNat qn ≠ UInt8.ofNat qm := by intro e; rw [e] at e3; exact absurd e3 (by rw [UInt8.lt_iff_toNat_lt]; omega)
      simp [Op.bytesLess, e1, e2, e4]

end Go.Proofs.Fld
