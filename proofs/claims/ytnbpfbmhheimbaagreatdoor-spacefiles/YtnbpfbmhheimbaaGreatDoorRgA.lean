/- Merged texts: FldMath, RgMath, RgBase, RgRows, RgIter, RgRoom, RgOpen, RgWith -/
import GoSem.Claim
import Derived.Test.YtnbpfbmhheimbaaGreatDoorChecked
import Derived.WalkKit
import Derived.WalkSpells
import Derived.WalkLawsBesides
import Derived.Lib.Hide
import Derived.Lib.QuietBelow
import Derived.Deep.RegionWith
import Derived.BigCall
import Derived.RegionTactic
import Derived.LaidEql
import Derived.Stop.Asserts
import Derived.RowKitTokens
import Derived.Shelf.Abstract
import Derived.ArgAppend
import Derived.Deep.Onto
import Derived.Lib.AppendZerosOnto
import Derived.Laws.AppendOwnNone
import Derived.ScopeJumps
import Derived.Lib.Strings
import Derived.OwnWalk
import Derived.BigQuiet
import Derived.RangeFuncNested
import Derived.RangeFuncBound
import Derived.RangeFuncCalls
import Derived.RangeFuncLeaves
import Derived.RangeFuncBox
import Derived.Shelf.RegionOpen
import Derived.OwnWalkIn
import Derived.TacticsInMore
import Derived.LoopNIn
import Derived.LoopIn
import Derived.WalkMore
import Derived.Deep.RegionHeld3
import Derived.Laws.CopyOwn
import Derived.Deep.OwnRows
/- Numbers and their bytes, the greatest one first: plain facts. -/
namespace Go.Proofs.Fld

/-- A string of some bytes. -/
def bs (l : List UInt8) : ByteArray := ⟨l.toArray⟩
theorem bs_size (l : List UInt8) : (bs l).size = l.length := by simp [bs, ByteArray.size]
theorem bs_inj {l m : List UInt8} (h : bs l = bs m) : l = m := by
  unfold bs at h
  injection h with h
  exact List.toArray_inj h
theorem bs_all (s : ByteArray) : s = bs s.data.toList := by
  obtain ⟨⟨l⟩⟩ := s
  rfl

/-- The k least bytes of n, the greatest first. -/
def enc : Nat → Nat → List UInt8
  | 0, _ => []
  | k + 1, n => UInt8.ofNat (n / 256 ^ k) :: enc k n
/-- The number of some bytes, behind a number. -/
def dec (acc : Nat) : List UInt8 → Nat
  | [] => acc
  | b :: r => dec (acc * 256 + b.toNat) r

theorem ofNat_toNat (n : Nat) : (UInt8.ofNat n).toNat = n % 256 := by simp
theorem enc_length (k n : Nat) : (enc k n).length = k := by
  induction k with
  | zero => rfl
  | succ k ih => simp [enc, ih]
theorem enc_get (k n j : Nat) (h : j < k) : (enc k n)[j]? = some (UInt8.ofNat (n / 256 ^ (k - 1 - j))) := by
  induction k generalizing j with
  | zero => omega
  | succ k ih =>
    cases j with
    | zero => simp [enc]
    | succ j =>
      simp only [enc, List.getElem?_cons_succ]
      rw [ih j (by omega)]
      congr 4
      omega
theorem dec_acc (acc : Nat) (l : List UInt8) : dec acc l = acc * 256 ^ l.length + dec 0 l := by
  induction l generalizing acc with
  | nil => simp [dec]
  | cons b r ih =>
    rw [dec, ih, dec, ih (0 * 256 + b.toNat), List.length_cons, Nat.pow_succ]
    have e : acc * (256 ^ r.length * 256) = acc * 256 * 256 ^ r.length := by rw [Nat.mul_comm (256 ^ r.length), Nat.mul_assoc]
    rw [Nat.add_mul, e, Nat.zero_mul, Nat.zero_add, Nat.add_assoc]
theorem dec_lt (l : List UInt8) : dec 0 l < 256 ^ l.length := by
  induction l with
  | nil => simp [dec]
  | cons b r ih =>
    rw [dec, dec_acc, List.length_cons, Nat.pow_succ]
    have hb : b.toNat < 256 := b.toNat_lt
    have h1 : (0 * 256 + b.toNat) * 256 ^ r.length ≤ 255 * 256 ^ r.length := Nat.mul_le_mul_right _ (by omega)
    have h2 : 256 ^ r.length * 256 = 255 * 256 ^ r.length + 256 ^ r.length := by omega
    omega
theorem enc_add (k a m : Nat) : enc k (a * 256 ^ k + m) = enc k m := by
  suffices h : ∀ j a, enc k (a * 256 ^ (k + j) + m) = enc k m from h 0 a
  induction k with
  | zero => intros; rfl
  | succ k ih =>
    intro j a
    have e : a * 256 ^ (k + 1 + j) = a * 256 ^ (k + (j + 1)) := by congr 2; omega
    rw [e]
    simp only [enc]
    rw [ih (j + 1) a]
    congr 1
    have e2 : a * 256 ^ (k + (j + 1)) = (a * 256 ^ j * 256) * 256 ^ k := by
      have : 256 ^ (k + (j + 1)) = 256 ^ j * 256 * 256 ^ k := by rw [show k + (j + 1) = j + 1 + k by omega, Nat.pow_add, Nat.pow_succ]
      rw [this, ← Nat.mul_assoc, ← Nat.mul_assoc]
    rw [e2, Nat.add_comm, Nat.add_mul_div_right _ _ (Nat.pow_pos (by decide))]
    apply UInt8.toNat_inj.1
    rw [ofNat_toNat, ofNat_toNat]
    omega
theorem dec_enc (k n : Nat) : dec 0 (enc k n) = n % 256 ^ k := by
  induction k with
  | zero => simp [enc, dec, Nat.mod_one]
  | succ k ih =>
    rw [enc, dec, dec_acc, enc_length, ih, ofNat_toNat, Nat.zero_mul, Nat.zero_add, Nat.pow_succ]
    have h := Nat.mod_mul (x := n) (a := 256 ^ k) (b := 256)
    rw [h, Nat.add_comm, Nat.mul_comm]
theorem dec_enc_lt {k n : Nat} (h : n < 256 ^ k) : dec 0 (enc k n) = n := by rw [dec_enc, Nat.mod_eq_of_lt h]
theorem enc_dec (l : List UInt8) : enc l.length (dec 0 l) = l := by
  induction l with
  | nil => rfl
  | cons b r ih =>
    rw [dec, dec_acc, List.length_cons, enc, enc_add, ih]
    congr 1
    apply UInt8.toNat_inj.1
    have hb : b.toNat < 256 := b.toNat_lt
    rw [ofNat_toNat, Nat.add_comm, Nat.add_mul_div_right _ _ (Nat.pow_pos (by decide)), Nat.div_eq_of_lt (dec_lt r)]
    omega
theorem enc_inj {k n m : Nat} (hn : n < 256 ^ k) (hm : m < 256 ^ k) (h : enc k n = enc k m) : n = m := by
  rw [← dec_enc_lt hn, ← dec_enc_lt hm, h]

/-- Bytes' order is the numbers' order. -/
theorem enc_less (k n m : Nat) (hn : n < 256 ^ k) (hm : m < 256 ^ k) : Op.bytesLess (enc k n) (enc k m) = decide (n < m) := by
  induction k generalizing n m with
  | zero => simp at hn hm; subst hn; subst hm; rfl
  | succ k ih =>
    have hp : 0 < 256 ^ k := Nat.pow_pos (by decide)
    have en : enc k n = enc k (n % 256 ^ k) := by
      conv => lhs; rw [← Nat.div_add_mod n (256 ^ k), Nat.mul_comm, enc_add]
    have em : enc k m = enc k (m % 256 ^ k) := by
      conv => lhs; rw [← Nat.div_add_mod m (256 ^ k), Nat.mul_comm, enc_add]
    have h1 : n / 256 ^ k < 256 := Nat.div_lt_of_lt_mul (by rw [Nat.pow_succ] at hn; omega)
    have h2 : m / 256 ^ k < 256 := Nat.div_lt_of_lt_mul (by rw [Nat.pow_succ] at hm; omega)
    have hi := ih (n % 256 ^ k) (m % 256 ^ k) (Nat.mod_lt _ hp) (Nat.mod_lt _ hp)
    have dn := Nat.div_add_mod n (256 ^ k)
    have dm := Nat.div_add_mod m (256 ^ k)
    have ln := Nat.mod_lt n hp
    have lm := Nat.mod_lt m hp
    rw [enc, enc, en, em]
    generalize n / 256 ^ k = qn at *
    generalize m / 256 ^ k = qm at *
    generalize n % 256 ^ k = rn at *
    generalize m % 256 ^ k = rm at *
    generalize 256 ^ k = p at *
    have a1 : (UInt8.ofNat qn).toNat = qn := by rw [ofNat_toNat]; omega
    have a2 : (UInt8.ofNat qm).toNat = qm := by rw [ofNat_toNat]; omega
    rcases Nat.lt_trichotomy qn qm with h | h | h
    · have hm' : p * (qn + 1) ≤ p * qm := Nat.mul_le_mul_left _ h
      rw [Nat.mul_succ] at hm'
      have e1 : UInt8.ofNat qn < UInt8.ofNat qm := by rw [UInt8.lt_iff_toNat_lt, a1, a2]; exact h
      have e2 : n < m := by omega
      simp [Op.bytesLess, e1, e2]
    · subst h
      have e1 : ¬ UInt8.ofNat qn < UInt8.ofNat qn := by rw [UInt8.lt_iff_toNat_lt]; omega
      have e2 : (n < m) = (rn < rm) := by apply propext; omega
      simp [Op.bytesLess, e1, hi, e2]
    · have hm' : p * (qm + 1) ≤ p * qn := Nat.mul_le_mul_left _ h
      rw [Nat.mul_succ] at hm'
      have e1 : ¬ UInt8.ofNat qn < UInt8.ofNat qm := by rw [UInt8.lt_iff_toNat_lt, a1, a2]; omega
      have e3 : UInt8.ofNat qm < UInt8.ofNat qn := by rw [UInt8.lt_iff_toNat_lt, a1, a2]; exact h
      have e2 : ¬ n < m := by omega
      have e4 : UInt8.ofNat qn ≠ UInt8.ofNat qm := by intro e; rw [e] at e3; exact absurd e3 (by rw [UInt8.lt_iff_toNat_lt]; omega)
      simp [Op.bytesLess, e1, e2, e4]

end Go.Proofs.Fld

/- Rings as plain lists: what items take, how many have room, what is put in and taken out. -/
namespace Go.Proofs.Rng
open Go.Proofs.Fld

/-- An item: its bytes. -/
abbrev It := List UInt8
/-- What items take. -/
def takes : List It → Nat
  | [] => 0
  | x :: r => x.length + 1 + takes r
theorem takes_append (l k : List It) : takes (l ++ k) = takes l + takes k := by
  induction l with
  | nil => simp [takes]
  | cons a r ih => simp [takes, ih]; omega
theorem takes_take_le (l : List It) (k : Nat) : takes (l.take k) ≤ takes l := by
  have := takes_append (l.take k) (l.drop k)
  rw [List.take_append_drop] at this
  omega
theorem takes_next {l : List It} {k : Nat} {x : It} (h : l[k]? = some x) : takes (l.take (k + 1)) = takes (l.take k) + x.length + 1 := by
  have e : l.take (k + 1) = l.take k ++ [x] := by
    rw [List.take_add_one, h]
    rfl
  rw [e, takes_append]
  simp [takes]
  omega
/-- Are all of them items? -/
def itemsB (l : List It) : Bool := l.all fun x => decide (x.length ≤ 200)
theorem itemsB_iff {l : List It} : itemsB l = true ↔ ∀ x ∈ l, x.length ≤ 200 := by simp [itemsB]
/-- Is the ring right? -/
def rightR (m : Int) (l : List It) : Bool := decide (0 ≤ m) && decide (m ≤ 2000) && itemsB l && decide ((takes l : Int) ≤ m)
theorem rightR_iff {m : Int} {l : List It} : rightR m l = true ↔ 0 ≤ m ∧ m ≤ 2000 ∧ (∀ x ∈ l, x.length ≤ 200) ∧ (takes l : Int) ≤ m := by
  simp only [rightR, Bool.and_eq_true, decide_eq_true_eq, itemsB_iff]
  constructor
  · rintro ⟨⟨⟨a, b⟩, c⟩, d⟩; exact ⟨a, b, c, d⟩
  · rintro ⟨a, b, c, d⟩; exact ⟨⟨⟨a, b⟩, c⟩, d⟩
/-- Can the item be put in, where u is used? -/
def fitsB (m : Int) (u : Nat) (x : It) : Bool := decide (x.length ≤ 200) && decide (((u + x.length + 1 : Nat) : Int) ≤ m)
/-- How many can be put in. -/
def roomN (m : Int) (u : Nat) : List It → Nat
  | [] => 0
  | x :: r => if fitsB m u x then roomN m (u + x.length + 1) r + 1 else 0
/-- Why no more can be: 0 none is left, 1 no item, 2 it takes too much. -/
def roomE (m : Int) (u : Nat) : List It → Nat
  | [] => 0
  | x :: r => if fitsB m u x then roomE m (u + x.length + 1) r else if 200 < x.length then 1 else 2
theorem roomN_le (m : Int) (u : Nat) (l : List It) : roomN m u l ≤ l.length := by
  induction l generalizing u with
  | nil => simp [roomN]
  | cons a r ih =>
    unfold roomN
    split
    · have := ih (u + a.length + 1); simp; omega
    · exact Nat.zero_le _
/-- The first k fit. -/
def FitK (m : Int) (u : Nat) (l : List It) (k : Nat) : Prop := ∀ j x, j < k → l[j]? = some x → fitsB m (u + takes (l.take j)) x = true
theorem FitK.zero (m : Int) (u : Nat) (l : List It) : FitK m u l 0 := fun _ _ h => absurd h (by omega)
theorem FitK.next {m : Int} {u : Nat} {l : List It} {k : Nat} {x : It} (h : FitK m u l k) (hx : l[k]? = some x) (hf : fitsB m (u + takes (l.take k)) x = true) : FitK m u l (k + 1) := fun j y hj hy => by
  by_cases e : j = k
  · subst e
    rw [hx] at hy
    obtain rfl := Option.some.inj hy
    exact hf
  · exact h j y (by omega) hy
theorem FitK.tail {m : Int} {u k : Nat} {a : It} {r : List It} (h : FitK m u (a :: r) (k + 1)) : FitK m (u + a.length + 1) r k := fun j x hj hx => by
  have := h (j + 1) x (by omega) (by simpa using hx)
  rw [show u + takes ((a :: r).take (j + 1)) = u + a.length + 1 + takes (r.take j) by simp [takes]; omega] at this
  exact this
theorem FitK.head {m : Int} {u k : Nat} {a : It} {r : List It} (h : FitK m u (a :: r) (k + 1)) : fitsB m u a = true := by
  have := h 0 a (by omega) rfl
  simpa [takes] using this
theorem room_stop {m : Int} {u k : Nat} {l : List It} {x : It} (h : FitK m u l k) (hx : l[k]? = some x) (hn : fitsB m (u + takes (l.take k)) x = false) : roomN m u l = k ∧ roomE m u l = if 200 < x.length then 1 else 2 := by
  induction l generalizing u k with
  | nil => simp at hx
  | cons a r ih =>
    cases k with
    | zero =>
      simp at hx
      subst hx
      simp only [List.take_zero, takes, Nat.add_zero] at hn
      simp [roomN, roomE, hn]
    | succ k =>
      have hh := h.head
      have := ih h.tail (by simpa using hx) (by
        rw [show u + takes ((a :: r).take (k + 1)) = u + a.length + 1 + takes (r.take k) by simp [takes]; omega] at hn
        exact hn)
      simp [roomN, roomE, hh, this]
theorem room_all {m : Int} {u : Nat} {l : List It} (h : FitK m u l l.length) : roomN m u l = l.length ∧ roomE m u l = 0 := by
  induction l generalizing u with
  | nil => simp [roomN, roomE]
  | cons a r ih =>
    have := ih (FitK.tail (k := r.length) h)
    have hh := FitK.head (k := r.length) h
    simp [roomN, roomE, hh, this]
theorem room_fit (m : Int) (u : Nat) (l : List It) : FitK m u l (roomN m u l) := by
  induction l generalizing u with
  | nil => intro j x _ hx; simp at hx
  | cons a r ih =>
    intro j x hj hx
    unfold roomN at hj
    split at hj
    · rename_i hf
      cases j with
      | zero =>
        simp at hx
        subst hx
        simpa [takes] using hf
      | succ j =>
        have := ih (u + a.length + 1) j x (by omega) (by simpa using hx)
        rw [show u + takes ((a :: r).take (j + 1)) = u + a.length + 1 + takes (r.take j) by simp [takes]; omega]
        exact this
    · omega
/-- What is used behind those that could be put in is not more than there may be. -/
theorem room_used {m : Int} {u k : Nat} {l : List It} (hu : (u : Int) ≤ m) (h : FitK m u l k) (hk : k ≤ l.length) : ((u + takes (l.take k) : Nat) : Int) ≤ m := by
  cases k with
  | zero => simpa [takes] using hu
  | succ k =>
    obtain ⟨x, hx⟩ : ∃ x, l[k]? = some x := ⟨_, List.getElem?_eq_getElem (by omega)⟩
    have := h k x (by omega) hx
    rw [takes_next hx]
    unfold fitsB at this
    simp at this
    have := this.2
    omega
theorem room_items {m : Int} {u k : Nat} {l : List It} (h : FitK m u l k) : ∀ x ∈ l.take k, x.length ≤ 200 := by
  intro x hx
  obtain ⟨j, hj⟩ := List.mem_iff_getElem?.1 hx
  rw [List.getElem?_take] at hj
  split at hj
  · rename_i hlt
    have := h j x hlt hj
    unfold fitsB at this
    simp at this
    exact this.1
  · cases hj
/-- A ring is right, if an empty one has room for all its items. -/
theorem right_room {m : Int} {l : List It} (h0 : 0 ≤ m) (h1 : m ≤ 2000) : rightR m l = decide (roomE m 0 l = 0) := by
  have key : ∀ (u : Nat) (l : List It), (u : Int) ≤ m → ((roomE m u l = 0) ↔ ((∀ x ∈ l, x.length ≤ 200) ∧ ((u + takes l : Nat) : Int) ≤ m)) := by
    intro u l
    induction l generalizing u with
    | nil => intro hu; simp [roomE, takes]; omega
    | cons a r ih =>
      intro hu
      unfold roomE
      cases hf : fitsB m u a
      · simp only [Bool.false_eq_true, if_false]
        unfold fitsB at hf
        simp at hf
        constructor
        · intro h; split at h <;> cases h
        · rintro ⟨ha, hb⟩
          have := hf (ha a (by simp))
          simp [takes] at hb
          omega
      · unfold fitsB at hf
        simp at hf
        simp only [if_true]
        rw [ih _ (by omega)]
        simp only [List.mem_cons, forall_eq_or_imp, takes]
        constructor
        · rintro ⟨p, q⟩; exact ⟨⟨hf.1, p⟩, by omega⟩
        · rintro ⟨⟨_, p⟩, q⟩; exact ⟨p, by omega⟩
  have := key 0 l (by omega)
  cases hr : rightR m l
  · cases hd : decide (roomE m 0 l = 0)
    · rfl
    · have := this.1 (of_decide_eq_true hd)
      have h2 := rightR_iff.2 ⟨h0, h1, this.1, by simpa using this.2⟩
      rw [hr] at h2
      cases h2
  · have h2 := rightR_iff.1 hr
    symm
    exact decide_eq_true (this.2 ⟨h2.2.2.1, by simpa using h2.2.2.2⟩)
theorem room_full {m : Int} {u : Nat} {l : List It} (h : roomE m u l = 0) : roomN m u l = l.length := by
  induction l generalizing u with
  | nil => rfl
  | cons a r ih =>
    unfold roomE at h
    unfold roomN
    split at h
    · rename_i hf
      rw [if_pos hf, ih h]
      simp
    · split at h <;> cases h
theorem roomE_one (m : Int) (u : Nat) (x : It) : roomE m u [x] = if 200 < x.length then 1 else if m < ((u + x.length + 1 : Nat) : Int) then 2 else 0 := by
  show (if fitsB m u x then roomE m (u + x.length + 1) [] else if 200 < x.length then 1 else 2) = _
  have e0 : roomE m (u + x.length + 1) [] = 0 := rfl
  rw [e0]
  unfold fitsB
  generalize ((u + x.length + 1 : Nat) : Int) = k
  by_cases h : 200 < x.length
  · have h1 : decide (x.length ≤ 200) = false := decide_eq_false (by omega)
    rw [h1, if_pos h, if_pos h]
    rfl
  · have h1 : decide (x.length ≤ 200) = true := decide_eq_true (by omega)
    rw [h1, if_neg h, if_neg h, Bool.true_and]
    by_cases h2 : m < k
    · rw [decide_eq_false (by omega), if_pos h2]
      rfl
    · rw [decide_eq_true (by omega), if_neg h2]
      rfl
theorem roomE_le (m : Int) (u : Nat) (l : List It) : roomE m u l ≤ 2 := by
  induction l generalizing u with
  | nil => simp [roomE]
  | cons a r ih =>
    unfold roomE
    split
    · exact ih _
    · split <;> omega
/-- The items, each with what is used by then. -/
def prs (u : Nat) : List It → List (It × Nat)
  | [] => []
  | x :: r => (x, u + x.length + 1) :: prs (u + x.length + 1) r
theorem prs_length (u : Nat) (l : List It) : (prs u l).length = l.length := by
  induction l generalizing u with
  | nil => rfl
  | cons a r ih => simp [prs, ih]
theorem prs_get {u k : Nat} {l : List It} {x : It} (h : l[k]? = some x) : (prs u l)[k]? = some (x, u + takes (l.take k) + x.length + 1) := by
  induction l generalizing u k with
  | nil => simp at h
  | cons a r ih =>
    cases k with
    | zero => simp at h; subst h; simp [prs, takes]
    | succ k =>
      have := ih (u := u + a.length + 1) (k := k) (by simpa using h)
      simp only [prs, List.getElem?_cons_succ, this, List.take_succ_cons, takes]
      congr 2
      omega
theorem prs_next {u k : Nat} {l : List It} {x : It} (h : l[k]? = some x) : (prs u l).take (k + 1) = (prs u l).take k ++ [(x, u + takes (l.take k) + x.length + 1)] := by
  rw [List.take_add_one, prs_get h]
  rfl
/-- Are two lists the same? -/
def sameT (a b : List It) : Bool := decide (a = b)
/-- What Put tells: the ring's number, its items, the error. -/
def putE (m : Int) (l : List It) (x : It) : Nat := if rightR m l then roomE m (takes l) [x] else 1
def putM (m : Int) (l : List It) (x : It) : Int := if putE m l x = 0 then m else 0
def putL (m : Int) (l : List It) (x : It) : List It := if putE m l x = 0 then l ++ [x] else []
/-- What Take tells: 3 is that there is none. -/
def takeE (m : Int) (l : List It) : Nat := if rightR m l then (if l = [] then 3 else 0) else 1
def takeM (m : Int) (l : List It) : Int := if takeE m l = 0 then m else 0
def takeL (m : Int) (l : List It) : List It := if takeE m l = 0 then l.tail else []
def takeX (m : Int) (l : List It) : It := if takeE m l = 0 then l.headD [] else []
/-- What All tells. -/
def allE (m : Int) (l : List It) : Nat := if rightR m l then 0 else 1
def allN (m : Int) (l k : List It) : Nat := if rightR m l then roomN m (takes l) k else 0
def allM (m : Int) (l : List It) : Int := if rightR m l then m else 0
def allL (m : Int) (l k : List It) : List It := if rightR m l then l ++ k.take (roomN m (takes l) k) else []
/-- The numbers that callers are told. -/
def errN : Nat → Int
  | 0 => 0
  | 1 => 2
  | 2 => 80
  | _ => 81
def usedR (m : Int) (l : List It) : Nat := if rightR m l then takes l else 0
theorem right_put {m : Int} {l : List It} {x : It} (h : putE m l x = 0) : rightR m l = true ∧ rightR m (l ++ [x]) = true ∧ x.length ≤ 200 ∧ takes (l ++ [x]) = takes l + x.length + 1 := by
  unfold putE at h
  split at h
  · rename_i hr
    rw [roomE_one] at h
    obtain ⟨a, b, c, d⟩ := rightR_iff.1 hr
    split at h
    · cases h
    split at h
    · cases h
    have ht : takes (l ++ [x]) = takes l + x.length + 1 := by rw [takes_append]; simp [takes]; omega
    refine ⟨hr, rightR_iff.2 ⟨a, b, ?_, by rw [ht]; omega⟩, by omega, ht⟩
    intro y hy
    rcases List.mem_append.1 hy with hy | hy
    · exact c y hy
    · obtain rfl : y = x := by simpa using hy
      omega
  · cases h
theorem right_all {m : Int} {l k : List It} {n : Nat} (hr : rightR m l = true) (h : FitK m (takes l) k n) (hn : n ≤ k.length) : rightR m (l ++ k.take n) = true := by
  obtain ⟨a, b, c, d⟩ := rightR_iff.1 hr
  refine rightR_iff.2 ⟨a, b, ?_, ?_⟩
  · intro y hy
    rcases List.mem_append.1 hy with hy | hy
    · exact c y hy
    · exact room_items h y hy
  · rw [takes_append]
    exact room_used d h hn
theorem right_drop {m : Int} {l : List It} (k : Nat) (h : rightR m l = true) : rightR m (l.drop k) = true := by
  obtain ⟨a, b, c, d⟩ := rightR_iff.1 h
  refine rightR_iff.2 ⟨a, b, fun x hx => c x (List.mem_of_mem_drop hx), ?_⟩
  have := takes_append (l.take k) (l.drop k)
  rw [List.take_append_drop] at this
  omega
theorem right_nil (m : Int) : rightR m [] = (decide (0 ≤ m) && decide (m ≤ 2000)) := by
  unfold rightR itemsB takes
  by_cases h0 : 0 ≤ m
  · simp [h0]
  · simp [h0]
end Go.Proofs.Rng

/- The three sentinels; errors.Is; what callers are told; texts in memory. -/
namespace Go.Proofs.YtnbpfbmhheimbaaGreatDoor
open Go.RowKit Go.Proofs.Fld Go.Proofs.Rng Go.Shelf Go.Extern.Stop Go.Stop Go.Extern

theorem below_more {n : Nat} {w w1 w2 : World} (h : Below n w w1) (k : Below w1.heap.size w1 w2) (hn : n ≤ w.heap.size := by exact Nat.le_refl _) : Below n w w2 := h.trans (k.mono (Nat.le_trans hn h.size))
theorem Below.new (w : World) (o : Obj) : Below w.heap.size w (w.alloc o) := (Below.refl _ w).alloc (Nat.le_refl _) _
theorem bs_toList (l : List UInt8) : (bs l).toList = l := by
  rw [Lib.toList_data]
  rfl
theorem bs_extract (l : List UInt8) (a b : Nat) : (bs l).extract a b = bs ((l.drop a).take (b - a)) := by
  have h := Lib.extract_data (bs l) a b
  rw [bs_all ((bs l).extract a b), h]
  rfl
theorem str_eql (l m : List UInt8) (w : World) : (binOp .eql 9 (.string (bs l)) (.string (bs m))).run Tryz.prog w = .ok (.bool (decide (l = m))) w := by
  simp [go_sem, bs_toList]
  by_cases h : l = m <;> simp [h]
theorem str_neq (l m : List UInt8) (w : World) : (binOp .neq 9 (.string (bs l)) (.string (bs m))).run Tryz.prog w = .ok (.bool (!decide (l = m))) w := by
  simp [go_sem, bs_toList]
  by_cases h : l = m <;> simp [h]
theorem str_upto (l : List UInt8) (k : Nat) (h : k ≤ l.length) (w : World) : (Instr.slice 9 (.string (bs l)) none (some (.int .i64 (k : Int))) none).run Tryz.prog w = .ok (.string (bs (l.take k))) w := by
  simp [go_sem, Tryz.underlying9, bs_size, bs_extract, h]

/-- Where the three sentinels lie: no ring or item, full, empty. -/
structure Sn where
  w : Addr
  f : Addr
  e : Addr
def Blk0 (w : World) (a : Addr) : Prop := ∃ c t, w.heap[a.block]? = some (.cells c t (0, 0))
theorem Blk0.lt {w : World} {a : Addr} (h : Blk0 w a) : a.block < w.heap.size := by
  obtain ⟨c, t, h⟩ := h
  exact (Array.getElem?_eq_some_iff.1 h).1
structure Sent (s : Sn) (w : World) : Prop where
  cw : w.cell? ⟨1, 0, none⟩ = some (.iface 207 (.pointer (some s.w)))
  cf : w.cell? ⟨2, 0, none⟩ = some (.iface 207 (.pointer (some s.f)))
  ce : w.cell? ⟨3, 0, none⟩ = some (.iface 207 (.pointer (some s.e)))
  bw : Blk0 w s.w
  bf : Blk0 w s.f
  be : Blk0 w s.e
  wf : s.w ≠ s.f
  we : s.w ≠ s.e
  fe : s.f ≠ s.e
theorem Sent.below {s : Sn} {n : Nat} {A B : World} (h : Sent s A) (hn : A.heap.size ≤ n) (hb : Below n A B) : Sent s B := by
  have l1 := World.block_lt_of_cell? A _ h.cw
  have l2 := World.block_lt_of_cell? A _ h.cf
  have l3 := World.block_lt_of_cell? A _ h.ce
  have k1 := h.bw.lt
  have k2 := h.bf.lt
  have k3 := h.be.lt
  refine ⟨(hb.cell (p := ⟨1, 0, none⟩) (by simp at l1 ⊢; omega)).trans h.cw, (hb.cell (p := ⟨2, 0, none⟩) (by simp at l2 ⊢; omega)).trans h.cf, (hb.cell (p := ⟨3, 0, none⟩) (by simp at l3 ⊢; omega)).trans h.ce, ?_, ?_, ?_, h.wf, h.we, h.fe⟩
  · obtain ⟨c, t, e⟩ := h.bw
    exact ⟨c, t, (hb.block _ (by omega)).trans e⟩
  · obtain ⟨c, t, e⟩ := h.bf
    exact ⟨c, t, (hb.block _ (by omega)).trans e⟩
  · obtain ⟨c, t, e⟩ := h.be
    exact ⟨c, t, (hb.block _ (by omega)).trans e⟩
theorem Sent.more {s : Sn} {A B : World} (h : Sent s A) (hb : Below A.heap.size A B) : Sent s B := h.below (Nat.le_refl _) hb

theorem isTypeOf (v : Value) (w : World) : (Extern.ReflectliteType.typeOf #[.iface 207 v]).run Tryz.prog w = .ok (.iface 156 (.agg #[.pointer (some ⟨5, 207, none⟩)])) w := by kernel_rfl
noncomputable def cmpE : Array Value → Sem Value := (Extern.find Tryz.f177).getD fun _ => pure .nilIface
theorem isComparable (w : World) : (cmpE #[.agg #[.pointer (some ⟨5, 207, none⟩)]]).run Tryz.prog w = .ok (.bool true) w := by kernel_rfl
theorem isMethodComparable (v : Value) (w : World) : (Go.method 337 156 v "Comparable").run Tryz.prog w = .ok (177, v) w := by kernel_rfl
theorem isComp : (Tryz.prog.info? 207).map (·.comparable) = some true := by kernel_rfl
theorem isSize : (Tryz.prog.info? 225).map (·.size) = some 1 := by kernel_rfl
theorem noIsE (v : Value) (xT : TypeId) (w : World) : (Instr.typeAssert (.iface 207 v) xT 200 true).run Tryz.prog w = .ok (.tuple #[.nilIface, .bool false]) w := run_typeAssert_lacksB Tryz.underlying200 (by kernel_rfl) (by kernel_rfl) v xT w
theorem noUnE (v : Value) (xT : TypeId) (w : World) : (Instr.typeAssert (.iface 207 v) xT 164 true).run Tryz.prog w = .ok (.tuple #[.nilIface, .bool false]) w := run_typeAssert_lacksB Tryz.underlying164 (by kernel_rfl) (by kernel_rfl) v xT w
theorem noUnsE (v : Value) (xT : TypeId) (w : World) : (Instr.typeAssert (.iface 207 v) xT 165 true).run Tryz.prog w = .ok (.tuple #[.nilIface, .bool false]) w := run_typeAssert_lacksB Tryz.underlying165 (by kernel_rfl) (by kernel_rfl) v xT w

set_option maxHeartbeats 400000 in
theorem is_nil (b : Addr) (w : World) :
    Calls Tryz.prog 119 #[.nilIface, .iface 207 (.pointer (some b))] w fun e w' => e = .returned (.bool false) ∧ w = w' := by
  have hn := run_eql_iface_nil_left (P := Tryz.prog) w 207 (.pointer (some b)) Tryz.underlying59
  go_enter Tryz.func119, Tryz.ntmps119
  go_wp2
  go_ret
  exact ⟨rfl, rfl⟩

set_option maxHeartbeats 400000 in
theorem is_same (a : Addr) (w : World) :
    Calls Tryz.prog 119 #[.iface 207 (.pointer (some a)), .iface 207 (.pointer (some a))] w fun e w' => e = .returned (.bool true) ∧ w = w' := by
  obtain ⟨i, hi, hcmp⟩ := Option.map_eq_some_iff.1 isComp
  obtain ⟨j, hj, hjs⟩ := Option.map_eq_some_iff.1 isSize
  have h8 := @run_callFunc_extern Tryz.prog 123 _ Extern.ReflectliteType.typeOf Tryz.func123 (by kernel_rfl) (by kernel_rfl) (by kernel_rfl) (by kernel_rfl)
  have h32 := @run_callFunc_extern Tryz.prog 177 _ cmpE Tryz.func177 (by kernel_rfl) (by kernel_rfl) (by kernel_rfl) (by kernel_rfl)
  have tT := isTypeOf
  have cT := isComparable
  have mR := isMethodComparable
  have heq := run_eql_iface_ptr_same (P := Tryz.prog) w a Tryz.underlying59 Tryz.underlying207 hi hcmp hj
  go_enter Tryz.func119, Tryz.ntmps119
  go_wp2
  refine wp_loop_rounds 1 ?_
  rw [rounds_succ]
  go_wp2
  go_ret
  exact ⟨rfl, rfl⟩

set_option maxRecDepth 100000 in
set_option maxHeartbeats 1000000 in
theorem is_other (a b : Addr) (w : World) (hne : a ≠ b) (ha : Blk0 w a) (hb : Blk0 w b) :
    Calls Tryz.prog 119 #[.iface 207 (.pointer (some a)), .iface 207 (.pointer (some b))] w fun e w' => e = .returned (.bool false) ∧ w = w' := by
  obtain ⟨i, hi, hcmp⟩ := Option.map_eq_some_iff.1 isComp
  obtain ⟨j, hj, hjs⟩ := Option.map_eq_some_iff.1 isSize
  have h8 := @run_callFunc_extern Tryz.prog 123 _ Extern.ReflectliteType.typeOf Tryz.func123 (by kernel_rfl) (by kernel_rfl) (by kernel_rfl) (by kernel_rfl)
  have h32 := @run_callFunc_extern Tryz.prog 177 _ cmpE Tryz.func177 (by kernel_rfl) (by kernel_rfl) (by kernel_rfl) (by kernel_rfl)
  have tT := isTypeOf
  have cT := isComparable
  have mR := isMethodComparable
  have t3 := noIsE
  have t4 := noUnE
  have t5 := noUnsE
  obtain ⟨ca, ta, ha⟩ := ha
  obtain ⟨cb, tb, hb⟩ := hb
  have heq := run_eql_iface_ptr_other (P := Tryz.prog) w Tryz.underlying59 Tryz.underlying207 hi hcmp hj (by rw [hjs]; decide) hne ha hb
  go_enter Tryz.func119, Tryz.ntmps119
  go_wp2
  refine wp_loop_rounds 1 ?_
  rw [rounds_succ]
  go_wp2
  go_ret
  exact ⟨rfl, rfl⟩

/-- An error, and its number: 0 none, 1 wrong, 2 full, 3 empty. -/
inductive ErrIs (t : Sn) : Value → Nat → Prop
  | ok : ErrIs t .nilIface 0
  | wrong : ErrIs t (.iface 207 (.pointer (some t.w))) 1
  | full : ErrIs t (.iface 207 (.pointer (some t.f))) 2
  | empty : ErrIs t (.iface 207 (.pointer (some t.e))) 3

set_option maxHeartbeats 1000000 in
theorem told_any (t : Sn) {v : Value} {c : Nat} (h : ErrIs t v c) (w : World) (hc : Sent t w) :
    Calls Tryz.prog 98 #[v] w fun e w' => e = .returned (.int .i64 (errN c)) ∧ w = w' := by
  have cw := hc.cw
  have cf := hc.cf
  have ce := hc.ce
  have HC := Lib.hid hc
  clear hc
  go_enter Tryz.func98, Tryz.ntmps98
  cases h with
  | ok =>
    go_wp2_with (go_at_call 119; refine (is_nil _ _).mono ?_; rintro e w' ⟨rfl, rfl⟩)
    go_ret
    exact ⟨rfl, rfl⟩
  | wrong =>
    go_wp2_with (go_at_call 119; refine (is_same _ _).mono ?_; rintro e w' ⟨rfl, rfl⟩)
    go_ret
    exact ⟨rfl, rfl⟩
  | full =>
    go_wp2_with (go_at_call 119; refine (is_other t.f t.w w HC.out.wf.symm HC.out.bf HC.out.bw).mono ?_)
    rintro e w' ⟨rfl, rfl⟩
    go_wp2_with (go_at_call 119; refine (is_same t.f w).mono ?_)
    rintro e w' ⟨rfl, rfl⟩
    go_wp2
    go_ret
    exact ⟨rfl, rfl⟩
  | empty =>
    go_wp2_with (go_at_call 119; refine (is_other t.e t.w w HC.out.we.symm HC.out.be HC.out.bw).mono ?_)
    rintro e w' ⟨rfl, rfl⟩
    go_wp2_with (go_at_call 119; refine (is_other t.e t.f w HC.out.fe.symm HC.out.be HC.out.bf).mono ?_)
    rintro e w' ⟨rfl, rfl⟩
    go_wp2_with (go_at_call 119; refine (is_same t.e w).mono ?_)
    rintro e w' ⟨rfl, rfl⟩
    go_wp2
    go_ret
    exact ⟨rfl, rfl⟩

end Go.Proofs.YtnbpfbmhheimbaaGreatDoor

/- Texts in memory. -/
namespace Go.Proofs.YtnbpfbmhheimbaaGreatDoor
open Go.RowKit Go.Proofs.Fld Go.Proofs.Rng Go.Shelf

theorem infoS : (Tryz.prog.info? 9).map (fun i => (i.zero, i.size, i.bytes)) = some (some (.string { data := #[] }), 1, 16) := by kernel_rfl
/-- The slice holds the texts zs. -/
structure Txs (W : World) (ao : Option Addr) (len cap : Nat) (zs : List It) : Prop where
  hlen : zs.length = len
  hle : len ≤ cap
  hmax : cap ≤ maxLen
  hnone : ao = none → cap = 0
  hfits : ∀ x ∈ zs, x.length ≤ 9223372036854775807
  hcells : zs ≠ [] → ∃ b off, ao = some ⟨b, off, none⟩ ∧ ∀ j x, zs[j]? = some x → W.cell? ⟨b, off + j, none⟩ = some (.string (bs x))
theorem Txs.of_block {A B : World} {ao : Option Addr} {len cap : Nat} {zs : List It} (h : Txs A ao len cap zs) (k : ∀ a, ao = some a → a.block < A.heap.size → B.heap[a.block]? = A.heap[a.block]?) : Txs B ao len cap zs :=
  ⟨h.hlen, h.hle, h.hmax, h.hnone, h.hfits, fun hz => by
    obtain ⟨b, off, e, hc⟩ := h.hcells hz
    exact ⟨b, off, e, fun j x hj => (World.cell?_of_block (a := ⟨b, off + j, none⟩) (k ⟨b, off, none⟩ e (World.block_lt_of_cell? A ⟨b, off + j, none⟩ (hc j x hj)))).trans (hc j x hj)⟩⟩
theorem Txs.more {A B : World} {ao : Option Addr} {len cap : Nat} {zs : List It} (h : Txs A ao len cap zs) (k : Below A.heap.size A B) : Txs B ao len cap zs := h.of_block fun _ _ hb => k.block _ hb
theorem Txs.nil (W : World) : Txs W none 0 0 [] := ⟨rfl, Nat.le_refl _, Nat.zero_le _, fun _ => rfl, fun _ h => (by cases h), fun h => absurd rfl h⟩
theorem Txs.at {W : World} {ao : Option Addr} {len cap : Nat} {zs : List It} (h : Txs W ao len cap zs) (hp : 0 < len) : ∃ b off, ao = some ⟨b, off, none⟩ ∧ b < W.heap.size ∧ ∀ j x, zs[j]? = some x → W.cell? ⟨b, off + j, none⟩ = some (.string (bs x)) := by
  have hz : zs ≠ [] := fun e => by have := h.hlen; rw [e] at this; simp at this; omega
  obtain ⟨b, off, e, hc⟩ := h.hcells hz
  obtain ⟨x, hx⟩ : ∃ x, zs[0]? = some x := ⟨_, List.getElem?_eq_getElem (by rw [h.hlen]; exact hp)⟩
  exact ⟨b, off, e, World.block_lt_of_cell? W ⟨b, off + 0, none⟩ (hc 0 x hx), hc⟩
theorem Txs.apart {w W : World} {ao : Option Addr} {len cap : Nat} {zs : List It} (h : Txs w ao len cap zs) (k : Below w.heap.size w W) {X : Nat} (hX : w.heap.size ≤ X) : 0 < len → ∀ a, ao = some a → a.block < W.heap.size ∧ a.block ≠ X := by
  intro hp a e
  obtain ⟨b, off, e', hb, _⟩ := h.at hp
  rw [e] at e'
  obtain rfl := Option.some.inj e'
  have := k.size
  exact ⟨Nat.lt_of_lt_of_le hb this, fun q => by simp only at q; omega⟩
theorem Txs.take {W : World} {ao : Option Addr} {len cap : Nat} {zs : List It} (h : Txs W ao len cap zs) (k c : Nat) (hk : k ≤ len) (hc : k ≤ c) (hcc : c ≤ cap) : Txs W ao k c (zs.take k) := by
  refine ⟨by rw [List.length_take, h.hlen]; omega, hc, Nat.le_trans hcc h.hmax, fun e => by have := h.hnone e; omega, fun x hx => h.hfits x (List.mem_of_mem_take hx), fun hz => ?_⟩
  obtain ⟨b, off, e, hcs⟩ := h.hcells (fun e => hz (by rw [e]; simp))
  refine ⟨b, off, e, fun j x hj => ?_⟩
  rw [List.getElem?_take] at hj
  split at hj
  · exact hcs j x hj
  · cases hj
theorem add_at (b off j : Nat) : (⟨b, off, none⟩ : Addr).add j = ⟨b, off + j, none⟩ := by
  unfold Addr.add
  by_cases hj0 : j = 0
  · subst hj0; simp
  · simp [hj0]
/-- Texts' cells. -/
def tcl (l : List It) : List Value := l.map fun x => Value.string (bs x)
theorem tcl_append (l m : List It) : tcl (l ++ m) = tcl l ++ tcl m := by simp [tcl]
theorem tcl_length (l : List It) : (tcl l).length = l.length := by simp [tcl]
theorem tcl_get (l : List It) (j : Nat) (x : It) (h : l[j]? = some x) : (tcl l)[j]? = some (.string (bs x)) := by simp [tcl, h]
theorem tcl_one (l : List It) : ∀ u ∈ tcl l, u.oneCell' = true := by
  intro u hu
  obtain ⟨x, _, rfl⟩ := List.mem_map.1 hu
  rfl
/-- The slice v has the texts l, in a row of its own from n0 on, or is nil. -/
def OwnT (n0 : Nat) (W : World) (v : Value) (l : List It) : Prop := W.ownsRow n0 9 1 v l.length (tcl l)
theorem OwnT.slice {n0 : Nat} {W : World} {v : Value} {l : List It} (h : OwnT n0 W v l) : ∃ a c, v = .slice a l.length c := by
  rcases h.2 with ⟨rfl, h0⟩ | ⟨g, cap, cur, rfl, _⟩
  · exact ⟨none, 0, by rw [h0]⟩
  · exact ⟨_, cap, rfl⟩
theorem OwnT.mono {n0 n1 : Nat} {W : World} {v : Value} {l : List It} (h : OwnT n0 W v l) (hn : n1 ≤ n0) : OwnT n1 W v l := World.ownsRow.mono h hn
theorem OwnT.nil (n0 : Nat) (W : World) : OwnT n0 W (.slice none 0 0) [] := World.ownsRow_nil _ _ _ _
theorem OwnT.more {n0 : Nat} {A B : World} {v : Value} {l : List It} (h : OwnT n0 A v l) (k : Below A.heap.size A B) : OwnT n0 B v l := by
  refine ⟨h.1, ?_⟩
  rcases h.2 with ⟨e, h0⟩ | ⟨g, cap, cur, e, hb, hg, rest⟩
  · exact .inl ⟨e, h0⟩
  · exact .inr ⟨g, cap, cur, e, hb, (k.block g (Array.getElem?_eq_some_iff.1 hg).1).trans hg, rest⟩
theorem OwnT.txs {n0 : Nat} {W : World} {a : Option Addr} {len c : Nat} {l : List It} (h : OwnT n0 W (.slice a len c) l) (hl : l.length = len) (hf : ∀ x ∈ l, x.length ≤ 9223372036854775807) : Txs W a len c l := by
  have h' : W.ownsRow n0 9 1 (.slice a len c) l.length (tcl l) := h
  rcases h.2 with ⟨e, h0⟩ | ⟨g, cap, cur, e, hb, hg, hn, hm, _⟩
  · injection e with e1 e2 e3
    subst e1 e2 e3
    obtain rfl := List.eq_nil_of_length_eq_zero h0
    exact Txs.nil W
  · injection e with e1 e2 e3
    subst e1 e2 e3
    refine ⟨hl, by omega, hm, (fun h => by cases h), hf, fun _ => ⟨g, 0, rfl, fun j x hj => ?_⟩⟩
    have hjl := (List.getElem?_eq_some_iff.1 hj).1
    rw [Nat.zero_add]
    exact (World.ownsRow.cellAt h' j (by omega)).trans (tcl_get l j x hj)
theorem txs_cells {W : World} {b off : Nat} {zs : List It} (h : ∀ j x, zs[j]? = some x → W.cell? ⟨b, off + j, none⟩ = some (.string (bs x))) : ∀ j u, (tcl zs)[j]? = some u → W.cell? ((⟨b, off, none⟩ : Addr).add j) = some u := by
  intro j u hu
  unfold tcl at hu
  rw [List.getElem?_map] at hu
  obtain ⟨x, hx, rfl⟩ := Option.map_eq_some_iff.1 hu
  rw [add_at]
  exact h j x hx
theorem Txs.news {W : World} {ao : Option Addr} {len cap : Nat} {zs : List It} (h : Txs W ao len cap zs) : ∀ b, ao = some b → ∀ j u, (tcl zs)[j]? = some u → W.cell? (b.add j) = some u := by
  intro b e j u hu
  by_cases hz : zs = []
  · subst hz; simp [tcl] at hu
  · obtain ⟨g, off, e', hc⟩ := h.hcells hz
    rw [e] at e'
    obtain rfl := Option.some.inj e'
    exact txs_cells hc j u hu
theorem Txs.nones {W : World} {ao : Option Addr} {len cap : Nat} {zs : List It} (h : Txs W ao len cap zs) : ao = none → len = 0 := fun e => by
  have := h.hnone e
  have := h.hle
  omega
/-- It tells b. -/
def BoolP (b : Bool) (w : World) (e : Ending) (w' : World) : Prop := e = .returned (.bool b) ∧ Below w.heap.size w w'
def IntP (v : Int) (w : World) (e : Ending) (w' : World) : Prop := e = .returned (.int .i64 v) ∧ Below w.heap.size w w'
/-- A value, all else as it was. -/
def ValP (v : Value) (w : World) (e : Ending) (w' : World) : Prop := e = .returned v ∧ Below w.heap.size w w'
theorem below_grown {w w' : World} (h : Below w.heap.size w w') : w.grownBy w' none := ⟨h.os, h.tape, h.output, h.size, fun k hk _ => h.block k hk⟩
theorem take_next {α : Type} (zs : List α) (k : Nat) (x : α) (h : zs[k]? = some x) : zs.take (k + 1) = zs.take k ++ [x] := by
  obtain ⟨hk, rfl⟩ := List.getElem?_eq_some_iff.1 h
  rw [List.take_append_getElem hk]
theorem setO {W : World} {a b : Addr} {v x : Value} (h : W.cell? a = some v) (hne : b ≠ a) : (W.setCell b x).cell? a = some v := (World.cell?_setCell_other _ _ _ _ (fun e => hne e)).trans h
theorem setS {W : World} {a : Addr} {v : Value} (x : Value) (h : W.cell? a = some v) : (W.setCell a x).cell? a = some x := World.cell?_setCell_same' _ _ _ (by rw [h]; rfl)
theorem setF {W : World} {a b : Addr} {x : Value} (h : W.frozen? a = false) : (W.setCell b x).frozen? a = false := by rw [World.frozen?_setCell]; exact h
theorem ne_blk {b b' o o' : Nat} (h : b ≠ b') : (⟨b, o, none⟩ : Addr) ≠ ⟨b', o', none⟩ := fun e => h (congrArg Addr.block e)
theorem ne_off {b b' o o' : Nat} (h : o ≠ o') : (⟨b, o, none⟩ : Addr) ≠ ⟨b', o', none⟩ := fun e => h (congrArg Addr.off e)
theorem keeps_below {W W1 : World} (h : Below W.heap.size W W1) : KeepsOthers W W1 := KeepsOthers.of_grownBy (below_grown h) (fun j o e _ => by cases e)
def TruePost (w : World) (e : Ending) (w' : World) : Prop := e = .returned (.bool true) ∧ Below w.heap.size w w'

end Go.Proofs.YtnbpfbmhheimbaaGreatDoor

/- coming: the items that are to come, by a range over a function. -/
namespace Go.Proofs.YtnbpfbmhheimbaaGreatDoor
open Go.RowKit Go.Proofs.Fld Go.Proofs.Rng Go.Shelf Go.Sort

attribute [local go_sem] Oper.semAt_some

/-- All blocks below m but those from lo up to hi lie as they lay. -/
def KR (lo hi m : Nat) (A B : World) : Prop := A.heap.size ≤ B.heap.size ∧ ∀ k, k < m → (k < lo ∨ hi ≤ k) → B.heap[k]? = A.heap[k]?
theorem KR.refl (lo hi m : Nat) (A : World) : KR lo hi m A A := ⟨Nat.le_refl _, fun _ _ _ => rfl⟩
theorem KR.trans {lo hi m : Nat} {A B C : World} (h : KR lo hi m A B) (k : KR lo hi m B C) : KR lo hi m A C := ⟨Nat.le_trans h.1 k.1, fun i hi hx => (k.2 i hi hx).trans (h.2 i hi hx)⟩
theorem KR.of_below {lo hi m : Nat} {A B : World} (h : Below m A B) : KR lo hi m A B := ⟨h.size, fun k hk _ => h.block k hk⟩
theorem krK_b {lo hi m : Nat} {w : World} (hn : m ≤ w.heap.size) (W : World) (l : Nat) (o o' : Obj) (hl : w.heap.size ≤ l) (h : W.heap[l]? = some o) (h1 : o.isCells = false) (h2 : o.isWalk = false) : KR lo hi m W (W.putObj l o') := KR.of_below (belowK_b hn W l o o' hl h h1 h2)
theorem KR.set {lo hi m : Nat} (A : World) (X o : Nat) (v : Value) (h1 : lo ≤ X) (h2 : X < hi) : KR lo hi m A (A.setCell ⟨X, o, none⟩ v) := ⟨by simp [World.setCell], fun k _ hx => Below.heap_setCell _ _ _ _ (fun e => by have e' : k = X := e; omega)⟩
theorem KR.cell {lo hi m : Nat} {A B : World} (h : KR lo hi m A B) {a : Addr} {v : Value} (hc : A.cell? a = some v) (hm : a.block < m) (hx : a.block < lo ∨ hi ≤ a.block) : B.cell? a = some v := (World.cell?_of_block (h.2 _ hm hx)).trans hc

/-- An item, and what would be used by then, as values. -/
def prv (x : It × Nat) : Array Value := #[.string (bs x.1), .int .i64 (x.2 : Int)]
/-- What a round tells: whether to go on. -/
def ToldR (J Jx : List (It × Nat) → World → Prop) (pre : List (It × Nat)) (x : It × Nat) (lo hi m : Nat) (W W' : World) (b : Bool) : Prop :=
  (b = true → J (pre ++ [x]) W' ∧ KR lo hi m W W') ∧ (b = false → Jx (pre ++ [x]) W')

set_option maxHeartbeats 400000 in
theorem takes_any (x : It) (hx : x.length ≤ 1000000) (w : World) :
    Calls Tryz.prog 146 #[.string (bs x)] w fun e w' => e = .returned (.int .i64 ((x.length : Int) + 1)) ∧ w = w' := by
  have hz := bs_size x
  have hw : IntKind.i64.wrap ((x.length : Int) + 1) = (x.length : Int) + 1 := by rw [IntKind.wrap_i64]; omega
  go_enter Tryz.func146, Tryz.ntmps146
  go_wp2
  go_ret
  exact ⟨rfl, rfl⟩

theorem takes_mem {l : List It} {k : Nat} {x : It} (h : l[k]? = some x) : takes (l.take k) + x.length + 1 ≤ takes l := by
  have h1 := takes_take_le l (k + 1)
  rw [takes_next h] at h1
  exact h1

set_option maxRecDepth 100000 in
set_option maxHeartbeats 4000000 in
theorem coming1_in (n : Nat) (hn : 1 ≤ n) (lo hi m l B1 B2 u len cap : Nat) (ao : Option Addr) (zs : List It) (hreach : len ≤ 1000000) (hsum : u + takes zs ≤ 1000000) (J Jx : List (It × Nat) → World → Prop)
    (W : World) (_hmW : m ≤ W.heap.size) (hJ : AbidesFrom W.heap.size J)
    (hY : ∀ pre x W, J pre W → pre.length < (prs u zs).length → YieldAt Fence.wide (n - 1) Tryz.prog l (prv x) W fun e W' => ∃ g, e = .returned (.bool g) ∧ ToldR J Jx pre x lo hi m W W' g)
    (hB1 : W.cell? ⟨B1, 2, none⟩ = some (.int .i64 (u : Int))) (hB2 : W.cell? ⟨B2, 0, none⟩ = some (.slice ao len cap))
    (hL : Txs W ao len cap zs) (hb : 0 < len → ∀ a, ao = some a → a.block < m ∧ (a.block < lo ∨ hi ≤ a.block))
    (h0 : J [] W) :
    CallsIn Fence.wide n Tryz.prog 145 #[.func (.yield l) #[] #[], .pointer (some ⟨B1, 0, none⟩), .pointer (some ⟨B2, 0, none⟩)] W fun e W' => (∃ v, e = .returned v) ∧
      ((∃ ys, ys = prs u zs ∧ J ys W') ∨ (∃ pre, pre <+: prs u zs ∧ Jx pre W')) := by
  refine callsIn_of_wp Tryz.func145 rfl trivial ?_ rfl
  simp only [Tryz.ntmps145, List.size_toArray, List.length_cons, List.length_nil, Nat.reduceAdd, Nat.reduceSub, Array.replicate_succ, Array.replicate_zero, List.push_toArray, List.append_toArray, List.nil_append, List.cons_append]
  have HLN := Lib.hid hL.hlen
  have HL := Lib.hid hL
  have HB := Lib.hid hb
  clear hL hb
  have HJ0 := Lib.hid hJ
  have HY := Lib.hid hY
  clear hJ hY
  gi_wp2
  gi_loopw [4, 11] (fun s i wr => ∃ k t : Nat, k ≤ len ∧ i = .int .i64 k ∧ s = .int .i64 (t : Int) ∧ t = u + takes (zs.take k) ∧ Hid (J ((prs u zs).take k) wr) ∧ KR lo hi m W wr)
    (fun _ i _ => len - (intOf i).toNat)
  case atStart => exact ⟨0, u, Nat.zero_le _, rfl, rfl, (by simp [takes]), by rw [List.take_zero]; exact h0, KR.refl _ _ _ _⟩
  case round =>
    obtain ⟨k, t, hk, rfl, rfl, ht, HJ, hnx⟩ := hrel
    have hsz := hnx.1
    by_cases hlt : k < len
    · obtain ⟨x, hx⟩ : ∃ x, zs[k]? = some x := ⟨_, List.getElem?_eq_getElem (by rw [HLN.out]; exact hlt)⟩
      obtain ⟨b, off, rfl, hbW, hcs⟩ := HL.out.at (by omega)
      have hbm := HB.out (by omega) _ rfl
      have q0 := hnx.cell (hcs k x hx) hbm.1 hbm.2
      have htm := takes_mem hx
      have htn := takes_next hx
      have hpn := prs_next (u := u) hx
      have hpl : ((prs u zs).take k).length < (prs u zs).length := by rw [List.length_take, prs_length, HLN.out]; omega
      have hxl : x.length ≤ 1000000 := by omega
      have htx : t + x.length + 1 ≤ 1000000 := by omega
      obtain ⟨t', ht'⟩ : ∃ t', t + x.length + 1 = t' := ⟨_, rfl⟩
      have hw : IntKind.i64.wrap ((t : Int) + ((x.length : Int) + 1)) = (t' : Int) := by rw [IntKind.wrap_i64]; omega
      have HT := Lib.hid (And.intro ht (And.intro htn (And.intro hpn (And.intro hpl ht'))))
      have HNX := Lib.hid hnx
      have HC := Lib.hid (takes_any x hxl wr)
      clear hcs hx htm htn hpn hpl ht ht' hnx
      obtain ⟨fn, tmps, assign, body, hy, hR⟩ := HY.out _ (x, t') wr HJ.out HT.out.2.2.2.1
      simp only [prv] at hy
      gi_wp2_with (refine ⟨trivial, ?_⟩; gi_at_call 146; refine (callsIn_wide.2 HC.out).mono ?_)
      refine hR.mono ?_
      rintro e W3 ⟨g, rfl, htold⟩
      have hS : (prs u zs).take (k + 1) = (prs u zs).take k ++ [(x, t')] := by
        rw [HT.out.2.2.1, ← HT.out.2.2.2.2, HT.out.1]
      cases g with
      | true =>
        obtain ⟨hJ3, hk3⟩ := htold.1 rfl
        have hw3 := HNX.out.trans hk3
        have HJ3 := Lib.hid hJ3
        have HS := Lib.hid hS
        clear htold hR hy hJ3 hS
        gi_wp2
        go_roundw
        case rel => exact ⟨k + 1, t', by omega, by simp, rfl, by rw [HT.out.2.1, ← HT.out.2.2.2.2, HT.out.1]; omega, by rw [HS.out]; exact HJ3.out, hw3⟩
        case measure => simp [intOf]; omega
      | false =>
        have hx3 := Lib.hid (htold.2 rfl)
        have HS := Lib.hid hS
        clear htold hR hy hS
        gi_wp2
        refine bodyPost_ret (results_none rfl _ _ _) rfl ?_
        exact ⟨⟨_, rfl⟩, .inr ⟨_, by rw [← HS.out]; exact List.take_prefix _ _, hx3.out⟩⟩
    · obtain rfl : k = len := by omega
      gi_wp2
      go_end0
      exact ⟨⟨_, rfl⟩, .inl ⟨_, rfl, by have := HJ.out; rw [List.take_of_length_le (by rw [prs_length, HLN.out]; exact Nat.le_refl _)] at this; exact this⟩⟩

theorem coming_stops (n : Nat) (hn : 1 ≤ n) (lo hi m B1 B2 u len cap : Nat) (ao : Option Addr) (zs : List It) (hreach : len ≤ 1000000) (hsum : u + takes zs ≤ 1000000) (w : World) (hm : m ≤ w.heap.size)
    (hB1 : w.cell? ⟨B1, 2, none⟩ = some (.int .i64 (u : Int))) (hB2 : w.cell? ⟨B2, 0, none⟩ = some (.slice ao len cap))
    (hL : Txs w ao len cap zs) (hb : 0 < len → ∀ a, ao = some a → a.block < m ∧ (a.block < lo ∨ hi ≤ a.block)) :
    SeqStopsK Fence.wide n Tryz.prog 145 #[.pointer (some ⟨B1, 0, none⟩), .pointer (some ⟨B2, 0, none⟩)] prv (KR lo hi m) (fun ys => ys = prs u zs) (fun pre => pre <+: prs u zs) (prs u zs).length w := fun l J Jx W hW hJ hJx hY h0 => by
  refine (coming1_in n hn lo hi m l B1 B2 u len cap ao zs hreach hsum J Jx W (Nat.le_trans hm hW.size) hJ ?_ (cell_later hW hB1) (cell_later hW hB2) (hL.more hW) hb h0).mono ?_
  · intro pre x W1 hp hlt
    refine (hY pre x W1 hp hlt).mono ?_
    rintro e W' (⟨rfl, h1, h2⟩ | ⟨rfl, h1⟩)
    · exact ⟨true, rfl, fun _ => ⟨h1, h2⟩, fun h => by cases h⟩
    · exact ⟨false, rfl, fun h => (by cases h), fun _ => h1⟩
  · rintro e W' ⟨he, ⟨ys, hys, hj⟩ | ⟨pre, hp, hj⟩⟩
    · exact ⟨he, .inl ⟨ys, hys, hj⟩⟩
    · exact ⟨he, .inr ⟨pre, hp, hj⟩⟩

set_option maxHeartbeats 1000000 in
theorem coming_any (v0 v1 v2 : Value) (_h0 : v0.oneCell' = true) (_h1 : v1.oneCell' = true) (_h2 : v2.oneCell' = true) (ao : Option Addr) (len cap : Nat) (w : World) :
    Calls Tryz.prog 134 #[.agg #[v0, v1, v2], .slice ao len cap] w fun e w' => e = .returned (.func (.func 145) #[] #[.pointer (some ⟨w.heap.size, 0, none⟩), .pointer (some ⟨w.heap.size + 1, 0, none⟩)]) ∧ (w.alloc (.cells #[v0, v1, v2] 146)).alloc (.cells #[.slice ao len cap] 31) = w' := by
  go_enter Tryz.func134, Tryz.ntmps134
  go_wp2
  go_ret
  exact ⟨rfl, rfl⟩

end Go.Proofs.YtnbpfbmhheimbaaGreatDoor

/- room: how many of the items can be put in, and why no more. -/
namespace Go.Proofs.Rng
/-- Can it be put in? -/
def fitP (m : Int) (p : It × Nat) : Bool := decide (p.1.length ≤ 200) && decide ((p.2 : Int) ≤ m)
/-- What is used behind them. -/
def lastU (u : Nat) (pre : List (It × Nat)) : Nat := match pre.getLast? with
  | none => u
  | some x => x.2
theorem lastU_snoc (u : Nat) (pre : List (It × Nat)) (x : It × Nat) : lastU u (pre ++ [x]) = x.2 := by simp [lastU]
theorem lastU_nil (u : Nat) : lastU u [] = u := rfl
theorem lastU_prs {u k : Nat} {zs : List It} (hk : k ≤ zs.length) : lastU u ((prs u zs).take k) = u + takes (zs.take k) := by
  cases k with
  | zero => simp [lastU, takes]
  | succ k =>
    obtain ⟨x, hx⟩ : ∃ x, zs[k]? = some x := ⟨_, List.getElem?_eq_getElem (by omega)⟩
    rw [prs_next hx, lastU_snoc, takes_next hx]
    omega
theorem fit_prs {m : Int} {u k : Nat} {zs : List It} {x : It} (_hx : zs[k]? = some x) : fitP m (x, u + takes (zs.take k) + x.length + 1) = fitsB m (u + takes (zs.take k)) x := rfl
theorem fitK_of {m : Int} {u k : Nat} {zs : List It} (h : ∀ p ∈ (prs u zs).take k, fitP m p = true) : FitK m u zs k := fun j x hj hx => by
  rw [← fit_prs hx]
  refine h _ (List.mem_iff_getElem?.2 ⟨j, ?_⟩)
  rw [List.getElem?_take, if_pos hj]
  exact prs_get hx
theorem pr_all {m : Int} {u : Nat} {zs : List It} (h : ∀ p ∈ prs u zs, fitP m p = true) : roomN m u zs = zs.length ∧ roomE m u zs = 0 ∧ lastU u (prs u zs) = u + takes zs := by
  have h1 := room_all (fitK_of (k := zs.length) (m := m) (u := u) (fun p hp => h p (List.mem_of_mem_take hp)))
  refine ⟨h1.1, h1.2, ?_⟩
  have := lastU_prs (u := u) (zs := zs) (Nat.le_refl _)
  rw [List.take_of_length_le (by rw [prs_length]; exact Nat.le_refl _), List.take_of_length_le (Nat.le_refl _)] at this
  exact this
theorem pr_stop {m : Int} {u : Nat} {zs : List It} {pre : List (It × Nat)} {x : It × Nat} (hp : pre ++ [x] <+: prs u zs) (h : ∀ p ∈ pre, fitP m p = true) (hx : fitP m x = false) : roomN m u zs = pre.length ∧ (roomE m u zs = if 200 < x.1.length then 1 else 2) ∧ lastU u pre = u + takes (zs.take (roomN m u zs)) := by
  obtain ⟨t, ht⟩ := hp
  have hlen : pre.length < zs.length := by rw [← prs_length u zs, ← ht]; simp
  have e1 : (prs u zs).take pre.length = pre := by rw [← ht, List.append_assoc, List.take_left]
  obtain ⟨y, hy⟩ : ∃ y, zs[pre.length]? = some y := ⟨_, List.getElem?_eq_getElem hlen⟩
  have e2 := prs_get (u := u) hy
  rw [← ht] at e2
  simp at e2
  subst e2
  have hs := room_stop (fitK_of (k := pre.length) (m := m) (u := u) (zs := zs) (by rw [e1]; exact h)) hy (by rw [← fit_prs hy]; exact hx)
  refine ⟨hs.1, hs.2, ?_⟩
  rw [hs.1, ← lastU_prs (Nat.le_of_lt hlen), e1]
end Go.Proofs.Rng
namespace Go.Proofs.YtnbpfbmhheimbaaGreatDoor
open Go.RowKit Go.Proofs.Fld Go.Proofs.Rng Go.Shelf Go.Sort

attribute [local go_sem] Oper.semAt_some

/-- A scope that no goto leaves, at the wide fence. -/
theorem wpIn_scope_wide {n : Nat} {P : Program} {c : Code} {Q : Exit → Act → World → Prop} {a : Act} {w : World} (h : c.wpIn Fence.wide n P (Exit.noGoto Q) a w) : (Code.scope c).wpIn Fence.wide n P Q a w :=
  wpIn_wide.2 (wp_scope_straight (wpIn_wide.1 h))
theorem boxed_keep {A B : World} {row : Option Nat} {b : Nat} {t : TypeId} {v : Value} (h : Boxed A b t v) (hg : A.grownBy B row) (hr : ∀ r, row = some r → ∃ o : Obj, A.heap[r]? = some o ∧ o.isCells = false) : Boxed B b t v :=
  h.kept hg fun e => by
    obtain ⟨o, ho, hc⟩ := hr b e.symm
    rw [show A.heap[b]? = _ from h] at ho
    cases ho
    cases hc
theorem boxed_put {W : World} {b D : Nat} {t : TypeId} {v : Value} {o : Obj} (o' : Obj) (h : Boxed W b t v) (hD : W.heap[D]? = some o) (ho : o.isCells = false) : Boxed (W.putObj D o') b t v :=
  boxed_keep h (grownBy_putObj' W D o') (fun r e => by cases e; exact ⟨o, hD, ho⟩)
theorem boxed_more {A B : World} {b : Nat} {t : TypeId} {v : Value} (h : Boxed A b t v) (k : Below A.heap.size A B) : Boxed B b t v := (k.block b h.lt).trans h
theorem boxed_other {W : World} {b b' : Nat} {t : TypeId} {v x : Value} (h : Boxed W b t v) (hne : b ≠ b') : Boxed (W.setCell ⟨b', 0, none⟩ x) b t v := (Below.heap_setCell _ _ _ _ (fun e => hne e)).trans h

/-- What room tells. -/
def RoomP (s : Sn) (m : Int) (u : Nat) (zs : List It) (w : World) (e : Ending) (w' : World) : Prop :=
  ∃ v t, ErrIs s v (roomE m u zs) ∧ t = u + takes (zs.take (roomN m u zs)) ∧ e = .returned (.tuple #[.int .i64 (roomN m u zs : Int), .int .i64 (t : Int), v]) ∧ Below w.heap.size w w'

/-- room between two rounds: the blocks of n, of what is used, of the error. -/
def RmI (s : Sn) (w : World) (m : Int) (u bn bm be : Nat) (pre : List (It × Nat)) (W : World) : Prop :=
  (Boxed W bn 3 (.int .i64 (pre.length : Int)) ∧ Boxed W bm 3 (.int .i64 (lastU u pre : Int)) ∧ Boxed W be 59 .nilIface ∧ W.cell? ⟨w.heap.size, 0, none⟩ = some (.int .i64 m) ∧ Sent s W ∧ (∀ p ∈ pre, fitP m p = true) ∧ w.heap.size + 6 ≤ W.heap.size) ∧ Below w.heap.size w W
/-- .. when a round has left. -/
def RmX (s : Sn) (w : World) (m : Int) (u bn bm be : Nat) (c : Code) (pre : List (It × Nat)) (W : World) : Prop :=
  (c = .exit 0 ∧ ∃ p x v, pre = p ++ [x] ∧ (∀ y ∈ p, fitP m y = true) ∧ fitP m x = false ∧ ErrIs s v (if 200 < x.1.length then 1 else 2) ∧ Boxed W bn 3 (.int .i64 (p.length : Int)) ∧ Boxed W bm 3 (.int .i64 (lastU u p : Int)) ∧ Boxed W be 59 v) ∧ Below w.heap.size w W

theorem Sent.set_own {s : Sn} {w A : World} {X : Nat} {v : Value} (h : Sent s A) (hb : Sent s w ∧ Below w.heap.size w A) (hX : w.heap.size ≤ X) : Sent s (A.setCell ⟨X, 0, none⟩ v) := by
  have _ := h
  exact hb.1.more (hb.2.setCell (p := ⟨X, 0, none⟩) hX _)
theorem RmI.own {s : Sn} {w : World} {m : Int} {u bn bm be n0 : Nat} (hs : Sent s w) (hn : w.heap.size ≤ n0) : OwnFrom n0 (RmI s w m u bn bm be) := by
  rintro pre A B row ⟨⟨b0, b1, b2, q0, _, hp, hz⟩, hB⟩ hg hr
  have hb := ownFrom_below (β := List (It × Nat)) (n₀ := w.heap.size) (w₀ := w) (Nat.le_refl _) hn pre A B row hB hg hr
  exact ⟨⟨boxed_keep b0 hg (fun r e => (hr r e).2), boxed_keep b1 hg (fun r e => (hr r e).2), boxed_keep b2 hg (fun r e => (hr r e).2), cell_kept q0 hg (fun r e => (hr r e).2), hs.more hb, hp, Nat.le_trans hz hg.size⟩, hb⟩
theorem RmX.own {s : Sn} {w : World} {m : Int} {u bn bm be n0 : Nat} {c : Code} (hn : w.heap.size ≤ n0) : OwnFrom n0 (RmX s w m u bn bm be c) := by
  rintro pre A B row ⟨⟨hc, p, x, v, e1, e2, e3, e4, b0, b1, b2⟩, hB⟩ hg hr
  have hb := ownFrom_below (β := List (It × Nat)) (n₀ := w.heap.size) (w₀ := w) (Nat.le_refl _) hn pre A B row hB hg hr
  exact ⟨⟨hc, p, x, v, e1, e2, e3, e4, boxed_keep b0 hg (fun r e => (hr r e).2), boxed_keep b1 hg (fun r e => (hr r e).2), boxed_keep b2 hg (fun r e => (hr r e).2)⟩, hb⟩
theorem heap_drewN (W : World) (k : Nat) : (W.drewN k).heap = W.heap := by simp
/-- The iterator, and what its boxes hold. -/
def ComingP (u : Nat) (ao : Option Addr) (len cap : Nat) (w : World) (e : Ending) (w' : World) : Prop :=
  e = .returned (.func (.func 145) #[] #[.pointer (some ⟨w.heap.size, 0, none⟩), .pointer (some ⟨w.heap.size + 1, 0, none⟩)]) ∧ w'.cell? ⟨w.heap.size, 2, none⟩ = some (.int .i64 (u : Int)) ∧ w'.cell? ⟨w.heap.size + 1, 0, none⟩ = some (.slice ao len cap) ∧ w'.heap.size = w.heap.size + 2 ∧ Below w.heap.size w w'
theorem comingP (v0 v1 : Value) (u : Nat) (h0 : v0.oneCell' = true) (h1 : v1.oneCell' = true) (ao : Option Addr) (len cap : Nat) (w : World) :
    Calls Tryz.prog 134 #[.agg #[v0, v1, .int .i64 (u : Int)], .slice ao len cap] w (ComingP u ao len cap w) := by
  refine (coming_any v0 v1 (.int .i64 (u : Int)) h0 h1 rfl ao len cap w).mono ?_
  rintro e w' ⟨rfl, rfl⟩
  refine ⟨rfl, ?_, ?_, ?_, ?_⟩
  · go_simp
  · go_simp
  · simp
  · exact (Below.new w _).alloc (by simp) _
theorem Txs.apart3 {w W : World} {ao : Option Addr} {len cap : Nat} {zs : List It} (h : Txs w ao len cap zs) (k : Below w.heap.size w W) {lo hi : Nat} (hX : w.heap.size ≤ lo) : 0 < len → ∀ a, ao = some a → a.block < W.heap.size ∧ (a.block < lo ∨ hi ≤ a.block) := by
  intro hp a e
  obtain ⟨b, off, e', hb, _⟩ := h.at hp
  rw [e] at e'
  obtain rfl := Option.some.inj e'
  have := k.size
  exact ⟨Nat.lt_of_lt_of_le hb this, .inl (Nat.lt_of_lt_of_le hb hX)⟩

set_option maxRecDepth 100000 in
set_option maxHeartbeats 4000000 in
theorem room_in (n : Nat) (hn : 3 ≤ n) (s : Sn) (m : Int) (u : Nat) (vL : Value) (hvL : vL.oneCell' = true) (ao : Option Addr) (len cap : Nat) (zs : List It) (hreach : len ≤ 1000000) (hsum : u + takes zs ≤ 1000000) (w : World) (hL : Txs w ao len cap zs) (hs : Sent s w) :
    CallsIn Fence.wide n Tryz.prog 117 #[.agg #[.int .i64 m, vL, .int .i64 (u : Int)], .slice ao len cap] w (RoomP s m u zs w) := by
  have hn1 : 1 ≤ n := by omega
  refine callsIn_of_wp_marks Tryz.func117 rfl trivial ?_ rfl
  simp only [Tryz.ntmps117, List.size_toArray, List.length_cons, List.length_nil, Nat.reduceAdd, Nat.reduceSub, Array.replicate_succ, Array.replicate_zero, List.push_toArray, List.append_toArray, List.nil_append, List.cons_append]
  have HL := Lib.hid hL
  have HS := Lib.hid hs
  clear hL hs
  gi_wp2
  refine wpIn_scope_wide ?_
  gi_wp2
  refine wpIn_wide.2 ?_
  go_region
  · have hB1 : Below w.heap.size w ((((w.alloc (.cells #[.int .i64 m, vL, .int .i64 (u : Int)] 146)).alloc (.cells #[.int .i64 0] 3)).alloc (.cells #[.int .i64 (u : Int)] 3)).drew) := (((Below.new w _).alloc (by simp) _).alloc (by simp; omega) _).drew
    have x1 : Boxed ((((w.alloc (.cells #[.int .i64 m, vL, .int .i64 (u : Int)] 146)).alloc (.cells #[.int .i64 0] 3)).alloc (.cells #[.int .i64 (u : Int)] 3)).drew) (w.heap.size + 1) 3 (.int .i64 0) := by
      have := (Boxed.new (w.alloc (.cells #[.int .i64 m, vL, .int .i64 (u : Int)] 146)) 3 (.int .i64 0)).alloc (.cells #[.int .i64 (u : Int)] 3)
      rw [World.size_alloc] at this
      exact this
    have x2 : Boxed ((((w.alloc (.cells #[.int .i64 m, vL, .int .i64 (u : Int)] 146)).alloc (.cells #[.int .i64 0] 3)).alloc (.cells #[.int .i64 (u : Int)] 3)).drew) (w.heap.size + 1 + 1) 3 (.int .i64 (u : Int)) := by
      have := Boxed.new ((w.alloc (.cells #[.int .i64 m, vL, .int .i64 (u : Int)] 146)).alloc (.cells #[.int .i64 0] 3)) 3 (.int .i64 (u : Int))
      rw [World.size_alloc, World.size_alloc] at this
      exact this
    have c0 : ((((w.alloc (.cells #[.int .i64 m, vL, .int .i64 (u : Int)] 146)).alloc (.cells #[.int .i64 0] 3)).alloc (.cells #[.int .i64 (u : Int)] 3)).drew).cell? ⟨w.heap.size, 0, none⟩ = some (.int .i64 m) := by rw [World.cell?_drew]; go_simp
    have c1 : ((((w.alloc (.cells #[.int .i64 m, vL, .int .i64 (u : Int)] 146)).alloc (.cells #[.int .i64 0] 3)).alloc (.cells #[.int .i64 (u : Int)] 3)).drew).cell? ⟨w.heap.size, 1, none⟩ = some vL := by rw [World.cell?_drew]; go_simp
    have c2 : ((((w.alloc (.cells #[.int .i64 m, vL, .int .i64 (u : Int)] 146)).alloc (.cells #[.int .i64 0] 3)).alloc (.cells #[.int .i64 (u : Int)] 3)).drew).cell? ⟨w.heap.size, 2, none⟩ = some (.int .i64 (u : Int)) := by rw [World.cell?_drew]; go_simp
    have hz1 : ((((w.alloc (.cells #[.int .i64 m, vL, .int .i64 (u : Int)] 146)).alloc (.cells #[.int .i64 0] 3)).alloc (.cells #[.int .i64 (u : Int)] 3)).drew).heap.size = w.heap.size + 3 := by simp [World.drew]
    obtain ⟨W1, hW1⟩ : ∃ W1, ((((w.alloc (.cells #[.int .i64 m, vL, .int .i64 (u : Int)] 146)).alloc (.cells #[.int .i64 0] 3)).alloc (.cells #[.int .i64 (u : Int)] 3)).drew) = W1 := ⟨_, rfl⟩
    rw [hW1] at hB1 x1 x2 c0 c1 c2 hz1
    have hB2 := Below.new W1 (.cells #[.nilIface] 59)
    have d0 := cell_later hB2 c0
    have d1 := cell_later hB2 c1
    have d2 := cell_later hB2 c2
    have x3 : Boxed (W1.alloc (.cells #[.nilIface] 59)) (w.heap.size + 3) 59 .nilIface := by
      have := Boxed.new W1 59 .nilIface
      rw [hz1] at this
      exact this
    have hz2 : (W1.alloc (.cells #[.nilIface] 59)).heap.size = w.heap.size + 4 := by rw [World.size_alloc, hz1]
    obtain ⟨W2, hW2⟩ : ∃ W2, W1.alloc (.cells #[.nilIface] 59) = W2 := ⟨_, rfl⟩
    have x1' := boxed_more x1 hB2
    have x2' := boxed_more x2 hB2
    have hB3 := below_more hB1 hB2
    rw [hW2] at d0 d1 d2 x3 hz2 x1' x2' hB3
    have HX := Lib.hid (And.intro x1' (And.intro x2' (And.intro x3 (And.intro hz2 hB3))))
    clear hB1 x1 x2 hB2 x1' x2' x3 hB3 c0 c1 c2
    gi_wp2
    refine wpIn_label ?_
    gi_wp2_with (refine ⟨trivial, ?_⟩; gi_at_call 134; refine (callsIn_wide.2 (comingP (.int .i64 m) vL u rfl hvL ao len cap W2)).mono ?_)
    rintro e W0 ⟨rfl, e1, e2, hz0, hb0⟩
    rw [HX.out.2.2.2.1] at e1 e2 hz0
    rw [HX.out.2.2.2.1]
    have HA := Lib.hid (And.intro e1 (And.intro e2 (And.intro hz0 (And.intro (below_more HX.out.2.2.2.2 hb0) (And.intro (boxed_more HX.out.1 hb0) (And.intro (boxed_more HX.out.2.1 hb0) (And.intro (boxed_more HX.out.2.2.1 hb0) (cell_later hb0 d0))))))))
    clear e1 e2 hb0 d0 d1 d2 HX
    gi_wp2
    refine wpIn_rangeFunc_ownG rfl hn1 (gf := 145) (lb := #[.pointer (some ⟨w.heap.size + 4, 0, none⟩), .pointer (some ⟨w.heap.size + 4 + 1, 0, none⟩)]) rfl trivial (enters_of Tryz.func145 (by kernel_rfl) rfl)
      (coming_stops (n - 1) (by omega) (w.heap.size + 1) (w.heap.size + 4) W0.heap.size _ _ u len cap ao zs hreach hsum W0 (Nat.le_refl _) HA.out.1 HA.out.2.1 (HL.out.more HA.out.2.2.2.1) (HL.out.apart3 HA.out.2.2.2.1 (by omega))) KR.trans (krK_b (Nat.le_refl _)) (Below.refl _ _) (fun _ => rfl)
      (RmI s w m u (w.heap.size + 1) (w.heap.size + 1 + 1) (w.heap.size + 3)) (RmX s w m u (w.heap.size + 1) (w.heap.size + 1 + 1) (w.heap.size + 3)) ?hI ?hIx ?h0
      (fun x => { tmps := #[.agg #[.int .i64 m, vL, .int .i64 (u : Int)], .slice ao len cap, .pointer (some ⟨w.heap.size, 0, none⟩), undef, .int .i64 0, .int .i64 0, .nilIface, .pointer (some ⟨w.heap.size + 1, 0, none⟩), .pointer (some ⟨w.heap.size + 1 + 1, 0, none⟩), .pointer (some ⟨w.heap.size + 3, 0, none⟩), .string (bs x.1), .int .i64 (x.2 : Int), .pointer (some ⟨w.heap.size, 2, none⟩), .int .i64 (u : Int), .agg #[.int .i64 m, vL, .int .i64 (u : Int)], .slice ao len cap, .func (.func 145) #[] #[.pointer (some ⟨w.heap.size + 4, 0, none⟩), .pointer (some ⟨w.heap.size + 4 + 1, 0, none⟩)], .string (bs x.1), .int .i64 (x.2 : Int), undef, undef, undef, undef, undef, undef, undef, undef, undef, undef, undef, undef, undef, undef, undef, undef, undef, undef], defers := [] })
      ?assign ?body ?done ?stop
    case hI => exact RmI.own HS.out HA.out.2.2.2.1.size
    case hIx => intro c; exact RmX.own HA.out.2.2.2.1.size
    case h0 => exact ⟨⟨HA.out.2.2.2.2.1, HA.out.2.2.2.2.2.1, HA.out.2.2.2.2.2.2.1, HA.out.2.2.2.2.2.2.2, HS.out.more HA.out.2.2.2.1, (fun y hy => by cases hy), by have := HA.out.2.2.1; omega⟩, HA.out.2.2.2.1⟩
    case assign =>
      intro l x W K hK
      have HK := Lib.hid hK
      clear hK
      simp only [prv]
      gi_wp2
      exact HK.out
    case body =>
      rintro l pre x W ⟨⟨b0, b1, b2, q0, hsW, hp, hz⟩, hB⟩ hlt
      rw [prs_length, HL.out.hlen] at hlt
      have f0 := b0.frozen
      have f1 := b1.frozen
      have f2 := b2.frozen
      have g0 := b0.cell
      have g1 := b1.cell
      have g2 := b2.cell
      have k0 := hsW.cw
      have k1 := hsW.cf
      have hsx := bs_size x.1
      have HP := Lib.hid (And.intro b0 (And.intro b1 (And.intro b2 (And.intro hsW (And.intro hp (And.intro hB q0))))))
      clear b0 b1 b2 hsW hp hB
      by_cases h1 : 200 < x.1.length
      · have hd : decide ((x.1.length : Int) > 200) = true := decide_eq_true (by omega)
        have hfx : fitP m x = false := by unfold fitP; rw [decide_eq_false (by omega)]; rfl
        have HF := Lib.hid hfx
        clear hfx
        gi_wp2
        refine ⟨(KeepsOthers.setCell _ _ _).from _, ⟨rfl, pre, x, _, rfl, HP.out.2.2.2.2.1, HF.out, ?_, boxed_other HP.out.1 (by omega), boxed_other HP.out.2.1 (by omega), HP.out.2.2.1.set _⟩, HP.out.2.2.2.2.2.1.setCell (p := ⟨w.heap.size + 3, 0, none⟩) (by simp) _⟩
        rw [if_pos h1]
        exact .wrong
      · have hd : decide ((x.1.length : Int) > 200) = false := decide_eq_false (by omega)
        by_cases h2 : m < (x.2 : Int)
        · have hd2 : decide ((x.2 : Int) > m) = true := decide_eq_true (by omega)
          have hfx : fitP m x = false := by unfold fitP; rw [decide_eq_false (p := (x.2 : Int) ≤ m) (by omega), Bool.and_false]
          have HF := Lib.hid hfx
          clear hfx
          gi_wp2
          refine ⟨(KeepsOthers.setCell _ _ _).from _, ⟨rfl, pre, x, _, rfl, HP.out.2.2.2.2.1, HF.out, ?_, boxed_other HP.out.1 (by omega), boxed_other HP.out.2.1 (by omega), HP.out.2.2.1.set _⟩, HP.out.2.2.2.2.2.1.setCell (p := ⟨w.heap.size + 3, 0, none⟩) (by simp) _⟩
          rw [if_neg h1]
          exact .full
        · have hd2 : decide ((x.2 : Int) > m) = false := decide_eq_false (by omega)
          have hfx : fitP m x = true := by unfold fitP; rw [decide_eq_true (p := (x.2 : Int) ≤ m) (by omega), decide_eq_true (by omega)]; rfl
          have hwr : IntKind.i64.wrap ((pre.length : Int) + 1) = (pre.length : Int) + 1 := by rw [IntKind.wrap_i64]; omega
          have g3 : (W.setCell ⟨w.heap.size + 1, 0, none⟩ (.int .i64 ((pre.length : Int) + 1))).cell? ⟨w.heap.size + 1 + 1, 0, none⟩ = some (.int .i64 (lastU u pre : Int)) := setO g1 (ne_blk (by omega))
          have f3 : (W.setCell ⟨w.heap.size + 1, 0, none⟩ (.int .i64 ((pre.length : Int) + 1))).frozen? ⟨w.heap.size + 1 + 1, 0, none⟩ = false := setF f1
          have HF := Lib.hid hfx
          clear hfx
          gi_wp2
          refine ⟨((KeepsOthers.setCell _ _ _).trans (KeepsOthers.setCell _ _ _)).from _, (KR.set _ _ _ _ (by omega) (by omega)).trans (KR.set _ _ _ _ (by omega) (by omega)), ⟨?_, ?_, boxed_other (boxed_other HP.out.2.2.1 (by omega)) (by omega), setO (setO HP.out.2.2.2.2.2.2 (ne_blk (by omega))) (ne_blk (by omega)), (HP.out.2.2.2.1.set_own (X := w.heap.size + 1) (w := w) ?_ (by omega)).set_own (X := w.heap.size + 1 + 1) (w := w) ?_ (by omega), ?_, ?_⟩, (HP.out.2.2.2.2.2.1.setCell (p := ⟨w.heap.size + 1, 0, none⟩) (by simp; try omega) _).setCell (p := ⟨w.heap.size + 1 + 1, 0, none⟩) (by simp; try omega) _⟩
          · have := boxed_other (b' := w.heap.size + 1 + 1) (x := .int .i64 (x.2 : Int)) (HP.out.1.set (.int .i64 ((pre.length : Int) + 1))) (by omega)
            simpa using this
          · rw [lastU_snoc]
            exact (boxed_other HP.out.2.1 (by omega)).set _
          · exact ⟨HS.out, HP.out.2.2.2.2.2.1⟩
          · exact ⟨HS.out, HP.out.2.2.2.2.2.1.setCell (p := ⟨w.heap.size + 1, 0, none⟩) (by simp; try omega) _⟩
          · intro y hy
            rcases List.mem_append.1 hy with h | h
            · exact HP.out.2.2.2.2.1 y h
            · obtain rfl : y = x := by simpa using h
              exact HF.out
          · simp [World.setCell]
            omega
    case done =>
      rintro D ys W hD rfl ⟨⟨b0, b1, b2, q0, hsW, hp, hz⟩, hB⟩ hK
      have hpa := pr_all hp
      obtain ⟨t, ht⟩ : ∃ t, u + takes zs = t := ⟨_, rfl⟩
      rw [hpa.2.2, ht] at b1
      rw [prs_length] at b0
      have g0 := b0.cell
      have g1 := b1.cell
      have g2 := b2.cell
      have HU := Lib.hid (And.intro hpa.1 (And.intro hpa.2.1 (And.intro hB (And.intro hK ht))))
      clear hpa ht hp hB hK b0 b1 b2 hsW
      have hD2 : w.heap.size ≤ D := by have := HA.out.2.2.1; omega
      gi_wp2
      refine wpIn_wide.2 ?_
      go_quiet (fail)
      gi_wp2
      rw [Exit.noGoto_ret]
      refine ⟨by simp, .inl ⟨_, _, rfl, run_takeDeferred (by rw [heap_drewN]; exact HU.out.2.2.2.1), ?_⟩⟩
      refine ⟨.tuple #[.int .i64 (zs.length : Int), .int .i64 (t : Int), .nilIface], by simp [results, Tryz.results117, go_sem], .nilIface, t, by rw [HU.out.2.1]; exact .ok, ?_, ?_, ?_⟩
      · rw [HU.out.1, List.take_of_length_le (Nat.le_refl _)]
        exact HU.out.2.2.2.2.symm
      · rw [HU.out.1]
      · exact (below_drewN HU.out.2.2.1 _).trans (belowK_b (w := w) (Nat.le_refl _) _ D _ _ hD2 (by rw [heap_drewN]; exact HU.out.2.2.2.1) rfl rfl)
    case stop =>
      rintro D c pre W hD hpre ⟨⟨rfl, p, x, v, rfl, hp, hxa, hv, b0, b1, b2⟩, hB⟩ hK
      have hps := pr_stop hpre hp hxa
      obtain ⟨t, ht⟩ : ∃ t, u + takes (zs.take (roomN m u zs)) = t := ⟨_, rfl⟩
      rw [hps.2.2, ht] at b1
      have g0 := b0.cell
      have g1 := b1.cell
      have g2 := b2.cell
      have HU := Lib.hid (And.intro hps.1 (And.intro hps.2.1 (And.intro hB (And.intro hK (And.intro hv ht)))))
      clear hps ht hp hB hK b0 b1 b2 hpre hxa hv
      have hD2 : w.heap.size ≤ D := by have := HA.out.2.2.1; omega
      gi_wp2
      refine wpIn_wide.2 ?_
      go_quiet (fail)
      gi_wp2
      rw [Exit.noGoto_ret]
      refine ⟨by simp, .inl ⟨_, _, rfl, run_takeDeferred (by rw [heap_drewN]; exact HU.out.2.2.2.1), ?_⟩⟩
      refine ⟨.tuple #[.int .i64 (p.length : Int), .int .i64 (t : Int), v], by simp [results, Tryz.results117, go_sem], v, t, by rw [HU.out.2.1]; exact HU.out.2.2.2.2.1, HU.out.2.2.2.2.2.symm, ?_, ?_⟩
      · rw [HU.out.1]
      · exact (below_drewN HU.out.2.2.1 _).trans (belowK_b (w := w) (Nat.le_refl _) _ D _ _ hD2 (by rw [heap_drewN]; exact HU.out.2.2.2.1) rfl rfl)
  · have hB1 : Below w.heap.size w ((((w.alloc (.cells #[.int .i64 m, vL, .int .i64 (u : Int)] 146)).alloc (.cells #[.int .i64 (u : Int)] 3)).alloc (.cells #[.int .i64 0] 3)).drew) := (((Below.new w _).alloc (by simp) _).alloc (by simp; omega) _).drew
    have x1 : Boxed ((((w.alloc (.cells #[.int .i64 m, vL, .int .i64 (u : Int)] 146)).alloc (.cells #[.int .i64 (u : Int)] 3)).alloc (.cells #[.int .i64 0] 3)).drew) (w.heap.size + 1) 3 (.int .i64 (u : Int)) := by
      have := (Boxed.new (w.alloc (.cells #[.int .i64 m, vL, .int .i64 (u : Int)] 146)) 3 (.int .i64 (u : Int))).alloc (.cells #[.int .i64 0] 3)
      rw [World.size_alloc] at this
      exact this
    have x2 : Boxed ((((w.alloc (.cells #[.int .i64 m, vL, .int .i64 (u : Int)] 146)).alloc (.cells #[.int .i64 (u : Int)] 3)).alloc (.cells #[.int .i64 0] 3)).drew) (w.heap.size + 1 + 1) 3 (.int .i64 0) := by
      have := Boxed.new ((w.alloc (.cells #[.int .i64 m, vL, .int .i64 (u : Int)] 146)).alloc (.cells #[.int .i64 (u : Int)] 3)) 3 (.int .i64 0)
      rw [World.size_alloc, World.size_alloc] at this
      exact this
    have c0 : ((((w.alloc (.cells #[.int .i64 m, vL, .int .i64 (u : Int)] 146)).alloc (.cells #[.int .i64 (u : Int)] 3)).alloc (.cells #[.int .i64 0] 3)).drew).cell? ⟨w.heap.size, 0, none⟩ = some (.int .i64 m) := by rw [World.cell?_drew]; go_simp
    have c1 : ((((w.alloc (.cells #[.int .i64 m, vL, .int .i64 (u : Int)] 146)).alloc (.cells #[.int .i64 (u : Int)] 3)).alloc (.cells #[.int .i64 0] 3)).drew).cell? ⟨w.heap.size, 1, none⟩ = some vL := by rw [World.cell?_drew]; go_simp
    have c2 : ((((w.alloc (.cells #[.int .i64 m, vL, .int .i64 (u : Int)] 146)).alloc (.cells #[.int .i64 (u : Int)] 3)).alloc (.cells #[.int .i64 0] 3)).drew).cell? ⟨w.heap.size, 2, none⟩ = some (.int .i64 (u : Int)) := by rw [World.cell?_drew]; go_simp
    have hz1 : ((((w.alloc (.cells #[.int .i64 m, vL, .int .i64 (u : Int)] 146)).alloc (.cells #[.int .i64 (u : Int)] 3)).alloc (.cells #[.int .i64 0] 3)).drew).heap.size = w.heap.size + 3 := by simp [World.drew]
    obtain ⟨W1, hW1⟩ : ∃ W1, ((((w.alloc (.cells #[.int .i64 m, vL, .int .i64 (u : Int)] 146)).alloc (.cells #[.int .i64 (u : Int)] 3)).alloc (.cells #[.int .i64 0] 3)).drew) = W1 := ⟨_, rfl⟩
    rw [hW1] at hB1 x1 x2 c0 c1 c2 hz1
    have hB2 := Below.new W1 (.cells #[.nilIface] 59)
    have d0 := cell_later hB2 c0
    have d1 := cell_later hB2 c1
    have d2 := cell_later hB2 c2
    have x3 : Boxed (W1.alloc (.cells #[.nilIface] 59)) (w.heap.size + 3) 59 .nilIface := by
      have := Boxed.new W1 59 .nilIface
      rw [hz1] at this
      exact this
    have hz2 : (W1.alloc (.cells #[.nilIface] 59)).heap.size = w.heap.size + 4 := by rw [World.size_alloc, hz1]
    obtain ⟨W2, hW2⟩ : ∃ W2, W1.alloc (.cells #[.nilIface] 59) = W2 := ⟨_, rfl⟩
    have x1' := boxed_more x1 hB2
    have x2' := boxed_more x2 hB2
    have hB3 := below_more hB1 hB2
    rw [hW2] at d0 d1 d2 x3 hz2 x1' x2' hB3
    have HX := Lib.hid (And.intro x1' (And.intro x2' (And.intro x3 (And.intro hz2 hB3))))
    clear hB1 x1 x2 hB2 x1' x2' x3 hB3 c0 c1 c2
    gi_wp2
    refine wpIn_label ?_
    gi_wp2_with (refine ⟨trivial, ?_⟩; gi_at_call 134; refine (callsIn_wide.2 (comingP (.int .i64 m) vL u rfl hvL ao len cap W2)).mono ?_)
    rintro e W0 ⟨rfl, e1, e2, hz0, hb0⟩
    rw [HX.out.2.2.2.1] at e1 e2 hz0
    rw [HX.out.2.2.2.1]
    have HA := Lib.hid (And.intro e1 (And.intro e2 (And.intro hz0 (And.intro (below_more HX.out.2.2.2.2 hb0) (And.intro (boxed_more HX.out.1 hb0) (And.intro (boxed_more HX.out.2.1 hb0) (And.intro (boxed_more HX.out.2.2.1 hb0) (cell_later hb0 d0))))))))
    clear e1 e2 hb0 d0 d1 d2 HX
    gi_wp2
    refine wpIn_rangeFunc_ownG rfl hn1 (gf := 145) (lb := #[.pointer (some ⟨w.heap.size + 4, 0, none⟩), .pointer (some ⟨w.heap.size + 4 + 1, 0, none⟩)]) rfl trivial (enters_of Tryz.func145 (by kernel_rfl) rfl)
      (coming_stops (n - 1) (by omega) (w.heap.size + 1) (w.heap.size + 4) W0.heap.size _ _ u len cap ao zs hreach hsum W0 (Nat.le_refl _) HA.out.1 HA.out.2.1 (HL.out.more HA.out.2.2.2.1) (HL.out.apart3 HA.out.2.2.2.1 (by omega))) KR.trans (krK_b (Nat.le_refl _)) (Below.refl _ _) (fun _ => rfl)
      (RmI s w m u (w.heap.size + 1 + 1) (w.heap.size + 1) (w.heap.size + 3)) (RmX s w m u (w.heap.size + 1 + 1) (w.heap.size + 1) (w.heap.size + 3)) ?hI ?hIx ?h0
      (fun x => { tmps := #[.agg #[.int .i64 m, vL, .int .i64 (u : Int)], .slice ao len cap, .pointer (some ⟨w.heap.size, 0, none⟩), undef, .int .i64 0, .int .i64 0, .nilIface, .pointer (some ⟨w.heap.size + 1 + 1, 0, none⟩), .pointer (some ⟨w.heap.size + 1, 0, none⟩), .pointer (some ⟨w.heap.size + 3, 0, none⟩), .string (bs x.1), .int .i64 (x.2 : Int), .pointer (some ⟨w.heap.size, 2, none⟩), .int .i64 (u : Int), .agg #[.int .i64 m, vL, .int .i64 (u : Int)], .slice ao len cap, .func (.func 145) #[] #[.pointer (some ⟨w.heap.size + 4, 0, none⟩), .pointer (some ⟨w.heap.size + 4 + 1, 0, none⟩)], .string (bs x.1), .int .i64 (x.2 : Int), undef, undef, undef, undef, undef, undef, undef, undef, undef, undef, undef, undef, undef, undef, undef, undef, undef, undef], defers := [] })
      ?assign ?body ?done ?stop
    case hI => exact RmI.own HS.out HA.out.2.2.2.1.size
    case hIx => intro c; exact RmX.own HA.out.2.2.2.1.size
    case h0 => exact ⟨⟨HA.out.2.2.2.2.2.1, HA.out.2.2.2.2.1, HA.out.2.2.2.2.2.2.1, HA.out.2.2.2.2.2.2.2, HS.out.more HA.out.2.2.2.1, (fun y hy => by cases hy), by have := HA.out.2.2.1; omega⟩, HA.out.2.2.2.1⟩
    case assign =>
      intro l x W K hK
      have HK := Lib.hid hK
      clear hK
      simp only [prv]
      gi_wp2
      exact HK.out
    case body =>
      rintro l pre x W ⟨⟨b0, b1, b2, q0, hsW, hp, hz⟩, hB⟩ hlt
      rw [prs_length, HL.out.hlen] at hlt
      have f0 := b0.frozen
      have f1 := b1.frozen
      have f2 := b2.frozen
      have g0 := b0.cell
      have g1 := b1.cell
      have g2 := b2.cell
      have k0 := hsW.cw
      have k1 := hsW.cf
      have hsx := bs_size x.1
      have HP := Lib.hid (And.intro b0 (And.intro b1 (And.intro b2 (And.intro hsW (And.intro hp (And.intro hB q0))))))
      clear b0 b1 b2 hsW hp hB
      by_cases h1 : 200 < x.1.length
      · have hd : decide ((x.1.length : Int) > 200) = true := decide_eq_true (by omega)
        have hfx : fitP m x = false := by unfold fitP; rw [decide_eq_false (by omega)]; rfl
        have HF := Lib.hid hfx
        clear hfx
        gi_wp2
        refine ⟨(KeepsOthers.setCell _ _ _).from _, ⟨rfl, pre, x, _, rfl, HP.out.2.2.2.2.1, HF.out, ?_, boxed_other HP.out.1 (by omega), boxed_other HP.out.2.1 (by omega), HP.out.2.2.1.set _⟩, HP.out.2.2.2.2.2.1.setCell (p := ⟨w.heap.size + 3, 0, none⟩) (by simp) _⟩
        rw [if_pos h1]
        exact .wrong
      · have hd : decide ((x.1.length : Int) > 200) = false := decide_eq_false (by omega)
        by_cases h2 : m < (x.2 : Int)
        · have hd2 : decide ((x.2 : Int) > m) = true := decide_eq_true (by omega)
          have hfx : fitP m x = false := by unfold fitP; rw [decide_eq_false (p := (x.2 : Int) ≤ m) (by omega), Bool.and_false]
          have HF := Lib.hid hfx
          clear hfx
          gi_wp2
          refine ⟨(KeepsOthers.setCell _ _ _).from _, ⟨rfl, pre, x, _, rfl, HP.out.2.2.2.2.1, HF.out, ?_, boxed_other HP.out.1 (by omega), boxed_other HP.out.2.1 (by omega), HP.out.2.2.1.set _⟩, HP.out.2.2.2.2.2.1.setCell (p := ⟨w.heap.size + 3, 0, none⟩) (by simp) _⟩
          rw [if_neg h1]
          exact .full
        · have hd2 : decide ((x.2 : Int) > m) = false := decide_eq_false (by omega)
          have hfx : fitP m x = true := by unfold fitP; rw [decide_eq_true (p := (x.2 : Int) ≤ m) (by omega), decide_eq_true (by omega)]; rfl
          have hwr : IntKind.i64.wrap ((pre.length : Int) + 1) = (pre.length : Int) + 1 := by rw [IntKind.wrap_i64]; omega
          have g3 : (W.setCell ⟨w.heap.size + 1 + 1, 0, none⟩ (.int .i64 ((pre.length : Int) + 1))).cell? ⟨w.heap.size + 1, 0, none⟩ = some (.int .i64 (lastU u pre : Int)) := setO g1 (ne_blk (by omega))
          have f3 : (W.setCell ⟨w.heap.size + 1 + 1, 0, none⟩ (.int .i64 ((pre.length : Int) + 1))).frozen? ⟨w.heap.size + 1, 0, none⟩ = false := setF f1
          have HF := Lib.hid hfx
          clear hfx
          gi_wp2
          refine ⟨((KeepsOthers.setCell _ _ _).trans (KeepsOthers.setCell _ _ _)).from _, (KR.set _ _ _ _ (by omega) (by omega)).trans (KR.set _ _ _ _ (by omega) (by omega)), ⟨?_, ?_, boxed_other (boxed_other HP.out.2.2.1 (by omega)) (by omega), setO (setO HP.out.2.2.2.2.2.2 (ne_blk (by omega))) (ne_blk (by omega)), (HP.out.2.2.2.1.set_own (X := w.heap.size + 1 + 1) (w := w) ?_ (by omega)).set_own (X := w.heap.size + 1) (w := w) ?_ (by omega), ?_, ?_⟩, (HP.out.2.2.2.2.2.1.setCell (p := ⟨w.heap.size + 1 + 1, 0, none⟩) (by simp; try omega) _).setCell (p := ⟨w.heap.size + 1, 0, none⟩) (by simp; try omega) _⟩
          · have := boxed_other (b' := w.heap.size + 1) (x := .int .i64 (x.2 : Int)) (HP.out.1.set (.int .i64 ((pre.length : Int) + 1))) (by omega)
            simpa using this
          · rw [lastU_snoc]
            exact (boxed_other HP.out.2.1 (by omega)).set _
          · exact ⟨HS.out, HP.out.2.2.2.2.2.1⟩
          · exact ⟨HS.out, HP.out.2.2.2.2.2.1.setCell (p := ⟨w.heap.size + 1 + 1, 0, none⟩) (by simp; try omega) _⟩
          · intro y hy
            rcases List.mem_append.1 hy with h | h
            · exact HP.out.2.2.2.2.1 y h
            · obtain rfl : y = x := by simpa using h
              exact HF.out
          · simp [World.setCell]
            omega
    case done =>
      rintro D ys W hD rfl ⟨⟨b0, b1, b2, q0, hsW, hp, hz⟩, hB⟩ hK
      have hpa := pr_all hp
      obtain ⟨t, ht⟩ : ∃ t, u + takes zs = t := ⟨_, rfl⟩
      rw [hpa.2.2, ht] at b1
      rw [prs_length] at b0
      have g0 := b0.cell
      have g1 := b1.cell
      have g2 := b2.cell
      have HU := Lib.hid (And.intro hpa.1 (And.intro hpa.2.1 (And.intro hB (And.intro hK ht))))
      clear hpa ht hp hB hK b0 b1 b2 hsW
      have hD2 : w.heap.size ≤ D := by have := HA.out.2.2.1; omega
      gi_wp2
      refine wpIn_wide.2 ?_
      go_quiet (fail)
      gi_wp2
      rw [Exit.noGoto_ret]
      refine ⟨by simp, .inl ⟨_, _, rfl, run_takeDeferred (by rw [heap_drewN]; exact HU.out.2.2.2.1), ?_⟩⟩
      refine ⟨.tuple #[.int .i64 (zs.length : Int), .int .i64 (t : Int), .nilIface], by simp [results, Tryz.results117, go_sem], .nilIface, t, by rw [HU.out.2.1]; exact .ok, ?_, ?_, ?_⟩
      · rw [HU.out.1, List.take_of_length_le (Nat.le_refl _)]
        exact HU.out.2.2.2.2.symm
      · rw [HU.out.1]
      · exact (below_drewN HU.out.2.2.1 _).trans (belowK_b (w := w) (Nat.le_refl _) _ D _ _ hD2 (by rw [heap_drewN]; exact HU.out.2.2.2.1) rfl rfl)
    case stop =>
      rintro D c pre W hD hpre ⟨⟨rfl, p, x, v, rfl, hp, hxa, hv, b0, b1, b2⟩, hB⟩ hK
      have hps := pr_stop hpre hp hxa
      obtain ⟨t, ht⟩ : ∃ t, u + takes (zs.take (roomN m u zs)) = t := ⟨_, rfl⟩
      rw [hps.2.2, ht] at b1
      have g0 := b0.cell
      have g1 := b1.cell
      have g2 := b2.cell
      have HU := Lib.hid (And.intro hps.1 (And.intro hps.2.1 (And.intro hB (And.intro hK (And.intro hv ht)))))
      clear hps ht hp hB hK b0 b1 b2 hpre hxa hv
      have hD2 : w.heap.size ≤ D := by have := HA.out.2.2.1; omega
      gi_wp2
      refine wpIn_wide.2 ?_
      go_quiet (fail)
      gi_wp2
      rw [Exit.noGoto_ret]
      refine ⟨by simp, .inl ⟨_, _, rfl, run_takeDeferred (by rw [heap_drewN]; exact HU.out.2.2.2.1), ?_⟩⟩
      refine ⟨.tuple #[.int .i64 (p.length : Int), .int .i64 (t : Int), v], by simp [results, Tryz.results117, go_sem], v, t, by rw [HU.out.2.1]; exact HU.out.2.2.2.2.1, HU.out.2.2.2.2.2.symm, ?_, ?_⟩
      · rw [HU.out.1]
      · exact (below_drewN HU.out.2.2.1 _).trans (belowK_b (w := w) (Nat.le_refl _) _ D _ _ hD2 (by rw [heap_drewN]; exact HU.out.2.2.2.1) rfl rfl)

end Go.Proofs.YtnbpfbmhheimbaaGreatDoor

/- open: a ring that is right, and what its items take; Right, Used, New. -/
namespace Go.Proofs.YtnbpfbmhheimbaaGreatDoor
open Go.RowKit Go.Proofs.Fld Go.Proofs.Rng Go.Shelf Go.Sort

/-- A struct of two cells. -/
structure R2 (W : World) (b : Nat) (u x : Value) : Prop where
  c0 : W.cell? ⟨b, 0, none⟩ = some u
  c1 : W.cell? ⟨b, 1, none⟩ = some x
  f0 : W.frozen? ⟨b, 0, none⟩ = false
  f1 : W.frozen? ⟨b, 1, none⟩ = false
theorem R2.lt {W : World} {b : Nat} {u x : Value} (h : R2 W b u x) : b < W.heap.size := World.block_lt_of_cell? W _ h.c0
theorem R2.more {W W' : World} {b : Nat} {u x : Value} (h : R2 W b u x) (hb : Below W.heap.size W W') : R2 W' b u x :=
  ⟨cell_later hb h.c0, cell_later hb h.c1, (hb.frozen (p := ⟨b, 0, none⟩) h.lt).trans h.f0, (hb.frozen (p := ⟨b, 1, none⟩) h.lt).trans h.f1⟩
theorem R2.new (W : World) (u x : Value) (T : TypeId) : R2 (W.alloc (.cells #[u, x] T)) W.heap.size u x := ⟨by simp, by simp, by simp, by simp⟩
theorem R2.set {W : World} {b : Nat} {u x : Value} (h : R2 W b u x) (u' x' : Value) : R2 ((W.setCell ⟨b, 0, none⟩ u').setCell ⟨b, 1, none⟩ x') b u' x' :=
  ⟨setO (setS _ h.c0) (ne_off (by omega)), setS _ (setO h.c1 (ne_off (by omega))), setF (setF h.f0), setF (setF h.f1)⟩
theorem set2O {W : World} {b B o : Nat} {v u x : Value} (h : W.cell? ⟨B, o, none⟩ = some v) (hne : b ≠ B) : ((W.setCell ⟨b, 0, none⟩ u).setCell ⟨b, 1, none⟩ x).cell? ⟨B, o, none⟩ = some v := setO (setO h (ne_blk hne)) (ne_blk hne)
theorem set2B {n : Nat} {w W : World} (h : Below n w W) {b : Nat} (hb : n ≤ b) (u x : Value) : Below n w ((W.setCell ⟨b, 0, none⟩ u).setCell ⟨b, 1, none⟩ x) := (h.setCell (p := ⟨b, 0, none⟩) hb _).setCell (p := ⟨b, 1, none⟩) hb _
/-- A struct of three cells. -/
structure R3 (W : World) (b : Nat) (u x y : Value) : Prop where
  c0 : W.cell? ⟨b, 0, none⟩ = some u
  c1 : W.cell? ⟨b, 1, none⟩ = some x
  c2 : W.cell? ⟨b, 2, none⟩ = some y
  f0 : W.frozen? ⟨b, 0, none⟩ = false
  f1 : W.frozen? ⟨b, 1, none⟩ = false
  f2 : W.frozen? ⟨b, 2, none⟩ = false
theorem R3.lt {W : World} {b : Nat} {u x y : Value} (h : R3 W b u x y) : b < W.heap.size := World.block_lt_of_cell? W _ h.c0
theorem R3.more {W W' : World} {b : Nat} {u x y : Value} (h : R3 W b u x y) (hb : Below W.heap.size W W') : R3 W' b u x y :=
  ⟨cell_later hb h.c0, cell_later hb h.c1, cell_later hb h.c2, (hb.frozen (p := ⟨b, 0, none⟩) h.lt).trans h.f0, (hb.frozen (p := ⟨b, 1, none⟩) h.lt).trans h.f1, (hb.frozen (p := ⟨b, 2, none⟩) h.lt).trans h.f2⟩
theorem R3.new (W : World) (u x y : Value) (T : TypeId) : R3 (W.alloc (.cells #[u, x, y] T)) W.heap.size u x y := ⟨by simp, by simp, by simp, by simp, by simp, by simp⟩
theorem R3.set {W : World} {b : Nat} {u x y : Value} (h : R3 W b u x y) (u' x' y' : Value) : R3 (((W.setCell ⟨b, 0, none⟩ u').setCell ⟨b, 1, none⟩ x').setCell ⟨b, 2, none⟩ y') b u' x' y' :=
  ⟨setO (setO (setS _ h.c0) (ne_off (by omega))) (ne_off (by omega)), setO (setS _ (setO h.c1 (ne_off (by omega)))) (ne_off (by omega)), setS _ (setO (setO h.c2 (ne_off (by omega))) (ne_off (by omega))), setF (setF (setF h.f0)), setF (setF (setF h.f1)), setF (setF (setF h.f2))⟩
theorem set3O {W : World} {b B o : Nat} {v u x y : Value} (h : W.cell? ⟨B, o, none⟩ = some v) (hne : b ≠ B) : (((W.setCell ⟨b, 0, none⟩ u).setCell ⟨b, 1, none⟩ x).setCell ⟨b, 2, none⟩ y).cell? ⟨B, o, none⟩ = some v :=
  setO (setO (setO h (ne_blk hne)) (ne_blk hne)) (ne_blk hne)
theorem set3B {n : Nat} {w W : World} (h : Below n w W) {b : Nat} (hb : n ≤ b) (u x y : Value) : Below n w (((W.setCell ⟨b, 0, none⟩ u).setCell ⟨b, 1, none⟩ x).setCell ⟨b, 2, none⟩ y) :=
  ((h.setCell (p := ⟨b, 0, none⟩) hb _).setCell (p := ⟨b, 1, none⟩) hb _).setCell (p := ⟨b, 2, none⟩) hb _

/-- What open tells. -/
def OpenP (s : Sn) (m : Int) (ao : Option Addr) (len cap : Nat) (zs : List It) (w : World) (e : Ending) (w' : World) : Prop :=
  ((rightR m zs = true ∧ ∃ t : Nat, t = takes zs ∧ e = .returned (.tuple #[.agg #[.int .i64 m, .slice ao len cap, .int .i64 (t : Int)], .nilIface])) ∨ (rightR m zs = false ∧ e = .returned (.tuple #[.agg #[.int .i64 0, .slice none 0 0, .int .i64 0], .iface 207 (.pointer (some s.w))]))) ∧ Below w.heap.size w w'

theorem room0 (s : Sn) (m : Int) (ao : Option Addr) (len cap : Nat) (zs : List It) (hreach : len ≤ 1000000) (hsum : takes zs ≤ 1000000) (w : World) (hL : Txs w ao len cap zs) (hs : Sent s w) :
    Calls Tryz.prog 117 #[.agg #[.int .i64 m, .slice none 0 0, .int .i64 0], .slice ao len cap] w (RoomP s m 0 zs w) :=
  callsIn_wide.1 (room_in 3 (Nat.le_refl _) s m 0 (.slice none 0 0) rfl ao len cap zs hreach (by omega) w hL hs)
theorem neq_err (a : Addr) (w : World) : (binOp .neq 59 (.iface 207 (.pointer (some a))) .nilIface).run Tryz.prog w = .ok (.bool true) w := by
  simp [go_sem]
theorem eql_err (a : Addr) (w : World) : (binOp .eql 59 (.iface 207 (.pointer (some a))) .nilIface).run Tryz.prog w = .ok (.bool false) w := by
  simp [go_sem]

set_option maxRecDepth 100000 in
set_option maxHeartbeats 4000000 in
theorem open_any (s : Sn) (m : Int) (ao : Option Addr) (len cap : Nat) (zs : List It) (hreach : len ≤ 1000000) (hsum : takes zs ≤ 1000000) (w : World) (hL : Txs w ao len cap zs) (hs : Sent s w) :
    Calls Tryz.prog 116 #[.agg #[.int .i64 m, .slice ao len cap]] w (OpenP s m ao len cap zs w) := by
  have hB1 := Below.new w (.cells #[.int .i64 m, .slice ao len cap] 53)
  have hB2 := below_more hB1 (Below.new _ (.cells #[.int .i64 0, .slice none 0 0, .int .i64 0] 146))
  have r1 := (R2.new w (.int .i64 m) (.slice ao len cap) 53).more (Below.new _ (.cells #[.int .i64 0, .slice none 0 0, .int .i64 0] 146))
  have r2 := R3.new (w.alloc (.cells #[.int .i64 m, .slice ao len cap] 53)) (.int .i64 0) (.slice none 0 0) (.int .i64 0) 146
  rw [World.size_alloc] at r2
  obtain ⟨W0, hW0⟩ : ∃ W0, (w.alloc (.cells #[.int .i64 m, .slice ao len cap] 53)).alloc (.cells #[.int .i64 0, .slice none 0 0, .int .i64 0] 146) = W0 := ⟨_, rfl⟩
  rw [hW0] at hB2 r1 r2
  have HL := Lib.hid (hL.more hB2)
  have HS := Lib.hid (hs.more hB2)
  have HB := Lib.hid hB2
  have hgl := World.block_lt_of_cell? _ _ hs.cw
  simp only at hgl
  clear hB1 hB2 hL hs
  by_cases hm : m < 0 ∨ 2000 < m
  · have hR : rightR m zs = false := by
      cases e : rightR m zs
      · rfl
      · have := rightR_iff.1 e; omega
    obtain ⟨c0, c1, _, _⟩ := r1
    have k0 := HS.out.cw
    have r3 := r2.set (.int .i64 0) (.slice none 0 0) (.int .i64 0)
    obtain ⟨y0, y1, y2, _, _, _⟩ := r3
    obtain ⟨d0, d1, d2, f0, f1, f2⟩ := r2
    have z2 : ∀ u x y, (((W0.setCell ⟨w.heap.size + 1, 0, none⟩ u).setCell ⟨w.heap.size + 1, 1, none⟩ x).setCell ⟨w.heap.size + 1, 2, none⟩ y).cell? ⟨1, 0, none⟩ = some (.iface 207 (.pointer (some s.w))) := fun u x y => set3O k0 (by omega)
    have YB := Lib.hid (set3B HB.out (b := w.heap.size + 1) (by omega) (.int .i64 0) (.slice none 0 0) (.int .i64 0))
    have HR := Lib.hid hR
    clear hR hgl
    rcases hm with h1 | h1
    · go_enter Tryz.func116, Tryz.ntmps116
      go_wp2
      go_region_held3 (fun w' => w'.cell? ⟨1, 0, none⟩ = some (.iface 207 (.pointer (some s.w))))
        (first | (simp only [World.cell?_drew, k0, z2]; done)) (fail)
      all_goals go_wp2
      all_goals
        generalize hW : (((W0.setCell ⟨w.heap.size + 1, 0, none⟩ (.int .i64 0)).setCell ⟨w.heap.size + 1, 1, none⟩ (.slice none 0 0)).setCell ⟨w.heap.size + 1, 2, none⟩ (.int .i64 0)) = WF at y0 y1 y2 YB ⊢
        refine bodyPost_ret (v := .tuple #[.agg #[.int .i64 0, .slice none 0 0, .int .i64 0], .iface 207 (.pointer (some s.w))]) (by simp [results, Tryz.results116, go_sem, y0, y1, y2]) rfl ?_
        exact ⟨.inr ⟨HR.out, rfl⟩, YB.out.drew⟩
    · have h0 : ¬ m < 0 := by omega
      go_enter Tryz.func116, Tryz.ntmps116
      go_wp2
      go_region_held3 (fun w' => w'.cell? ⟨1, 0, none⟩ = some (.iface 207 (.pointer (some s.w))))
        (first | (simp only [World.cell?_drew, k0, z2]; done)) (fail)
      all_goals go_wp2
      all_goals
        generalize hW : (((W0.setCell ⟨w.heap.size + 1, 0, none⟩ (.int .i64 0)).setCell ⟨w.heap.size + 1, 1, none⟩ (.slice none 0 0)).setCell ⟨w.heap.size + 1, 2, none⟩ (.int .i64 0)) = WF at y0 y1 y2 YB ⊢
        refine bodyPost_ret (v := .tuple #[.agg #[.int .i64 0, .slice none 0 0, .int .i64 0], .iface 207 (.pointer (some s.w))]) (by simp [results, Tryz.results116, go_sem, y0, y1, y2]) rfl ?_
        exact ⟨.inr ⟨HR.out, rfl⟩, YB.out.drew⟩
  · have h0 : ¬ m < 0 := by omega
    have h1 : ¬ m > 2000 := by omega
    have hR := right_room (m := m) (l := zs) (by omega) (by omega)
    obtain ⟨c0, c1, _, _⟩ := id r1
    have HR1 := Lib.hid (And.intro r1 r2)
    have HR := Lib.hid hR
    clear r1 r2 hR
    go_enter Tryz.func116, Tryz.ntmps116
    go_wp2_with (go_at_call 117; refine (room0 s m ao len cap zs hreach hsum W0 HL.out HS.out).mono ?_)
    rintro e w1 ⟨v, t, hv, ht, rfl, hb1⟩
    have HB1 := Lib.hid (below_more HB.out hb1)
    have HQ := Lib.hid (And.intro (HR1.out.1.more hb1) (HR1.out.2.more hb1))
    have k0 := (HS.out.more hb1).cw
    clear hb1 c0 c1
    obtain ⟨en, hen⟩ : ∃ en, roomE m 0 zs = en := ⟨_, rfl⟩
    rw [hen] at hv HR
    by_cases hz : en = 0
    · subst hz
      have hfull := room_full hen
      cases hv
      have ht' : t = takes zs := by rw [ht, hfull, List.take_of_length_le (Nat.le_refl _), Nat.zero_add]
      have HT := Lib.hid ht'
      obtain ⟨c0, c1, _, _⟩ := HQ.out.1
      obtain ⟨y0, y1, y2, _, _, _⟩ := HQ.out.2.set (.int .i64 m) (.slice ao len cap) (.int .i64 (t : Int))
      obtain ⟨d0, d1, d2, f0, f1, f2⟩ := HQ.out.2
      have YB := Lib.hid (set3B HB1.out (b := w.heap.size + 1) (by omega) (.int .i64 m) (.slice ao len cap) (.int .i64 (t : Int)))
      clear ht ht' hfull hen
      go_wp2
      generalize hW : (((w1.setCell ⟨w.heap.size + 1, 0, none⟩ (.int .i64 m)).setCell ⟨w.heap.size + 1, 1, none⟩ (.slice ao len cap)).setCell ⟨w.heap.size + 1, 2, none⟩ (.int .i64 (t : Int))) = WF at y0 y1 y2 YB ⊢
      refine bodyPost_ret (v := .tuple #[.agg #[.int .i64 m, .slice ao len cap, .int .i64 (t : Int)], .nilIface]) (by simp [results, Tryz.results116, go_sem, y0, y1, y2]) rfl ?_
      exact ⟨.inl ⟨by rw [HR.out]; rfl, t, HT.out, rfl⟩, YB.out⟩
    · have hR2 : rightR m zs = false := by rw [HR.out]; exact decide_eq_false hz
      have hve : ∃ a, v = .iface 207 (.pointer (some a)) := by
        cases hv
        · exact absurd rfl hz
        · exact ⟨_, rfl⟩
        · exact ⟨_, rfl⟩
        · exact ⟨_, rfl⟩
      obtain ⟨a, rfl⟩ := hve
      have HR2 := Lib.hid hR2
      have q1 := neq_err a
      obtain ⟨y0, y1, y2, _, _, _⟩ := HQ.out.2.set (.int .i64 0) (.slice none 0 0) (.int .i64 0)
      obtain ⟨d0, d1, d2, f0, f1, f2⟩ := HQ.out.2
      have z2 : ∀ u x y, (((w1.setCell ⟨w.heap.size + 1, 0, none⟩ u).setCell ⟨w.heap.size + 1, 1, none⟩ x).setCell ⟨w.heap.size + 1, 2, none⟩ y).cell? ⟨1, 0, none⟩ = some (.iface 207 (.pointer (some s.w))) := fun u x y => set3O k0 (by omega)
      have YB := Lib.hid (set3B HB1.out (b := w.heap.size + 1) (by omega) (.int .i64 0) (.slice none 0 0) (.int .i64 0))
      clear hv ht hen hR2 hgl
      go_wp2
      go_region_held3 (fun w' => w'.cell? ⟨1, 0, none⟩ = some (.iface 207 (.pointer (some s.w))))
        (first | (simp only [World.cell?_drew, k0, z2]; done)) (fail)
      all_goals go_wp2
      all_goals
        generalize hW : (((w1.setCell ⟨w.heap.size + 1, 0, none⟩ (.int .i64 0)).setCell ⟨w.heap.size + 1, 1, none⟩ (.slice none 0 0)).setCell ⟨w.heap.size + 1, 2, none⟩ (.int .i64 0)) = WF at y0 y1 y2 YB ⊢
        refine bodyPost_ret (v := .tuple #[.agg #[.int .i64 0, .slice none 0 0, .int .i64 0], .iface 207 (.pointer (some s.w))]) (by simp [results, Tryz.results116, go_sem, y0, y1, y2]) rfl ?_
        exact ⟨.inr ⟨HR2.out, rfl⟩, YB.out.drew⟩

end Go.Proofs.YtnbpfbmhheimbaaGreatDoor

/- with, rest: rings in new memory. -/
namespace Go.Proofs.YtnbpfbmhheimbaaGreatDoor
open Go.RowKit Go.Proofs.Fld Go.Proofs.Rng Go.Shelf Go.Sort

/-- What with tells: the ring, its row the call's own. -/
def WithP (m : Int) (l : List It) (k : Nat) (w : World) (e : Ending) (w' : World) : Prop :=
  ∃ va vc, e = .returned (.agg #[.int .i64 m, .slice va k vc]) ∧ OwnT w.heap.size w' (.slice va k vc) l ∧ Below w.heap.size w w'
theorem elemS : Tryz.prog.elem 31 = 9 := by kernel_rfl
theorem sizeS (w : World) : (sizeOf 9).run Tryz.prog w = .ok 1 w := by
  obtain ⟨i0, hi, hz0, hz1, hz2⟩ := info_parts infoS
  simp [sizeOf, typeInfo, hi, hz1]
theorem sizeInfoS : (Tryz.prog.info? 9).map (·.size) = some 1 := by kernel_rfl
theorem add_zero' (x : Addr) : x.add 0 = x := by simp [Addr.add]
/-- The address of what is behind e. -/
def fromA (ao : Option Addr) (e cap : Nat) : Option Addr := if cap = e then ao else ao.map (·.add e)
theorem slice_l (ao : Option Addr) (len cap e : Nat) (he : e ≤ len) (_hl : len ≤ cap) (W : World) : (Instr.slice 31 (.slice ao len cap) (some (.int .i64 (e : Int))) none none).run Tryz.prog W = .ok (.slice (fromA ao e cap) (len - e) (cap - e)) W := by
  rw [run_slice_l W _ ao len cap (by kernel_rfl) .i64 (e : Int) (by omega) (by omega), elemS, sizeS]
  simp only [Result.andThen, sliced, Int.toNat_natCast, fromA, Nat.mul_one]
theorem slice_lhm (ao : Option Addr) (len cap e : Nat) (he : e ≤ len) (hl : len ≤ cap) (W : World) : (Instr.slice 31 (.slice ao len cap) (some (.int .i64 (e : Int))) (some (.int .i64 (len : Int))) (some (.int .i64 (len : Int)))).run Tryz.prog W = .ok (.slice (fromA ao e len) (len - e) (len - e)) W := by
  rw [run_slice_lhm W _ ao len cap (by kernel_rfl) .i64 .i64 .i64 (e : Int) (len : Int) (len : Int) (by omega) (by omega) (by omega) (by omega), elemS, sizeS]
  simp only [Result.andThen, sliced, Int.toNat_natCast, fromA, Nat.mul_one]
theorem slice_hm (ao : Option Addr) (len cap k : Nat) (hk : k ≤ cap) (W : World) : (Instr.slice 31 (.slice ao len cap) none (some (.int .i64 (k : Int))) (some (.int .i64 (k : Int)))).run Tryz.prog W = .ok (.slice ao k k) W := by
  rw [run_slice_hm W _ ao len cap (by kernel_rfl) .i64 .i64 (k : Int) (k : Int) (by omega) (by omega) (by omega), elemS, sizeS]
  simp only [Result.andThen, sliced, Int.toNat_natCast, Nat.sub_zero, Nat.zero_mul]
  split
  · rfl
  · cases ao with
    | none => rfl
    | some x => simp [add_zero']
theorem Txs.from {W : World} {ao : Option Addr} {len cap : Nat} {zs : List It} (h : Txs W ao len cap zs) (e : Nat) (he : e ≤ len) : Txs W (fromA ao e len) (len - e) (len - e) (zs.drop e) := by
  have hm := h.hmax
  have hle := h.hle
  refine ⟨by rw [List.length_drop, h.hlen], Nat.le_refl _, by omega, fun q => ?_, fun x hx => h.hfits x (List.mem_of_mem_drop hx), fun hz => ?_⟩
  · unfold fromA at q
    by_cases e1 : len = e
    · omega
    · rw [if_neg e1] at q
      cases ao with
      | none => have := h.hnone rfl; omega
      | some x => simp at q
  · have hlt : e < len := by
      rcases Nat.lt_or_ge e len with q | q
      · exact q
      · exact absurd (List.drop_eq_nil_of_le (by rw [h.hlen]; exact q)) hz
    obtain ⟨b, off, rfl, hc⟩ := h.hcells (fun q => hz (by rw [q]; simp))
    refine ⟨b, off + e, ?_, fun j x hj => ?_⟩
    · unfold fromA
      rw [if_neg (by omega)]
      simp [add_at]
    · rw [List.getElem?_drop] at hj
      have := hc _ x hj
      rw [show off + e + j = off + (e + j) by omega]
      exact this
/-- The cells that a copy takes. -/
theorem Txs.src {W : World} {ao : Option Addr} {len cap : Nat} {zs : List It} (h : Txs W ao len cap zs) (hp : 0 < (tcl zs).length) : ∃ ad, ao = some ad ∧ ∀ j v, (tcl zs)[j]? = some v → W.cell? (ad.add j) = some v := by
  rw [tcl_length, h.hlen] at hp
  obtain ⟨b, off, e, _, _⟩ := h.at hp
  exact ⟨_, e, h.news _ e⟩
theorem splice_two {α : Type} (Z X Y : List α) (k : Nat) (hk : X.length = k) (hZ : Z.length = k + Y.length) : splice (splice Z 0 X) k Y = X ++ Y := by
  have e1 : splice Z 0 X = X ++ Z.drop X.length := by simp [splice]
  rw [e1]
  unfold splice
  subst hk
  have e2 : (X ++ Z.drop X.length).take X.length = X := by simp
  have e3 : (X ++ Z.drop X.length).drop (X.length + Y.length) = [] := by
    apply List.drop_eq_nil_of_le
    simp
    omega
  rw [e2, e3, List.append_nil]

set_option maxRecDepth 100000 in
set_option maxHeartbeats 4000000 in
theorem with_any (m : Int) (ao bo : Option Addr) (len cap k kc : Nat) (zs ys : List It) (u : Value) (_hu : u.oneCell' = true) (hr1 : len ≤ 1000000) (hr2 : k ≤ 1000000) (w : World) (hL : Txs w ao len cap zs) (hM : Txs w bo k kc ys) :
    Calls Tryz.prog 118 #[.agg #[.int .i64 m, .slice ao len cap, u], .slice bo k kc] w (WithP m (zs ++ ys) (len + k) w) := by
  have hB1 := Below.new w (.cells #[.int .i64 m, .slice ao len cap, u] 146)
  have hB2 := below_more hB1 (Below.new _ (.cells #[.int .i64 0, .slice none 0 0] 53))
  have r1 := (R3.new w (.int .i64 m) (.slice ao len cap) u 146).more (Below.new _ (.cells #[.int .i64 0, .slice none 0 0] 53))
  have r2 := R2.new (w.alloc (.cells #[.int .i64 m, .slice ao len cap, u] 146)) (.int .i64 0) (.slice none 0 0) 53
  rw [World.size_alloc] at r2
  have hz0 : ((w.alloc (.cells #[.int .i64 m, .slice ao len cap, u] 146)).alloc (.cells #[.int .i64 0, .slice none 0 0] 53)).heap.size = w.heap.size + 2 := by simp
  obtain ⟨W0, hW0⟩ : ∃ W0, (w.alloc (.cells #[.int .i64 m, .slice ao len cap, u] 146)).alloc (.cells #[.int .i64 0, .slice none 0 0] 53) = W0 := ⟨_, rfl⟩
  rw [hW0] at hB2 r1 r2 hz0
  obtain ⟨N, hN⟩ : ∃ N, len + k = N := ⟨_, rfl⟩
  have hwr : IntKind.i64.wrap ((len : Int) + (k : Int)) = (N : Int) := by rw [IntKind.wrap_i64]; omega
  have mk := run_make_row' (P := Tryz.prog) 31 9 (.string { data := #[] }) 16 Tryz.underlying31 infoS rfl .i64 .i64 N (by omega) (by omega)
  have HZ := size_madeCells #[.string { data := #[] }] N
  obtain ⟨Z, hZ⟩ : ∃ Z : List Value, madeCells #[.string { data := #[] }] N = Z.toArray := ⟨(madeCells #[.string { data := #[] }] N).toList, by simp⟩
  rw [hZ] at mk HZ
  rw [List.size_toArray] at HZ
  have sl := slice_l (some ⟨w.heap.size + 2, 0, none⟩) N N len (by omega) (Nat.le_refl _)
  rw [show N - len = k by omega] at sl
  have HA := Lib.hid (show 0 < k → fromA (some ⟨w.heap.size + 2, 0, none⟩) len N = some ⟨w.heap.size + 2, len, none⟩ from fun hk => by unfold fromA; rw [if_neg (by omega)]; simp [add_at])
  obtain ⟨A2, hA2⟩ : ∃ A2, fromA (some ⟨w.heap.size + 2, 0, none⟩) len N = A2 := ⟨_, rfl⟩
  rw [hA2] at sl HA
  obtain ⟨X1, hX1⟩ : ∃ X1, tcl zs = X1 := ⟨_, rfl⟩
  obtain ⟨X2, hX2⟩ : ∃ X2, tcl ys = X2 := ⟨_, rfl⟩
  have l1 : X1.length = len := by rw [← hX1, tcl_length, hL.hlen]
  have l2 : X2.length = k := by rw [← hX2, tcl_length, hM.hlen]
  have hBn := Below.new W0 (.cells Z.toArray 9)
  have hgn : (W0.alloc (.cells Z.toArray 9)).heap[w.heap.size + 2]? = some (.cells Z.toArray 9 (0, 0)) := by
    have := World.alloc_heap_new W0 (.cells Z.toArray 9)
    rw [hz0] at this
    exact this
  obtain ⟨W1, hW1⟩ : ∃ W1, W0.alloc (.cells Z.toArray 9) = W1 := ⟨_, rfl⟩
  rw [hW1] at hBn hgn
  have q1 := r1.more hBn
  have HX := Lib.hid (And.intro (hL.more hB2) (And.intro (hM.more hB2) (And.intro r1 (And.intro r2 (And.intro hB2 (And.intro hz0 (And.intro hX1 (And.intro hX2 (And.intro l1 (And.intro l2 (And.intro hN (And.intro hBn (And.intro hgn hW1)))))))))))))
  have hs1 := (hL.more hB2).more hBn
  have HQ := Lib.hid (And.intro (show X1.length = Nat.min len N by rw [l1]; exact (Nat.min_eq_left (by omega)).symm) (And.intro (show 0 < X1.length → (some ⟨w.heap.size + 2, 0, none⟩ : Option Addr) = some ⟨w.heap.size + 2, 0, none⟩ ∧ ∃ ad, ao = some ad ∧ ∀ j v, X1[j]? = some v → W1.cell? (ad.add j) = some v from fun hp => ⟨rfl, hX1 ▸ hs1.src (by rw [hX1]; exact hp)⟩) (And.intro (show 0 + X1.length ≤ Z.length by omega) (And.intro (show ∀ v ∈ X1, v.oneCell' = true from hX1 ▸ tcl_one zs) (And.intro (show X2.length = Nat.min k k by rw [l2]; exact (Nat.min_self k).symm) (And.intro (show len + X2.length ≤ (splice Z 0 X1).length by rw [length_splice _ _ _ (by omega)]; omega) (And.intro hX2 (And.intro l2 (show ∀ v ∈ X2, v.oneCell' = true from hX2 ▸ tcl_one ys)))))))))
  have HZ := Lib.hid HZ
  obtain ⟨c0, c1, c2, _, _, _⟩ := id r1
  obtain ⟨e0, e1, e2, _, _, _⟩ := q1
  clear hs1 hB1 hB2 r1 r2 hZ hA2 hX1 hX2 l1 l2 hL hM hBn hgn
  go_enter Tryz.func118, Tryz.ntmps118
  go_wp2_with (with_reducible refine wpList_copy_splice rfl (.tmp 15) (.tmp 18) 31 31 rfl 9 Tryz.underlying31 sizeInfoS (some ⟨w.heap.size + 2, 0, none⟩) ao N N len cap rfl rfl (w.heap.size + 2) 0 Z 9 HX.out.2.2.2.2.2.2.2.2.2.2.2.2.1 X1 (HQ.out.1) HQ.out.2.1 HQ.out.2.2.1 HQ.out.2.2.2.1 W0.heap.size W0 HX.out.2.2.2.2.2.2.2.2.2.2.2.1 (Nat.le_of_eq HX.out.2.2.2.2.2.1) ?_)
  intro w2 HG2 hb2
  replace hb2 : Below W0.heap.size W0 w2 := by rw [hz0]; exact hb2
  obtain ⟨e0, e1, e2, _, _, _⟩ := HX.out.2.2.1.more hb2
  have HB2 := Lib.hid hb2
  have HM2 := Lib.hid (HX.out.2.1.more hb2)
  clear hb2
  have HP2 := Lib.hid (show 0 < X2.length → A2 = some ⟨w.heap.size + 2, len, none⟩ ∧ ∃ ad, bo = some ad ∧ ∀ j v, X2[j]? = some v → w2.cell? (ad.add j) = some v from fun hp => ⟨HA.out (by rw [← HQ.out.2.2.2.2.2.2.2.1]; exact hp), by
    have := HM2.out.src (by rw [HQ.out.2.2.2.2.2.2.1]; exact hp)
    rw [HQ.out.2.2.2.2.2.2.1] at this
    exact this⟩)
  have hxl := HX.out.2.2.2.2.2.2.2.2.1
  rw [hxl]
  clear hxl
  go_wp2_with (with_reducible refine wpList_copy_splice rfl (.tmp 22) (.tmp 23) 31 31 rfl 9 Tryz.underlying31 sizeInfoS A2 bo k k k kc rfl rfl (w.heap.size + 2) len (splice Z 0 X1) 9 HG2.out X2 HQ.out.2.2.2.2.1 HP2.out HQ.out.2.2.2.2.2.1 HQ.out.2.2.2.2.2.2.2.2 W0.heap.size W0 HB2.out (Nat.le_of_eq HX.out.2.2.2.2.2.1) ?_)
  intro w3 HG3 hb3
  replace hb3 : Below W0.heap.size W0 w3 := by rw [hz0]; exact hb3
  obtain ⟨e0, e1, e2, _, _, _⟩ := HX.out.2.2.1.more hb3
  obtain ⟨y0, y1, _, _⟩ := (HX.out.2.2.2.1.more hb3).set (.int .i64 m) (.slice (some ⟨w.heap.size + 2, 0, none⟩) N N)
  obtain ⟨d0, d1, f0, f1⟩ := HX.out.2.2.2.1.more hb3
  have HB3 := Lib.hid (set2B (below_more HX.out.2.2.2.2.1 hb3) (b := w.heap.size + 1) (by omega) (.int .i64 m) (.slice (some ⟨w.heap.size + 2, 0, none⟩) N N))
  have hO : OwnT w.heap.size ((w3.setCell ⟨w.heap.size + 1, 0, none⟩ (.int .i64 m)).setCell ⟨w.heap.size + 1, 1, none⟩ (.slice (some ⟨w.heap.size + 2, 0, none⟩) N N)) (.slice (some ⟨w.heap.size + 2, 0, none⟩) N N) (zs ++ ys) := by
    have hnl : (zs ++ ys).length = N := by rw [List.length_append, HX.out.1.hlen, HX.out.2.1.hlen]; exact hN
    refine ⟨by rw [tcl_length]; omega, .inr ⟨w.heap.size + 2, N, (splice (splice Z 0 X1) len X2).toArray, by rw [hnl], by omega, ?_, by omega, by unfold maxLen; omega, ?_, ?_⟩⟩
    · exact (Below.heap_setCell _ _ _ _ (by simp)).trans ((Below.heap_setCell _ _ _ _ (by simp)).trans HG3.out)
    · rw [List.size_toArray, length_splice _ _ _ HQ.out.2.2.2.2.2.1, length_splice _ _ _ HQ.out.2.2.1, HZ.out, Nat.mul_one]
    · rw [splice_two _ _ _ _ HX.out.2.2.2.2.2.2.2.2.1 (by rw [HZ.out, HX.out.2.2.2.2.2.2.2.2.2.1]; exact hN.symm), ← HX.out.2.2.2.2.2.2.1, ← HX.out.2.2.2.2.2.2.2.1, ← tcl_append]
      exact List.take_of_length_le (by rw [tcl_length]; simp)
  have HO := Lib.hid hO
  clear hb3 hO
  go_wp2
  generalize hWF : ((w3.setCell ⟨w.heap.size + 1, 0, none⟩ (.int .i64 m)).setCell ⟨w.heap.size + 1, 1, none⟩ (.slice (some ⟨w.heap.size + 2, 0, none⟩) N N)) = WF at y0 y1 HB3 HO ⊢
  refine bodyPost_ret (v := .agg #[.int .i64 m, .slice (some ⟨w.heap.size + 2, 0, none⟩) N N]) (by simp [results, Tryz.results118, go_sem, y0, y1]) rfl ?_
  rw [hN]
  exact ⟨_, _, rfl, HO.out, HB3.out⟩

theorem OwnT.set1 {n0 b i : Nat} {W : World} {v x : Value} {l : List It} (h : OwnT n0 W v l) (hb : b < n0) : OwnT n0 (W.setCell ⟨b, i, none⟩ x) v l := by
  refine ⟨h.1, ?_⟩
  rcases h.2 with ⟨e, h0⟩ | ⟨g, cap, cur, e, hg0, hg, rest⟩
  · exact .inl ⟨e, h0⟩
  · exact .inr ⟨g, cap, cur, e, hg0, (Below.heap_setCell _ _ _ _ (fun q => by have q' : g = b := q; omega)).trans hg, rest⟩
theorem with_none (m : Int) (ao : Option Addr) (len cap : Nat) (zs : List It) (hr1 : len ≤ 1000000) (w : World) (hL : Txs w ao len cap zs) :
    Calls Tryz.prog 118 #[.agg #[.int .i64 m, .slice ao len cap, .int .i64 0], .slice none 0 0] w (WithP m zs len w) := by
  have := with_any m ao none len cap 0 0 zs [] (.int .i64 0) rfl hr1 (by omega) w hL (Txs.nil w)
  rw [List.append_nil, Nat.add_zero] at this
  exact this

set_option maxRecDepth 100000 in
set_option maxHeartbeats 4000000 in
theorem rest_any (m : Int) (ao : Option Addr) (len cap : Nat) (zs : List It) (u : Value) (_hu : u.oneCell' = true) (hr1 : len ≤ 1000000) (h1 : 1 ≤ len) (w : World) (hL : Txs w ao len cap zs) :
    Calls Tryz.prog 120 #[.agg #[.int .i64 m, .slice ao len cap, u]] w (WithP m (zs.drop 1) (len - 1) w) := by
  have hB1 := Below.new w (.cells #[.int .i64 m, .slice ao len cap, u] 146)
  have hB2 := below_more hB1 (Below.new _ (.cells #[.int .i64 0, .slice none 0 0] 53))
  have r1 := (R3.new w (.int .i64 m) (.slice ao len cap) u 146).more (Below.new _ (.cells #[.int .i64 0, .slice none 0 0] 53))
  have r2 := R2.new (w.alloc (.cells #[.int .i64 m, .slice ao len cap, u] 146)) (.int .i64 0) (.slice none 0 0) 53
  rw [World.size_alloc] at r2
  obtain ⟨W0, hW0⟩ : ∃ W0, (w.alloc (.cells #[.int .i64 m, .slice ao len cap, u] 146)).alloc (.cells #[.int .i64 0, .slice none 0 0] 53) = W0 := ⟨_, rfl⟩
  rw [hW0] at hB2 r1 r2
  obtain ⟨k, hk⟩ : ∃ k, len - 1 = k := ⟨_, rfl⟩
  have sl := slice_lhm ao len cap 1 h1 hL.hle
  have hf := hL.from 1 h1
  rw [hk] at sl hf
  rw [show ((1 : Nat) : Int) = 1 from rfl] at sl
  obtain ⟨A2, hA2⟩ : ∃ A2, fromA ao 1 len = A2 := ⟨_, rfl⟩
  rw [hA2] at sl hf
  have hD : Below W0.heap.size W0 W0.drew := (Below.refl _ W0).drew
  have HF := Lib.hid (And.intro ((hf.more hB2).more hD) (And.intro (below_more hB2 hD) (r2.more hD)))
  have c0 := r1.c0
  have c1 := r1.c1
  have x0 := cell_later hD c0
  have x1 := cell_later hD c1
  have HN := Lib.hid hk
  have hlt := r2.lt
  have hk6 : k ≤ 1000000 := by omega
  clear hB1 hB2 r1 r2 hA2 hf hL hD
  rw [hk]
  clear hk
  go_enter Tryz.func120, Tryz.ntmps120
  go_wp2
  go_region_held3 (fun w' => w'.cell? ⟨w.heap.size, 0, none⟩ = some (.int .i64 m) ∧ w'.cell? ⟨w.heap.size, 1, none⟩ = some (.slice ao len cap))
    (first | (simp only [World.cell?_drew, c0, c1, and_self]; done) | (with_reducible exact ⟨cell_later hb x0, cell_later hb x1⟩) | (with_reducible exact ⟨set2O (cell_later hb x0) (by omega), set2O (cell_later hb x1) (by omega)⟩))
    (first | (go_at_call 118; ((with_reducible refine (with_none m A2 k k (zs.drop 1) hk6 _ HF.out.1).mono ?_); rintro e w1 ⟨va, vc, rfl, hO, hb⟩; obtain ⟨d0, d1, f0, f1⟩ := HF.out.2.2.more hb)))
  obtain ⟨y0, y1, _, _⟩ := R2.set ⟨d0, d1, f0, f1⟩ (.int .i64 m) (.slice va k vc)
  have hz : W0.drew.heap.size = W0.heap.size := rfl
  have HB3 := Lib.hid (set2B (below_more HF.out.2.1 hb) (b := w.heap.size + 1) (by omega) (.int .i64 m) (.slice va k vc))
  have HO := Lib.hid (((hO.set1 (b := w.heap.size + 1) (i := 0) (x := .int .i64 m) (by omega)).set1 (b := w.heap.size + 1) (i := 1) (x := .slice va k vc) (by omega)).mono (n1 := w.heap.size) (by omega))
  clear hO hb
  go_wp2
  generalize hWF : ((w1.setCell ⟨w.heap.size + 1, 0, none⟩ (.int .i64 m)).setCell ⟨w.heap.size + 1, 1, none⟩ (.slice va k vc)) = WF at y0 y1 HB3 HO ⊢
  refine bodyPost_ret (v := .agg #[.int .i64 m, .slice va k vc]) (by simp [results, Tryz.results120, go_sem, y0, y1]) rfl ?_
  exact ⟨_, _, rfl, HO.out, HB3.out⟩

end Go.Proofs.YtnbpfbmhheimbaaGreatDoor
