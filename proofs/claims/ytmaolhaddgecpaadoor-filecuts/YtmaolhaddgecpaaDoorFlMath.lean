/- Files as lists of bytes, and what is done with them: P9.1 to P9.3 as plain facts. -/
import Derived.Test.YtmaolhaddgecpaaDoorFldMath
namespace Go.Proofs.Fil
/-- Bytes. -/
abbrev It := List UInt8
/-- Is it a file, at an offset? -/
def okAt (s : It) (o : Int) : Prop := s.length ≤ 1000 ∧ 0 ≤ o ∧ o ≤ (s.length : Int)
instance (s : It) (o : Int) : Decidable (okAt s o) := by unfold okAt; exact inferInstance
/-- The parts as one file. -/
def joinR (l : It) : Option It := if l.length ≤ 1000 then some l else none
/-- s, t in place of n bytes from o on. -/
def splR (s : It) (o n : Int) (t : It) : Option It :=
  if okAt s o ∧ 0 ≤ n ∧ n ≤ (s.length : Int) - o then joinR (s.take o.toNat ++ t ++ s.drop (o.toNat + n.toNat)) else none
def minI (a b : Int) : Int := if b < a then b else a
def writeR (s : It) (o : Int) (t : It) : Option It := splR s o (minI (t.length : Int) ((s.length : Int) - o)) t
def readR (s : It) (o n : Int) : Option It := if okAt s o ∧ 0 ≤ n then some ((s.drop o.toNat).take n.toNat) else none
def zerosR (n : Nat) : It := List.replicate n 0
def cutR (s : It) (n : Int) : Option It := if s.length ≤ 1000 ∧ 0 ≤ n ∧ n ≤ 1000 then some (s.take n.toNat ++ zerosR (n.toNat - s.length)) else none

theorem okAt_nat {s : It} {o : Int} (h : okAt s o) : ∃ k : Nat, o = (k : Int) ∧ k ≤ s.length ∧ s.length ≤ 1000 := by
  obtain ⟨h1, h2, h3⟩ := h
  exact ⟨o.toNat, by omega, by omega, h1⟩
theorem okAt_of {s : It} {k : Nat} (h : k ≤ s.length) (h1 : s.length ≤ 1000) : okAt s (k : Int) := ⟨h1, by omega, by omega⟩

/-- splR where it tells a file. -/
theorem splR_some {s t a : It} {o n : Int} (h : splR s o n t = some a) : ∃ k m : Nat, o = (k : Int) ∧ n = (m : Int) ∧ k + m ≤ s.length ∧ s.length ≤ 1000 ∧ a = s.take k ++ t ++ s.drop (k + m) ∧ a.length = s.length - m + t.length ∧ a.length ≤ 1000 := by
  unfold splR at h
  split at h
  · rename_i hc
    obtain ⟨hok, hn0, hn1⟩ := hc
    obtain ⟨k, rfl, hk, hs⟩ := okAt_nat hok
    obtain ⟨m, rfl⟩ := Int.eq_ofNat_of_zero_le hn0
    unfold joinR at h
    split at h
    · rename_i hl
      obtain rfl := Option.some.inj h
      simp only [Int.toNat_natCast] at hl ⊢
      refine ⟨k, m, rfl, rfl, by omega, hs, rfl, ?_, hl⟩
      simp only [List.length_append, List.length_take, List.length_drop]
      omega
    · cases h
  · cases h
theorem splR_of {s t : It} {k m : Nat} (hk : k + m ≤ s.length) (hs : s.length ≤ 1000) (hl : s.length - m + t.length ≤ 1000) : splR s (k : Int) (m : Int) t = some (s.take k ++ t ++ s.drop (k + m)) := by
  unfold splR
  rw [if_pos ⟨okAt_of (by omega) hs, by omega, by omega⟩]
  simp only [Int.toNat_natCast]
  unfold joinR
  rw [if_pos]
  simp only [List.length_append, List.length_take, List.length_drop]
  omega
theorem readR_of {s : It} {k m : Nat} (hk : k ≤ s.length) (hs : s.length ≤ 1000) : readR s (k : Int) (m : Int) = some ((s.drop k).take m) := by
  unfold readR
  rw [if_pos ⟨okAt_of hk hs, by omega⟩]
  simp only [Int.toNat_natCast]
theorem readR_some {s a : It} {o n : Int} (h : readR s o n = some a) : ∃ k m : Nat, o = (k : Int) ∧ n = (m : Int) ∧ k ≤ s.length ∧ s.length ≤ 1000 ∧ a = (s.drop k).take m := by
  unfold readR at h
  split at h
  · rename_i hc
    obtain ⟨hok, hn0⟩ := hc
    obtain ⟨k, rfl, hk, hs⟩ := okAt_nat hok
    obtain ⟨m, rfl⟩ := Int.eq_ofNat_of_zero_le hn0
    obtain rfl := Option.some.inj h
    exact ⟨k, m, rfl, rfl, hk, hs, by simp only [Int.toNat_natCast]⟩
  · cases h
theorem writeR_some {s t a : It} {o : Int} (h : writeR s o t = some a) : ∃ k : Nat, o = (k : Int) ∧ k ≤ s.length ∧ s.length ≤ 1000 ∧ k + t.length ≤ 1000 ∧ a = s.take k ++ t ++ s.drop (k + t.length) := by
  unfold writeR at h
  obtain ⟨k, m, rfl, hm, hkm, hs, rfl, hl, hl1⟩ := splR_some h
  unfold minI at hm
  refine ⟨k, rfl, by omega, hs, ?_, ?_⟩
  · rw [hl] at hl1
    split at hm <;> omega
  · split at hm
    · have : m = s.length - k := by omega
      rw [List.drop_eq_nil_of_le (by omega : s.length ≤ k + m), List.drop_eq_nil_of_le (by omega : s.length ≤ k + t.length)]
    · have : m = t.length := by omega
      rw [this]
theorem writeR_of {s t : It} {k : Nat} (hk : k ≤ s.length) (hs : s.length ≤ 1000) (hl : k + t.length ≤ 1000) : writeR s (k : Int) t = some (s.take k ++ t ++ s.drop (k + t.length)) := by
  unfold writeR minI
  split
  · have e : (s.length : Int) - (k : Int) = ((s.length - k : Nat) : Int) := by omega
    rw [e, splR_of (by omega) hs (by omega), List.drop_eq_nil_of_le (by omega : s.length ≤ k + (s.length - k)), List.drop_eq_nil_of_le (by omega : s.length ≤ k + t.length)]
  · rw [splR_of (by omega) hs (by omega)]
/-- What the document asks of a write, of a splice. -/
theorem writeR_doc (s t : It) (o : Int) : writeR s o t = if okAt s o ∧ (t.length : Int) ≤ 1000 - o then some (s.take o.toNat ++ t ++ s.drop (o.toNat + t.length)) else none := by
  split
  · rename_i hc
    obtain ⟨hok, hl⟩ := hc
    obtain ⟨k, rfl, hk, hs⟩ := okAt_nat hok
    rw [writeR_of hk hs (by omega)]
    simp only [Int.toNat_natCast]
  · rename_i hc
    cases h : writeR s o t with
    | none => rfl
    | some a =>
      obtain ⟨k, rfl, hk, hs, hl, _⟩ := writeR_some h
      exact absurd ⟨okAt_of hk hs, by omega⟩ hc
theorem splR_doc (s t : It) (o n : Int) : splR s o n t = if okAt s o ∧ 0 ≤ n ∧ n ≤ (s.length : Int) - o ∧ (s.length : Int) - n + t.length ≤ 1000 then some (s.take o.toNat ++ t ++ s.drop (o.toNat + n.toNat)) else none := by
  split
  · rename_i hc
    obtain ⟨hok, h0, h1, hl⟩ := hc
    obtain ⟨k, rfl, hk, hs⟩ := okAt_nat hok
    obtain ⟨m, rfl⟩ := Int.eq_ofNat_of_zero_le h0
    rw [splR_of (by omega) hs (by omega)]
    simp only [Int.toNat_natCast]
  · rename_i hc
    cases h : splR s o n t with
    | none => rfl
    | some a =>
      obtain ⟨k, m, rfl, rfl, hk, hs, _, hl, hl1⟩ := splR_some h
      exact absurd ⟨okAt_of (by omega) hs, by omega, by omega, by omega⟩ hc

/-- What is written is read there. -/
theorem back_read {s t a : It} {o : Int} (h : writeR s o t = some a) : readR a o (t.length : Int) = some t ∧ (a.length : Int) = (if (s.length : Int) < o + t.length then o + t.length else s.length) := by
  obtain ⟨k, rfl, hk, hs, hl, rfl⟩ := writeR_some h
  have hlen : (s.take k ++ t ++ s.drop (k + t.length)).length = k + t.length + (s.length - (k + t.length)) := by
    simp only [List.length_append, List.length_take, List.length_drop]
    omega
  refine ⟨?_, ?_⟩
  · rw [readR_of (by rw [hlen]; omega) (by rw [hlen]; omega), List.append_assoc]
    congr 1
    rw [List.drop_append_of_le_length (by rw [List.length_take]; omega)]
    rw [List.drop_eq_nil_of_le (by rw [List.length_take]; omega), List.nil_append, List.take_left']
    rfl
  · rw [hlen]
    split <;> omega
/-- .. and nothing else is changed. -/
theorem back_same {s t a : It} {k i : Nat} (h : writeR s (k : Int) t = some a) (_hi : i < s.length) (hx : i < k ∨ k + t.length ≤ i) : a[i]? = s[i]? := by
  obtain ⟨k', e, hk, hs, hl, rfl⟩ := writeR_some h
  obtain rfl : k = k' := by omega
  rcases hx with h1 | h1
  · rw [List.append_assoc, List.getElem?_append_left (by rw [List.length_take]; omega), List.getElem?_take, if_pos h1]
  · rw [List.getElem?_append_right (by simp only [List.length_append, List.length_take]; omega), List.getElem?_drop]
    congr 1
    simp only [List.length_append, List.length_take]
    omega
/-- Two parts, one behind the other. -/
theorem parts_some {s t u a : It} {o : Int} (h : writeR s o (t ++ u) = some a) : ∃ b, writeR s o t = some b ∧ writeR b (o + t.length) u = some a ∧ 0 ≤ o ∧ o + t.length ≤ 1000 := by
  obtain ⟨k, rfl, hk, hs, hl, rfl⟩ := writeR_some h
  rw [List.length_append] at hl
  refine ⟨_, writeR_of hk hs (by omega), ?_, by omega, by omega⟩
  have e : (k : Int) + (t.length : Int) = ((k + t.length : Nat) : Int) := by omega
  have hlen : (s.take k ++ t ++ s.drop (k + t.length)).length = k + t.length + (s.length - (k + t.length)) := by
    simp only [List.length_append, List.length_take, List.length_drop]
    omega
  rw [e, writeR_of (by rw [hlen]; omega) (by rw [hlen]; omega) (by omega)]
  congr 1
  have h1 : (s.take k ++ t).length = k + t.length := by simp only [List.length_append, List.length_take]; omega
  rw [List.take_left' h1, List.drop_append, h1, List.drop_eq_nil_of_le (by rw [h1]; omega), List.nil_append, List.drop_drop, List.length_append]
  simp only [List.append_assoc]
  congr 4
  omega
theorem parts_none {s t u b c : It} {o : Int} (h : writeR s o (t ++ u) = none) (hb : writeR s o t = some b) : writeR b (o + t.length) u ≠ some c := by
  intro hc
  obtain ⟨k, rfl, hk, hs, hl, rfl⟩ := writeR_some hb
  obtain ⟨k2, e2, hk2, hs2, hl2, _⟩ := writeR_some hc
  rw [writeR_of hk hs (by rw [List.length_append]; omega)] at h
  cases h
/-- A file that is cut. -/
theorem cutR_some {s a : It} {n : Int} (h : cutR s n = some a) : ∃ m : Nat, n = (m : Int) ∧ m ≤ 1000 ∧ s.length ≤ 1000 ∧ a = s.take m ++ zerosR (m - s.length) ∧ a.length = m := by
  unfold cutR at h
  split at h
  · rename_i hc
    obtain ⟨h1, h2, h3⟩ := hc
    obtain ⟨m, rfl⟩ := Int.eq_ofNat_of_zero_le h2
    obtain rfl := Option.some.inj h
    simp only [Int.toNat_natCast]
    refine ⟨m, rfl, by omega, h1, rfl, ?_⟩
    simp only [zerosR, List.length_append, List.length_take, List.length_replicate]
    omega
  · cases h
theorem cutR_none {s : It} {n : Int} (h : cutR s n = none) : 1000 < s.length ∨ n < 0 ∨ 1000 < n := by
  unfold cutR at h
  split at h
  · cases h
  · rename_i hc
    omega
theorem cut_get {s a : It} {m i : Nat} (h : cutR s (m : Int) = some a) (hi : i < m) : a[i]? = if i < s.length then s[i]? else some 0 := by
  obtain ⟨m', e, hm, hs, rfl, _⟩ := cutR_some h
  obtain rfl : m = m' := by omega
  split
  · rename_i h1
    rw [List.getElem?_append_left (by rw [List.length_take]; omega), List.getElem?_take, if_pos hi]
  · rename_i h1
    rw [List.getElem?_append_right (by rw [List.length_take]; omega)]
    simp only [zerosR, List.length_take]
    rw [List.getElem?_replicate, if_pos (by omega)]
/-- What was taken out is put in again. -/
theorem spl_back {s t a : It} {o n : Int} (h : splR s o n t = some a) : ∃ x, readR s o n = some x ∧ splR a o (t.length : Int) x = some s ∧ (a.length : Int) = (s.length : Int) - n + t.length := by
  obtain ⟨k, m, rfl, rfl, hk, hs, rfl, hl, hl1⟩ := splR_some h
  refine ⟨_, readR_of (by omega) hs, ?_, by rw [hl]; omega⟩
  have hx : ((s.drop k).take m).length = m := by simp only [List.length_take, List.length_drop]; omega
  rw [splR_of (by rw [hl]; omega) hl1 (by rw [hl, hx]; omega)]
  congr 1
  have h1 : (s.take k).length = k := by rw [List.length_take]; omega
  have h2 : (s.take k ++ t).length = k + t.length := by rw [List.length_append, h1]
  rw [List.append_assoc (s.take k) t, List.take_left' h1, ← List.append_assoc, List.drop_left' h2]
  rw [← List.drop_drop, List.append_assoc, List.take_append_drop, List.take_append_drop]
/-- What is read in two parts. -/
theorem reads_some {s a : It} {o : Int} {n m : Nat} (h : readR s o ((n : Int) + (m : Int)) = some a) : ∃ b c, readR s o (n : Int) = some b ∧ readR s (o + b.length) (m : Int) = some c ∧ a = b ++ c ∧ (a.length : Int) ≤ (n : Int) + (m : Int) ∧ 0 ≤ o ∧ o + b.length ≤ 1000 := by
  obtain ⟨k, x, rfl, e, hk, hs, rfl⟩ := readR_some h
  obtain rfl : x = n + m := by omega
  have hb : ((s.drop k).take n).length = Nat.min n (s.length - k) := by simp only [List.length_take, List.length_drop]
  have hmin : Nat.min n (s.length - k) ≤ s.length - k := Nat.min_le_right _ _
  have e2 : (k : Int) + (((s.drop k).take n).length : Int) = ((k + Nat.min n (s.length - k) : Nat) : Int) := by rw [hb]; omega
  refine ⟨_, _, readR_of hk hs, by rw [e2]; exact readR_of (by omega) hs, ?_, ?_, by omega, by rw [e2]; omega⟩
  · rw [← List.drop_drop]
    generalize s.drop k = r at *
    have hr : (r.take n).length = Nat.min n r.length := by rw [List.length_take]
    rw [hr] at hb
    rw [← hb, List.take_add]
    congr 1
    by_cases hn : n ≤ r.length
    · rw [show Nat.min n r.length = n from Nat.min_eq_left hn]
    · rw [show Nat.min n r.length = r.length from Nat.min_eq_right (by omega), List.drop_eq_nil_of_le (by omega : r.length ≤ n), List.drop_eq_nil_of_le (Nat.le_refl _)]
  · have : (((s.drop k).take (n + m)).length) ≤ n + m := by rw [List.length_take]; omega
    omega
theorem reads_none {s : It} {o : Int} {n m : Nat} (h : readR s o ((n : Int) + (m : Int)) = none) : readR s o (n : Int) = none := by
  unfold readR at h ⊢
  split at h
  · cases h
  · rename_i hc
    rw [if_neg]
    rintro ⟨h1, h2⟩
    exact hc ⟨h1, by omega⟩
end Go.Proofs.Fil
