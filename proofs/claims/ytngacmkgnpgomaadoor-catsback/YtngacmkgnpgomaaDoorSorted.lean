/- Plain facts: a set's list is rising, and sets and rising lists are one to one. -/
import Derived.Test.YtngacmkgnpgomaaDoorIn
namespace Go.Proofs.YtngacmkgnpgomaaDoor
open Go.RowKit Go.Proofs.Cats

theorem sorted_ext : ∀ (a b : List Int), a.Pairwise (· < ·) → b.Pairwise (· < ·) → (∀ x, x ∈ a ↔ x ∈ b) → a = b
  | [], [], _, _, _ => rfl
  | [], y :: b, _, _, h => absurd ((h y).2 List.mem_cons_self) (by simp)
  | x :: a, [], _, _, h => absurd ((h x).1 List.mem_cons_self) (by simp)
  | x :: a, y :: b, ha, hb, h => by
    rw [List.pairwise_cons] at ha hb
    have hxy : x = y := by
      have h1 := (h x).1 List.mem_cons_self
      have h2 := (h y).2 List.mem_cons_self
      rcases List.mem_cons.1 h1 with e | e
      · exact e
      · rcases List.mem_cons.1 h2 with e' | e'
        · exact e'.symm
        · have := ha.1 y e'; have := hb.1 x e; omega
    subst hxy
    rw [sorted_ext a b ha.2 hb.2 fun z => ?_]
    constructor
    · intro hz
      have := (h z).1 (List.mem_cons_of_mem _ hz)
      rcases List.mem_cons.1 this with e | e
      · have := ha.1 z hz; omega
      · exact e
    · intro hz
      have := (h z).2 (List.mem_cons_of_mem _ hz)
      rcases List.mem_cons.1 this with e | e
      · have := hb.1 z hz; omega
      · exact e

theorem listTo_sorted (s n : Nat) : (listTo s n).Pairwise (· < ·) := by
  unfold listTo
  rw [List.pairwise_map]
  simp only [Int.ofNat_lt]
  exact List.Pairwise.filter _ List.pairwise_lt_range

theorem mem_listTo (s n : Nat) (x : Int) : x ∈ listTo s n ↔ 0 ≤ x ∧ x.toNat < n ∧ s.testBit x.toNat = true := by
  unfold listTo
  simp only [List.mem_map, List.mem_filter, List.mem_range]
  constructor
  · rintro ⟨k, ⟨h1, h2⟩, rfl⟩
    exact ⟨by omega, by simpa using h1, by simpa using h2⟩
  · rintro ⟨h0, h1, h2⟩
    exact ⟨x.toNat, ⟨h1, h2⟩, by omega⟩

theorem listTo_ok (s : Nat) : (listTo s 64).all okC = true := by
  rw [List.all_eq_true]
  intro x hx
  have := (mem_listTo s 64 x).1 hx
  exact (okC_iff x).2 (by omega)

theorem addAll_testBit (t : Nat) (zs : List Int) (i : Nat) : (addAll t zs).testBit i = true ↔ t.testBit i = true ∨ ∃ z, z ∈ zs ∧ z.toNat = i := by
  induction zs generalizing t with
  | nil => simp [addAll]
  | cons z zs ih =>
    have e : addAll t (z :: zs) = addAll (t ||| 2 ^ z.toNat) zs := rfl
    rw [e, ih, testBit_with]
    simp only [Bool.or_eq_true, decide_eq_true_eq, List.mem_cons, exists_eq_or_imp]
    constructor
    · rintro ((h | h) | h)
      · exact .inl h
      · exact .inr (.inl h)
      · exact .inr (.inr h)
    · rintro (h | h | h)
      · exact .inl (.inl h)
      · exact .inl (.inr h)
      · exact .inr h

theorem join_listTo (s : Nat) (hs : U64 s) : joinV 0 (listTo s 64) = s ∧ joinE (listTo s 64) = 0 := by
  obtain ⟨h1, h2⟩ := joinV_good _ (listTo_ok s)
  refine ⟨?_, h2⟩
  rw [h1]
  apply Nat.eq_of_testBit_eq
  intro i
  rw [Bool.eq_iff_iff, addAll_testBit]
  simp only [Nat.zero_testBit, Bool.false_eq_true, false_or]
  constructor
  · rintro ⟨z, hz, rfl⟩
    exact ((mem_listTo s 64 z).1 hz).2.2
  · intro hi
    have hl : i < 64 := by
      rcases Nat.lt_or_ge i 64 with h | h
      · exact h
      · have : s.testBit i = false := Nat.testBit_lt_two_pow (Nat.lt_of_lt_of_le (show s < 2 ^ 64 from hs) (Nat.pow_le_pow_right (by omega) h))
        rw [this] at hi
        cases hi
    exact ⟨(i : Int), (mem_listTo s 64 _).2 ⟨by omega, by simpa using hl, by simpa using hi⟩, by simp⟩

theorem list_join (ys : List Int) (h : ys.all okC = true) (hs : ys.Pairwise (· < ·)) : listTo (joinV 0 ys) 64 = ys := by
  rw [(joinV_good ys h).1]
  refine sorted_ext _ _ (listTo_sorted _ _) hs fun x => ?_
  rw [mem_listTo, addAll_testBit]
  simp only [Nat.zero_testBit, Bool.false_eq_true, false_or]
  constructor
  · rintro ⟨h0, _, z, hz, e⟩
    have := (okC_iff z).1 (List.all_eq_true.1 h z hz)
    obtain rfl : z = x := by omega
    exact hz
  · intro hx
    have := (okC_iff x).1 (List.all_eq_true.1 h x hx)
    exact ⟨this.1, by omega, x, hx, rfl⟩

theorem pairwise_of_steps (ys : List Int) (h : ∀ i, i + 1 < ys.length → ys[i]?.getD 0 < ys[i + 1]?.getD 0) : ys.Pairwise (· < ·) := by
  induction ys with
  | nil => exact List.Pairwise.nil
  | cons y ys ih =>
    have ih' := ih (fun i hi => by have := h (i + 1) (by simpa using hi); simpa using this)
    rw [List.pairwise_cons]
    refine ⟨?_, ih'⟩
    intro z hz
    cases ys with
    | nil => cases hz
    | cons u ys =>
      have h0 := h 0 (by simp)
      simp at h0
      rcases List.mem_cons.1 hz with rfl | hz
      · exact h0
      · have := (List.pairwise_cons.1 ih').1 z hz
        omega

theorem steps_of_pairwise (ys : List Int) (h : ys.Pairwise (· < ·)) (i : Nat) (hi : i + 1 < ys.length) : ys[i]?.getD 0 < ys[i + 1]?.getD 0 := by
  have := List.pairwise_iff_getElem.1 h i (i + 1) (by omega) hi (by omega)
  simpa [show i < ys.length by omega, hi] using this

end Go.Proofs.YtngacmkgnpgomaaDoor
