/- Rings as plain lists: what items take, how many have room, what is put in and taken out. -/
import Derived.Test.YtbdhagilmdmpdaaDoorFldMath
namespace Go.Proofs.Rng
open Go.Proofs.Fld

/-- An item: its bytes. -/
abbrev It := List UInt8
/-- What items take. -/
def takes : List It → Nat
  | [] => 0
  | x :: r => x.length + 1 + takes r
theorem takes_append (l k : List It) : takes (l ++ k) = takes l + takes k := by
  induction l with
  | nil => simp [takes]
  | cons a r ih => simp [takes, ih]; omega
theorem takes_take_le (l : List It) (k : Nat) : takes (l.take k) ≤ takes l := by
  have := takes_append (l.take k) (l.drop k)
  rw [List.take_append_drop] at this
  omega
theorem takes_next {l : List It} {k : Nat} {x : It} (h : l[k]? = some x) : takes (l.take (k + 1)) = takes (l.take k) + x.length + 1 := by
  have e : l.take (k + 1) = l.take k ++ [x] := by
    rw [List.take_add_one, h]
    rfl
  rw [e, takes_append]
  simp [takes]
  omega
/-- Are all of them items? -/
def itemsB (l : List It) : Bool := l.all fun x => decide (x.length ≤ 200)
theorem itemsB_iff {l : List It} : itemsB l = true ↔ ∀ x ∈ l, x.length ≤ 200 := by simp [itemsB]
/-- Is the ring right? -/
def rightR (m : Int) (l : List It) : Bool := decide (0 ≤ m) && decide (m ≤ 2000) && itemsB l && decide ((takes l : Int) ≤ m)
theorem rightR_iff {m : Int} {l : List It} : rightR m l = true ↔ 0 ≤ m ∧ m ≤ 2000 ∧ (∀ x ∈ l, x.length ≤ 200) ∧ (takes l : Int) ≤ m := by
  simp only [rightR, Bool.and_eq_true, decide_eq_true_eq, itemsB_iff]
  constructor
  · rintro ⟨⟨⟨a, b⟩, c⟩, d⟩; exact ⟨a, b, c, d⟩
  · rintro ⟨a, b, c, d⟩; exact ⟨⟨⟨a, b⟩, c⟩, d⟩
/-- Can the item be put in, where u is used? -/
def fitsB (m : Int) (u : Nat) (x : It) : Bool := decide (x.length ≤ 200) && decide (((u + x.length + 1 : Nat) : Int) ≤ m)
/-- How many can be put in. -/
def roomN (m : Int) (u : Nat) : List It → Nat
  | [] => 0
  | x :: r => if fitsB m u x then roomN m (u + x.length + 1) r + 1 else 0
/-- Why no more can be: 0 none is left, 1 no item, 2 it takes too much. -/
def roomE (m : Int) (u : Nat) : List It → Nat
  | [] => 0
  | x :: r => if fitsB m u x then roomE m (u + x.length + 1) r else if 200 < x.length then 1 else 2
theorem roomN_le (m : Int) (u : Nat) (l : List It) : roomN m u l ≤ l.length := by
  induction l generalizing u with
  | nil => simp [roomN]
  | cons a r ih =>
    unfold roomN
    split
    · have := ih (u + a.length + 1); simp; omega
    · exact Nat.zero_le _
/-- The first k fit. -/
def FitK (m : Int) (u : Nat) (l : List It) (k : Nat) : Prop := ∀ j x, j < k → l[j]? = some x → fitsB m (u + takes (l.take j)) x = true
theorem FitK.zero (m : Int) (u : Nat) (l : List It) : FitK m u l 0 := fun _ _ h => absurd h (by omega)
theorem FitK.next {m : Int} {u : Nat} {l : List It} {k : Nat} {x : It} (h : FitK m u l k) (hx : l[k]? = some x) (hf : fitsB m (u + takes (l.take k)) x = true) : FitK m u l (k + 1) := fun j y hj hy => by
  by_cases e : j = k
  · subst e
    rw [hx] at hy
    obtain rfl := Option.some.inj hy
    exact hf
  · exact h j y (by omega) hy
theorem FitK.tail {m : Int} {u k : Nat} {a : It} {r : List It} (h : FitK m u (a :: r) (k + 1)) : FitK m (u + a.length + 1) r k := fun j x hj hx => by
  have := h (j + 1) x (by omega) (by simpa using hx)
  rw [show u + takes ((a :: r).take (j + 1)) = u + a.length + 1 + takes (r.take j) by simp [takes]; omega] at this
  exact this
theorem FitK.head {m : Int} {u k : Nat} {a : It} {r : List It} (h : FitK m u (a :: r) (k + 1)) : fitsB m u a = true := by
  have := h 0 a (by omega) rfl
  simpa [takes] using this
theorem room_stop {m : Int} {u k : Nat} {l : List It} {x : It} (h : FitK m u l k) (hx : l[k]? = some x) (hn : fitsB m (u + takes (l.take k)) x = false) : roomN m u l = k ∧ roomE m u l = if 200 < x.length then 1 else 2 := by
  induction l generalizing u k with
  | nil => simp at hx
  | cons a r ih =>
    cases k with
    | zero =>
      simp at hx
      subst hx
      simp only [List.take_zero, takes, Nat.add_zero] at hn
      simp [roomN, roomE, hn]
    | succ k =>
      have hh := h.head
      have := ih h.tail (by simpa using hx) (by
        rw [show u + takes ((a :: r).take (k + 1)) = u + a.length + 1 + takes (r.take k) by simp [takes]; omega] at hn
        exact hn)
      simp [roomN, roomE, hh, this]
theorem room_all {m : Int} {u : Nat} {l : List It} (h : FitK m u l l.length) : roomN m u l = l.length ∧ roomE m u l = 0 := by
  induction l generalizing u with
  | nil => simp [roomN, roomE]
  | cons a r ih =>
    have := ih (FitK.tail (k := r.length) h)
    have hh := FitK.head (k := r.length) h
    simp [roomN, roomE, hh, this]
theorem room_fit (m : Int) (u : Nat) (l : List It) : FitK m u l (roomN m u l) := by
  induction l generalizing u with
  | nil => intro j x _ hx; simp at hx
  | cons a r ih =>
    intro j x hj hx
    unfold roomN at hj
    split at hj
    · rename_i hf
      cases j with
      | zero =>
        simp at hx
        subst hx
        simpa [takes] using hf
      | succ j =>
        have := ih (u + a.length + 1) j x (by omega) (by simpa using hx)
        rw [show u + takes ((a :: r).take (j + 1)) = u + a.length + 1 + takes (r.take j) by simp [takes]; omega]
        exact this
    · omega
/-- What is used behind those that could be put in is not more than there may be. -/
theorem room_used {m : Int} {u k : Nat} {l : List It} (hu : (u : Int) ≤ m) (h : FitK m u l k) (hk : k ≤ l.length) : ((u + takes (l.take k) : Nat) : Int) ≤ m := by
  cases k with
  | zero => simpa [takes] using hu
  | succ k =>
    obtain ⟨x, hx⟩ : ∃ x, l[k]? = some x := ⟨_, List.getElem?_eq_getElem (by omega)⟩
    have := h k x (by omega) hx
    rw [takes_next hx]
    unfold fitsB at this
    simp at this
    have := this.2
    omega
theorem room_items {m : Int} {u k : Nat} {l : List It} (h : FitK m u l k) : ∀ x ∈ l.take k, x.length ≤ 200 := by
  intro x hx
  obtain ⟨j, hj⟩ := List.mem_iff_getElem?.1 hx
  rw [List.getElem?_take] at hj
  split at hj
  · rename_i hlt
    have := h j x hlt hj
    unfold fitsB at this
    simp at this
    exact this.1
  · cases hj
/-- A ring is right, if an empty one has room for all its items. -/
theorem right_room {m : Int} {l : List It} (h0 : 0 ≤ m) (h1 : m ≤ 2000) : rightR m l = decide (roomE m 0 l = 0) := by
  have key : ∀ (u : Nat) (l : List It), (u : Int) ≤ m → ((roomE m u l = 0) ↔ ((∀ x ∈ l, x.length ≤ 200) ∧ ((u + takes l : Nat) : Int) ≤ m)) := by
    intro u l
    induction l generalizing u with
    | nil => intro hu; simp [roomE, takes]; omega
    | cons a r ih =>
      intro hu
      unfold roomE
      cases hf : fitsB m u a
      · simp only [Bool.false_eq_true, if_false]
        unfold fitsB at hf
        simp at hf
        constructor
        · intro h; split at h <;> cases h
        · rintro ⟨ha, hb⟩
          have := hf (ha a (by simp))
          simp [takes] at hb
          omega
      · unfold fitsB at hf
        simp at hf
        simp only [if_true]
        rw [ih _ (by omega)]
        simp only [List.mem_cons, forall_eq_or_imp, takes]
        constructor
        · rintro ⟨p, q⟩; exact ⟨⟨hf.1, p⟩, by omega⟩
        · rintro ⟨⟨_, p⟩, q⟩; exact ⟨p, by omega⟩
  have := key 0 l (by omega)
  cases hr : rightR m l
  · cases hd : decide (roomE m 0 l = 0)
    · rfl
    · have := this.1 (of_decide_eq_true hd)
      have h2 := rightR_iff.2 ⟨h0, h1, this.1, by simpa using this.2⟩
      rw [hr] at h2
      cases h2
  · have h2 := rightR_iff.1 hr
    symm
    exact decide_eq_true (this.2 ⟨h2.2.2.1, by simpa using h2.2.2.2⟩)
theorem room_full {m : Int} {u : Nat} {l : List It} (h : roomE m u l = 0) : roomN m u l = l.length := by
  induction l generalizing u with
  | nil => rfl
  | cons a r ih =>
    unfold roomE at h
    unfold roomN
    split at h
    · rename_i hf
      rw [if_pos hf, ih h]
      simp
    · split at h <;> cases h
theorem roomE_one (m : Int) (u : Nat) (x : It) : roomE m u [x] = if 200 < x.length then 1 else if m < ((u + x.length + 1 : Nat) : Int) then 2 else 0 := by
  show (if fitsB m u x then roomE m (u + x.length + 1) [] else if 200 < x.length then 1 else 2) = _
  have e0 : roomE m (u + x.length + 1) [] = 0 := rfl
  rw [e0]
  unfold fitsB
  generalize ((u + x.length + 1 : Nat) : Int) = k
  by_cases h : 200 < x.length
  · have h1 : decide (x.length ≤ 200) = false := decide_eq_false (by omega)
    rw [h1, if_pos h, if_pos h]
    rfl
  · have h1 : decide (x.length ≤ 200) = true := decide_eq_true (by omega)
    rw [h1, if_neg h, if_neg h, Bool.true_and]
    by_cases h2 : m < k
    · rw [decide_eq_false (by omega), if_pos h2]
      rfl
    · rw [decide_eq_true (by omega), if_neg h2]
      rfl
theorem roomE_le (m : Int) (u : Nat) (l : List It) : roomE m u l ≤ 2 := by
  induction l generalizing u with
  | nil => simp [roomE]
  | cons a r ih =>
    unfold roomE
    split
    · exact ih _
    · split <;> omega
/-- The items, each with what is used by then. -/
def prs (u : Nat) : List It → List (It × Nat)
  | [] => []
  | x :: r => (x, u + x.length + 1) :: prs (u + x.length + 1) r
theorem prs_length (u : Nat) (l : List It) : (prs u l).length = l.length := by
  induction l generalizing u with
  | nil => rfl
  | cons a r ih => simp [prs, ih]
theorem prs_get {u k : Nat} {l : List It} {x : It} (h : l[k]? = some x) : (prs u l)[k]? = some (x, u + takes (l.take k) + x.length + 1) := by
  induction l generalizing u k with
  | nil => simp at h
  | cons a r ih =>
    cases k with
    | zero => simp at h; subst h; simp [prs, takes]
    | succ k =>
      have := ih (u := u + a.length + 1) (k := k) (by simpa using h)
      simp only [prs, List.getElem?_cons_succ, this, List.take_succ_cons, takes]
      congr 2
      omega
theorem prs_next {u k : Nat} {l : List It} {x : It} (h : l[k]? = some x) : (prs u l).take (k + 1) = (prs u l).take k ++ [(x, u + takes (l.take k) + x.length + 1)] := by
  rw [List.take_add_one, prs_get h]
  rfl
/-- Are two lists the same? -/
def sameT (a b : List It) : Bool := decide (a = b)
/-- What Put tells: the ring's number, its items, the error. -/
def putE (m : Int) (l : List It) (x : It) : Nat := if rightR m l then roomE m (takes l) [x] else 1
def putM (m : Int) (l : List It) (x : It) : Int := if putE m l x = 0 then m else 0
def putL (m : Int) (l : List It) (x : It) : List It := if putE m l x = 0 then l ++ [x] else []
/-- What Take tells: 3 is that there is none. -/
def takeE (m : Int) (l : List It) : Nat := if rightR m l then (if l = [] then 3 else 0) else 1
def takeM (m : Int) (l : List It) : Int := if takeE m l = 0 then m else 0
def takeL (m : Int) (l : List It) : List It := if takeE m l = 0 then l.tail else []
def takeX (m : Int) (l : List It) : It := if takeE m l = 0 then l.headD [] else []
/-- What All tells. -/
def allE (m : Int) (l : List It) : Nat := if rightR m l then 0 else 1
def allN (m : Int) (l k : List It) : Nat := if rightR m l then roomN m (takes l) k else 0
def allM (m : Int) (l : List It) : Int := if rightR m l then m else 0
def allL (m : Int) (l k : List It) : List It := if rightR m l then l ++ k.take (roomN m (takes l) k) else []
/-- The numbers that callers are told. -/
def errN : Nat → Int
  | 0 => 0
  | 1 => 2
  | 2 => 80
  | _ => 81
def usedR (m : Int) (l : List It) : Nat := if rightR m l then takes l else 0
theorem right_put {m : Int} {l : List It} {x : It} (h : putE m l x = 0) : rightR m l = true ∧ rightR m (l ++ [x]) = true ∧ x.length ≤ 200 ∧ takes (l ++ [x]) = takes l + x.length + 1 := by
  unfold putE at h
  split at h
  · rename_i hr
    rw [roomE_one] at h
    obtain ⟨a, b, c, d⟩ := rightR_iff.1 hr
    split at h
    · cases h
    split at h
    · cases h
    have ht : takes (l ++ [x]) = takes l + x.length + 1 := by rw [takes_append]; simp [takes]; omega
    refine ⟨hr, rightR_iff.2 ⟨a, b, ?_, by rw [ht]; omega⟩, by omega, ht⟩
    intro y hy
    rcases List.mem_append.1 hy with hy | hy
    · exact c y hy
    · obtain rfl : y = x := by simpa using hy
      omega
  · cases h
theorem right_all {m : Int} {l k : List It} {n : Nat} (hr : rightR m l = true) (h : FitK m (takes l) k n) (hn : n ≤ k.length) : rightR m (l ++ k.take n) = true := by
  obtain ⟨a, b, c, d⟩ := rightR_iff.1 hr
  refine rightR_iff.2 ⟨a, b, ?_, ?_⟩
  · intro y hy
    rcases List.mem_append.1 hy with hy | hy
    · exact c y hy
    · exact room_items h y hy
  · rw [takes_append]
    exact room_used d h hn
theorem right_drop {m : Int} {l : List It} (k : Nat) (h : rightR m l = true) : rightR m (l.drop k) = true := by
  obtain ⟨a, b, c, d⟩ := rightR_iff.1 h
  refine rightR_iff.2 ⟨a, b, fun x hx => c x (List.mem_of_mem_drop hx), ?_⟩
  have := takes_append (l.take k) (l.drop k)
  rw [List.take_append_drop] at this
  omega
theorem right_nil (m : Int) : rightR m [] = (decide (0 ≤ m) && decide (m ≤ 2000)) := by
  unfold rightR itemsB takes
  by_cases h0 : 0 ≤ m
  · simp [h0]
  · simp [h0]
end Go.Proofs.Rng
