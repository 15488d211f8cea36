/- The document's reader in whatever state; what its stages come to. -/
import Derived.Test.YtcjokjipgeaikaaGreatDoorTxRefN
namespace Go.Proofs.YtcjokjipgeaikaaGreatDoor
open Go.RowKit Go.Shelf Go.Proofs.Fld Go.Proofs.Tx Go.Proofs.Cats

/-- What was read goes on. -/
def thenV {α β : Type} (x : Option α × List UInt8) (f : α → Rdr β) : Option β × List UInt8 := match x with
  | (some v, r) => f v r
  | (none, r) => (none, r)
theorem thenV_eq {α β : Type} (R : Rdr α) (f : α → Rdr β) (s : List UInt8) : thenV (R s) f = andThen R f s := rfl
theorem EndOf.then {α β : Type} {s : List UInt8} {x : Option α × List UInt8} {f : α → Rdr β} (h : EndOf s x.2) (hf : ∀ v, Tx.Good (f v)) : EndOf s (thenV x f).2 := by
  obtain ⟨o, r⟩ := x
  cases o with
  | none => exact h
  | some v => exact EndOf.rdr h (hf v)

theorem must_X {α : Type} {Q : Nat} {s : List UInt8} (x : Option α × List UInt8) (c : UInt8) (he : EndOf s x.2) (hs : s.length ≤ 1000000) (w : World) (h : Rr w Q s x.2 x.1.isNone) :
    Calls Tryz.prog 14 #[.pointer (some ⟨Q, 0, none⟩), .int .u8 (c.toNat : Int)] w (RrPost Q s (thenV x fun _ => sgn [c]).2 (thenV x fun _ => sgn [c]).1.isNone w) := by
  obtain ⟨o, r⟩ := x
  cases o with
  | none => exact must_no he (Or.inl rfl) w h
  | some v =>
    by_cases hr : ∃ r', r = c :: r'
    · obtain ⟨r', rfl⟩ := hr
      have e : (thenV (some v, c :: r') fun _ => sgn [c]) = (some c, r') := sgn_hit r' (by simp)
      rw [e]
      exact must_yes he hs w h
    · have hn : ∀ r', r ≠ c :: r' := fun r' e => hr ⟨r', e⟩
      have e : (thenV (some v, r) fun _ => sgn [c]) = (none, r) := by
        show sgn [c] r = _
        cases r with
        | nil => rfl
        | cons b r =>
          refine sgn_no r (fun hc => ?_)
          simp at hc
          exact hn r (by rw [hc])
      rw [e]
      exact must_no he (Or.inr hn) w h
theorem refNum_X {α : Type} {Q : Nat} {s : List UInt8} (x : Option α × List UInt8) (least most : Nat) (hm : most ≤ 99) (hlm : least ≤ most) (he : EndOf s x.2) (hs : s.length ≤ 1000000) (w : World) (h : Rr w Q s x.2 x.1.isNone) :
    Calls Tryz.prog 15 #[.pointer (some ⟨Q, 0, none⟩), .int .i64 (least : Int), .int .i64 (most : Int)] w (RNPost Q s (thenV x fun _ => num least most) w) := by
  obtain ⟨o, r⟩ := x
  cases o with
  | none => exact refNum_bad Q s r least most w h
  | some v => exact refNum_ok Q s r least most hm hlm hs he w h
/-- Is this byte next? -/
def isX {α : Type} (x : Option α × List UInt8) (c : UInt8) : Bool := x.1.isSome && (x.2.head? == some c)
theorem is_X {α : Type} {Q : Nat} {s : List UInt8} (x : Option α × List UInt8) (c : UInt8) (he : EndOf s x.2) (w : World) (h : Rr w Q s x.2 x.1.isNone) :
    Calls Tryz.prog 16 #[.pointer (some ⟨Q, 0, none⟩), .int .u8 (c.toNat : Int)] w (IsPost (isX x c) w) := by
  obtain ⟨o, r⟩ := x
  cases o with
  | none => exact is_bad Q s r c w h
  | some v =>
    cases r with
    | nil => exact is_end Q s c w h
    | cons b r =>
      have k := is_byte Q s r b c he w h
      have e : isX (some v, b :: r) c = (b == c) := by simp [isX]
      rw [e]
      exact k
theorem isX_true {α : Type} {x : Option α × List UInt8} {c : UInt8} (h : isX x c = true) : ∃ v r, x = (some v, c :: r) := by
  obtain ⟨o, r⟩ := x
  unfold isX at h
  cases o with
  | none => cases h
  | some v =>
    cases r with
    | nil => simp at h
    | cons b r =>
      simp at h
      exact ⟨v, r, by rw [h]⟩
theorem isX_false {α : Type} {v : α} {r : List UInt8} {c : UInt8} (h : isX (some v, r) c = false) : ∀ r', r ≠ c :: r' := by
  rintro r' rfl
  simp [isX] at h

/-- Behind a category's number. -/
def setAft (f acc i : Nat) : Rdr Nat := andThen (sgn (behindL i)) fun b => if b = 125 then ret acc else setGo f acc (i + 1)
theorem set_aft {f acc least i : Nat} {s r : List UInt8} (h : num least 63 s = (some i, r)) : setGo (f + 1) acc least s = setAft f (acc ||| 2 ^ i) i r := by
  show andThen _ _ _ = _
  rw [then_of h]
  rfl
/-- At the loop's head: R is what the set's reader tells. -/
def AtLoop (R : Option Nat × List UInt8) (o : Option Nat) (r : List UInt8) (n : Int) (cc : Nat) : Prop :=
  (o = none ∧ R = (none, r)) ∨ ∃ i f, o = some i ∧ n = (i : Int) ∧ i ≤ 63 ∧ 64 ≤ f + i + 1 ∧ R = setAft f cc i r
theorem atLoop_num {f acc least : Nat} {s : List UInt8} {n : Int} {cc : Nat} (R : Option Nat × List UInt8) (hR : R = setGo (f + 1) acc least s) (hf : 64 ≤ f + 1 + least) (hn : ∀ m, (num least 63 s).1 = some m → n = (m : Int)) (hc : ∀ m : Nat, n = (m : Int) → m ≤ 63 → cc = acc ||| 2 ^ m) :
    AtLoop R (num least 63 s).1 (num least 63 s).2 n cc := by
  obtain ⟨⟨o, r⟩, hx⟩ : ∃ x, num least 63 s = x := ⟨_, rfl⟩
  rw [hx] at hn ⊢
  cases o with
  | none => exact Or.inl ⟨rfl, hR.trans (set_num_no hx)⟩
  | some i =>
    obtain ⟨_, h1, h2⟩ := num_text hx
    have hni := hn i rfl
    refine Or.inr ⟨i, f, rfl, hni, h2, by omega, ?_⟩
    rw [hc i hni h2]
    exact hR.trans (set_aft hx)
/-- Behind the loop: the closing sign. -/
theorem shut_loop {R : Option Nat × List UInt8} {o : Option Nat} {r : List UInt8} {n : Int} {cc : Nat} (h : AtLoop R o r n cc) (hs : isX (o, r) 44 = false ∨ ¬ n < 63) :
    (thenV (o, r) fun _ => sgn [125]).2 = R.2 ∧ (thenV (o, r) fun _ => sgn [125]).1.isNone = R.1.isNone ∧ (∀ c, R.1 = some c → cc = c) := by
  rcases h with ⟨rfl, rfl⟩ | ⟨i, f, rfl, rfl, h1, h2, rfl⟩
  · exact ⟨rfl, rfl, fun c h => by cases h⟩
  · show (sgn [125] r).2 = _ ∧ (sgn [125] r).1.isNone = _ ∧ _
    by_cases hr : ∃ r', r = 125 :: r'
    · obtain ⟨r', rfl⟩ := hr
      have e1 : sgn [125] (125 :: r') = (some 125, r') := sgn_hit r' (by decide)
      have e2 : setAft f cc i (125 :: r') = (some cc, r') := by
        unfold setAft
        rw [then_of (sgn_hit r' (show (behindL i).contains 125 = true by unfold behindL; split <;> decide))]
        rfl
      rw [e1, e2]
      exact ⟨rfl, rfl, fun c h => by injection h⟩
    · have hn : ∀ r', r ≠ 125 :: r' := fun r' e => hr ⟨r', e⟩
      have e1 : sgn [125] r = (none, r) := by
        cases r with
        | nil => rfl
        | cons b r =>
          refine sgn_no r (fun hc => ?_)
          simp at hc
          exact hn r (by rw [hc])
      have e2 : setAft f cc i r = (none, r) := by
        unfold setAft
        refine then_no ?_
        cases r with
        | nil => rfl
        | cons b r =>
          refine sgn_no r (fun hc => ?_)
          unfold behindL at hc
          split at hc
          · simp at hc
            exact hn r (by rw [hc])
          · rename_i h63
            simp at hc
            rcases hc with k | k
            · rcases hs with q | q
              · exact isX_false q r (by rw [k])
              · omega
            · exact hn r (by rw [k])
      rw [e1, e2]
      exact ⟨rfl, rfl, fun c h => by cases h⟩
theorem loop_goes {R : Option Nat × List UInt8} {o : Option Nat} {r' : List UInt8} {n : Int} {cc : Nat} (h : AtLoop R o (44 :: r') n cc) (ho : o.isSome = true) (hn : n < 63) : ∃ i f : Nat, n = (i : Int) ∧ i ≤ 62 ∧ 64 ≤ f + 1 + (i + 1) ∧ R = setGo (f + 1) cc (i + 1) r' := by
  rcases h with ⟨rfl, _⟩ | ⟨i, f, rfl, rfl, h1, h2, rfl⟩
  · cases ho
  · obtain ⟨f, rfl⟩ : ∃ f', f = f' + 1 := ⟨f - 1, by omega⟩
    refine ⟨i, f, rfl, by omega, by omega, ?_⟩
    unfold setAft
    rw [then_of (sgn_hit r' (show (behindL i).contains 44 = true by unfold behindL; rw [if_neg (by omega)]; decide))]
    rfl

/-- The last two stages, of a label whose level and categories are known. -/
def lastTwo (x : Option Nat × List UInt8) : Option Nat × List UInt8 := thenV (thenV x fun _ => sgn [73]) fun _ => num 0 7
theorem labA {s r : List UInt8} {l : Nat} (h : thenV (sgn [76] s) (fun _ => num 0 15) = (some l, 123 :: r)) :
    (∀ r6, lastTwo (setGo 64 0 0 r) = (none, r6) → lab s = (none, r6)) ∧ (∀ i r6, lastTwo (setGo 64 0 0 r) = (some i, r6) → ∃ c, (setGo 64 0 0 r).1 = some c ∧ lab s = andThen endR (fun _ => ret ⟨(l : Int), c, (i : Int)⟩) r6) := by
  obtain ⟨b1, r1, h1, h2⟩ := then_some h
  have h3 : sgn [123, 73] (123 :: r) = (some 123, r) := sgn_hit r (by decide)
  obtain ⟨⟨o4, r4⟩, hx4⟩ : ∃ x, setGo 64 0 0 r = x := ⟨_, rfl⟩
  rw [hx4]
  cases o4 with
  | none =>
    refine ⟨fun r6 h => ?_, fun i r6 h => by cases h⟩
    have e : r4 = r6 := by injection h
    rw [← e]
    exact no4 h1 h2 h3 hx4
  | some c =>
    obtain ⟨⟨o5, r5⟩, hx5⟩ : ∃ x, sgn [73] r4 = x := ⟨_, rfl⟩
    have e5 : lastTwo (some c, r4) = thenV (o5, r5) fun _ => num 0 7 := by
      show thenV (sgn [73] r4) _ = _
      rw [hx5]
    rw [e5]
    cases o5 with
    | none =>
      refine ⟨fun r6 h => ?_, fun i r6 h => by cases h⟩
      have e : r5 = r6 := by injection h
      rw [← e]
      exact no5 h1 h2 h3 hx4 hx5
    | some b5 =>
      exact ⟨fun r6 h => noA h1 h2 h3 hx4 hx5 h, fun i r6 h => ⟨c, rfl, tillA h1 h2 h3 hx4 hx5 h⟩⟩
theorem labB {s r2 : List UInt8} {o2 : Option Nat} (h : thenV (sgn [76] s) (fun _ => num 0 15) = (o2, r2)) (hn : isX (o2, r2) 123 = false) :
    (∀ r6, lastTwo (o2, r2) = (none, r6) → lab s = (none, r6)) ∧ (∀ i r6, lastTwo (o2, r2) = (some i, r6) → ∃ l : Nat, o2 = some l ∧ lab s = andThen endR (fun _ => ret ⟨(l : Int), 0, (i : Int)⟩) r6) := by
  obtain ⟨⟨o1, r1⟩, hx1⟩ : ∃ x, sgn [76] s = x := ⟨_, rfl⟩
  rw [hx1] at h
  cases o1 with
  | none =>
    have e : (none, r1) = (o2, r2) := h
    injection e with e1 e2
    subst e1 e2
    refine ⟨fun r6 h => ?_, fun i r6 h => by cases h⟩
    have e : r1 = r6 := by injection h
    rw [← e]
    exact no1 hx1
  | some b1 =>
    replace h : num 0 15 r1 = (o2, r2) := h
    cases o2 with
    | none =>
      refine ⟨fun r6 h' => ?_, fun i r6 h => by cases h⟩
      have e : r2 = r6 := by injection h'
      rw [← e]
      exact no2 hx1 h
    | some l =>
      have hne := isX_false hn
      by_cases hr : ∃ r', r2 = 73 :: r'
      · obtain ⟨r', rfl⟩ := hr
        have h3 : sgn [123, 73] (73 :: r') = (some 73, r') := sgn_hit r' (by decide)
        have e5 : lastTwo (some l, 73 :: r') = num 0 7 r' := by
          show thenV (sgn [73] (73 :: r')) _ = _
          rw [sgn_hit r' (by decide)]
          rfl
        rw [e5]
        exact ⟨fun r6 h' => noB hx1 h h3 h', fun i r6 h' => ⟨l, rfl, tillB hx1 h h3 h'⟩⟩
      · have hn73 : ∀ r', r2 ≠ 73 :: r' := fun r' e => hr ⟨r', e⟩
        have h3 : sgn [123, 73] r2 = (none, r2) := by
          cases r2 with
          | nil => rfl
          | cons b r2 =>
            refine sgn_no r2 (fun hc => ?_)
            simp at hc
            rcases hc with k | k
            · exact hne r2 (by rw [k])
            · exact hn73 r2 (by rw [k])
        have e5 : lastTwo (some l, r2) = (none, r2) := by
          have : sgn [73] r2 = (none, r2) := by
            cases r2 with
            | nil => rfl
            | cons b r2 =>
              refine sgn_no r2 (fun hc => ?_)
              simp at hc
              exact hn73 r2 (by rw [hc])
          show thenV (sgn [73] r2) _ = _
          rw [this]
          rfl
        rw [e5]
        refine ⟨fun r6 h' => ?_, fun i r6 h => by cases h⟩
        have e : r2 = r6 := by injection h'
        rw [← e]
        exact no3 hx1 h h3

/-- In between: the document's reader, the answer's room, the label so far. -/
structure MidR (w : World) (Q L : Nat) (s r : List UInt8) (bad : Bool) (x : Lab) (W : World) : Prop where
  rr : Rr W Q s r bad
  z : Lb3 W w.heap.size Lab.zero
  a : Lb3 W L x
  below : Below w.heap.size w W
theorem MidR.step {w : World} {Q L : Nat} {s r r' : List UInt8} {bad bad' : Bool} {x : Lab} {W W' : World} (h : MidR w Q L s r bad x W) (hQ : w.heap.size < Q) (hL : L ≠ Q) (k : W.grownBy W' (some Q)) (hr : Rr W' Q s r' bad') : MidR w Q L s r' bad' x W' :=
  ⟨hr, h.z.block (k.block _ h.z.lt (fun e => by injection e with e; omega)), h.a.block (k.block _ h.a.lt (fun e => hL (by injection e))), only_inner h.below (by omega) k⟩
theorem MidR.more {w : World} {Q L : Nat} {s r : List UInt8} {bad : Bool} {x : Lab} {W W' : World} (h : MidR w Q L s r bad x W) (k : Below W.heap.size W W') : MidR w Q L s r bad x W' :=
  ⟨h.rr.more k, h.z.block (k.block _ h.z.lt), h.a.block (k.block _ h.a.lt), below_more h.below k⟩
theorem MidR.set1 {w : World} {Q L : Nat} {s r : List UInt8} {bad : Bool} {x : Lab} {W : World} (h : MidR w Q L s r bad x W) (hL : L ≠ Q) (hN : w.heap.size < L) (v : Nat) : MidR w Q L s r bad ⟨x.l, v, x.i⟩ (W.setCell ⟨L, 1, none⟩ (.int .u64 (v : Int))) :=
  ⟨h.rr.block (Below.heap_setCell _ _ _ _ (by first | exact hL | exact hL.symm)), h.z.other (by omega) _, h.a.set1 v, h.below.setCell (p := ⟨L, 1, none⟩) (by simp; omega) _⟩
theorem MidR.set2 {w : World} {Q L : Nat} {s r : List UInt8} {bad : Bool} {x : Lab} {W : World} (h : MidR w Q L s r bad x W) (hL : L ≠ Q) (hN : w.heap.size < L) (v : Int) : MidR w Q L s r bad ⟨x.l, x.c, v⟩ (W.setCell ⟨L, 2, none⟩ (.int .i64 v)) :=
  ⟨h.rr.block (Below.heap_setCell _ _ _ _ (by first | exact hL | exact hL.symm)), h.z.other (by omega) _, h.a.set2 v, h.below.setCell (p := ⟨L, 2, none⟩) (by simp; omega) _⟩

end Go.Proofs.YtcjokjipgeaikaaGreatDoor
