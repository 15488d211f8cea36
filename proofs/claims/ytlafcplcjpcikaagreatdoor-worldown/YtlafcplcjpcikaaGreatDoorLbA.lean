/- Merged texts: Math, LabMath, Less, LabLeaf, LabJudge, LabEq, WdCmpP, LabKit, RefLess, LabRefU, WdCmp -/
import Derived.Laws.BitsAllLaws
import Derived.Test.YtlafcplcjpcikaaGreatDoorRows
import Derived.WalkKit
import Derived.WalkSpells
import Derived.WalkLawsBesides
import Derived.Lib.Hide
import Derived.Laws.Bits128
import Derived.Shelf.Abstract
import Derived.Deep.RegionWith
import Derived.Deep.RegionHeld3
import Derived.RangeFuncNested
import Derived.RangeFuncBound
import Derived.RangeFuncCalls
import Derived.RangeFuncLeaves
import Derived.RangeFuncBox
import Derived.Shelf.RegionOpen
import Derived.OwnWalkIn
import Derived.TacticsInMore
import Derived.LoopNIn
import Derived.LoopIn
import Derived.WalkMore
/- Plain facts on numbers below 2^64 as sets of categories: bits, counts, and the count by bytes. No program is named here. -/
namespace Go.Proofs.Cats

/-- A number of 64 bits. -/
def U64 (n : Nat) : Prop := n < 18446744073709551616

/-- Is i a category? -/
def okC (i : Int) : Bool := decide (0 ≤ i) && decide (i < 64)

/-- a's bits that are none of b's. -/
def lessN (a b : Nat) : Nat := a &&& (18446744073709551615 - b)






theorem lessN_testBit (a b i : Nat) (ha : U64 a) (hb : U64 b) : (lessN a b).testBit i = (a.testBit i && !b.testBit i) := by
  unfold U64 at ha hb
  unfold lessN
  rw [Nat.testBit_and]
  have e : 18446744073709551615 - b = 2 ^ 64 - (b + 1) := by omega
  rw [e, Nat.testBit_two_pow_sub_succ (by omega)]
  by_cases h : i < 64
  · simp [h]
  · have : a.testBit i = false := Nat.testBit_lt_two_pow (Nat.lt_of_lt_of_le (show a < 2 ^ 64 by omega) (Nat.pow_le_pow_right (by omega) (by omega)))
    simp [this]
























































theorem less_eq_zero (a b : Nat) (ha : U64 a) (hb : U64 b) (h : ∀ i, a.testBit i = true → b.testBit i = true) : lessN a b = 0 := by
  apply Nat.eq_of_testBit_eq
  intro i
  rw [lessN_testBit a b i ha hb, Nat.zero_testBit]
  cases e : a.testBit i
  · rfl
  · simp [h i e]

/-! ### The count by bytes -/














def g1 (m x : Nat) : Nat := (x / 2 &&& m) + (x &&& m)
def g2 (m x : Nat) : Nat := (x / 4 &&& m) + (x &&& m)
def g3 (m x : Nat) : Nat := (x / 16 + x) &&& m

theorem b1 : ∀ (b : Fin 256) (r : Fin 2), (b.val / 2 + 128 * r.val) &&& 85 = b.val / 2 &&& 85 := by decide +kernel
theorem b2 : ∀ (b : Fin 256) (r : Fin 4), (b.val / 4 + 64 * r.val) &&& 51 = b.val / 4 &&& 51 := by decide +kernel






















theorem b3 : ∀ (b : Fin 69) (r : Fin 5), (b.val / 16 + 16 * r.val + b.val) &&& 15 = (b.val / 16 + b.val) &&& 15 := by decide +kernel









/-- The masks of n bytes. -/
def mk (q : Nat) : Nat → Nat
  | 0 => 0
  | n + 1 => q + 256 * mk q n










































































































theorem okC_iff (i : Int) : okC i = true ↔ 0 ≤ i ∧ i < 64 := by simp [okC]








theorem beq_nat (n m : Nat) : ((n : Int) == (m : Int)) = (n == m) := by
  rw [Bool.eq_iff_iff]; simp; omega
theorem beq_nat0 (n : Nat) : ((n : Int) == 0) = (n == 0) := beq_nat n 0

end Go.Proofs.Cats

/- Plain facts on labels: a level, categories, an integrity. No program is named here. -/
namespace Go.Proofs.Cats

/-- A label's three numbers. -/
structure Lab where
  l : Int
  c : Nat
  i : Int

/-- What any three numbers of a machine are. -/
def Lab.fits (a : Lab) : Prop := U64 a.c

def Lab.right (a : Lab) : Bool := decide (0 ≤ a.l) && decide (a.l ≤ 15) && decide (0 ≤ a.i) && decide (a.i ≤ 7)
def Lab.leq (a b : Lab) : Bool := decide (a.l ≤ b.l) && (lessN a.c b.c == 0) && decide (b.i ≤ a.i)
def Lab.under (a b : Lab) : Bool := a.right && b.right && a.leq b
def Lab.join (a b : Lab) : Lab := ⟨max a.l b.l, a.c ||| b.c, min a.i b.i⟩
def Lab.meet (a b : Lab) : Lab := ⟨min a.l b.l, a.c &&& b.c, max a.i b.i⟩
def Lab.bot : Lab := ⟨0, 0, 7⟩
def Lab.top : Lab := ⟨15, 18446744073709551615, 0⟩
def Lab.zero : Lab := ⟨0, 0, 0⟩
def Lab.same (a b : Lab) : Bool := a.l == b.l && a.c == b.c && a.i == b.i
def Lab.ahead (a b : Lab) : Bool := if a.l != b.l then decide (a.l < b.l) else if a.c != b.c then decide (a.c < b.c) else decide (a.i < b.i)
def Lab.cmp (a b : Lab) : Int := if a.same b then 0 else if a.ahead b then -1 else 1

theorem Lab.ext {a b : Lab} (h1 : a.l = b.l) (h2 : a.c = b.c) (h3 : a.i = b.i) : a = b := by
  cases a; cases b; simp_all
theorem Lab.same_iff (a b : Lab) : a.same b = true ↔ a = b := by
  constructor
  · intro h
    simp [Lab.same] at h
    exact Lab.ext h.1.1 h.1.2 h.2
  · rintro rfl; simp [Lab.same]

/-- One set is in another one. -/
def SubN (a b : Nat) : Prop := ∀ i, a.testBit i = true → b.testBit i = true
theorem sub_iff (a b : Nat) (ha : U64 a) (hb : U64 b) : (lessN a b == 0) = true ↔ SubN a b := by
  constructor
  · intro h i hi
    have h0 : lessN a b = 0 := by simpa using h
    have := lessN_testBit a b i ha hb
    rw [h0, Nat.zero_testBit, hi] at this
    cases e : b.testBit i
    · simp [e] at this
    · rfl
  · intro h
    have := less_eq_zero a b ha hb h
    simp [this]
theorem SubN.antisymm {a b : Nat} (h : SubN a b) (k : SubN b a) : a = b := by
  apply Nat.eq_of_testBit_eq
  intro i
  have h1 := h i
  have h2 := k i
  cases e : a.testBit i <;> cases f : b.testBit i <;> simp_all
theorem SubN.trans {a b c : Nat} (h : SubN a b) (k : SubN b c) : SubN a c := fun i hi => k i (h i hi)
theorem SubN.refl (a : Nat) : SubN a a := fun _ h => h


theorem SubN.or {a b c : Nat} (h : SubN a c) (k : SubN b c) : SubN (a ||| b) c := fun i hi => by
  rw [Nat.testBit_or, Bool.or_eq_true] at hi
  rcases hi with hi | hi
  · exact h i hi
  · exact k i hi
theorem SubN.and_left (a b : Nat) : SubN (a &&& b) a := fun i h => by rw [Nat.testBit_and, Bool.and_eq_true] at h; exact h.1

theorem SubN.and {a b c : Nat} (h : SubN c a) (k : SubN c b) : SubN c (a &&& b) := fun i hi => by
  rw [Nat.testBit_and, h i hi, k i hi]; rfl
theorem SubN.zero (a : Nat) : SubN 0 a := fun i h => by simp at h
theorem SubN.all (a : Nat) (ha : U64 a) : SubN a 18446744073709551615 := fun i h => by
  have e : (18446744073709551615 : Nat) = 2 ^ 64 - 1 := rfl
  rw [e, Nat.testBit_two_pow_sub_one]
  by_cases hi : i < 64
  · simp [hi]
  · have : a.testBit i = false := Nat.testBit_lt_two_pow (Nat.lt_of_lt_of_le (show a < 2 ^ 64 from ha) (Nat.pow_le_pow_right (by omega) (by omega)))
    rw [this] at h; cases h
theorem SubN.le {a b : Nat} (h : SubN a b) : a ≤ b := by
  have e : a &&& b = a := (SubN.and_left a b).antisymm (SubN.and (SubN.refl a) h)
  rw [← e]; exact Nat.and_le_right

theorem U64.or {a b : Nat} (ha : U64 a) (hb : U64 b) : U64 (a ||| b) := Nat.or_lt_two_pow (n := 64) ha hb
theorem U64.and {a : Nat} (ha : U64 a) (b : Nat) : U64 (a &&& b) := Nat.lt_of_le_of_lt Nat.and_le_left ha

theorem Lab.right_iff (a : Lab) : a.right = true ↔ 0 ≤ a.l ∧ a.l ≤ 15 ∧ 0 ≤ a.i ∧ a.i ≤ 7 := by
  unfold Lab.right
  simp only [Bool.and_eq_true, decide_eq_true_iff, and_assoc]
theorem Lab.leq_iff (a b : Lab) (ha : a.fits) (hb : b.fits) : a.leq b = true ↔ a.l ≤ b.l ∧ SubN a.c b.c ∧ b.i ≤ a.i := by
  unfold Lab.leq
  simp only [Bool.and_eq_true, decide_eq_true_iff, sub_iff a.c b.c ha hb, and_assoc]




theorem Lab.fits_bot : Lab.bot.fits := by unfold Lab.fits Lab.bot U64; decide
theorem Lab.fits_top : Lab.top.fits := by unfold Lab.fits Lab.top U64; decide
theorem Lab.fits.join {a b : Lab} (ha : a.fits) (hb : b.fits) : (a.join b).fits := U64.or ha hb
theorem Lab.fits.meet {a b : Lab} (ha : a.fits) (_hb : b.fits) : (a.meet b).fits := U64.and ha _






/-- What lies between the bottom and the top is a label. -/
theorem Lab.between (a : Lab) (ha : a.fits) : (Lab.bot.leq a && a.leq Lab.top) = a.right := by
  rw [Bool.eq_iff_iff, Bool.and_eq_true, Lab.leq_iff _ _ Lab.fits_bot ha, Lab.leq_iff _ _ ha Lab.fits_top, Lab.right_iff]
  simp only [Lab.bot, Lab.top]
  constructor
  · rintro ⟨⟨h1, _, h2⟩, h3, _, h4⟩; omega
  · rintro ⟨h1, h2, h3, h4⟩; exact ⟨⟨h1, SubN.zero _, h4⟩, h2, SubN.all _ ha, h3⟩









end Go.Proofs.Cats

/- The contracts of cats.Less and cats.Sub. -/
namespace Go.Proofs.YtlafcplcjpcikaaGreatDoor.Lb
open Go.RowKit Go.Proofs.Cats

set_option maxHeartbeats 400000 in
theorem less_any (a b : Nat) (ha : U64 a) (hb : U64 b) (w : World) :
    Calls Tryz.prog 87 #[.int .u64 a, .int .u64 b] w fun e w' => e = .returned (.int .u64 (lessN a b : Nat)) ∧ w = w' := by
  go_enter Tryz.func87, Tryz.ntmps87
  go_wp2
  go_ret
  exact ⟨by rw [u64_andNot_nat a b ha hb]; rfl, rfl⟩

set_option maxHeartbeats 400000 in
theorem sub_any (a b : Nat) (ha : U64 a) (hb : U64 b) (w : World) :
    Calls Tryz.prog 69 #[.int .u64 a, .int .u64 b] w fun e w' => e = .returned (.bool (lessN a b == 0)) ∧ w = w' := by
  go_enter Tryz.func69, Tryz.ntmps69
  go_wp2_with (go_at_call 87; refine (less_any a b ha hb _).mono ?_; rintro e w' ⟨rfl, rfl⟩)
  go_ret
  exact ⟨congrArg (fun b => Ending.returned (.bool b)) (beq_nat0 _), rfl⟩

end Go.Proofs.YtlafcplcjpcikaaGreatDoor.Lb

/- The contracts of label's leaves: Bottom, Top, under, judge, Right, Under, join, meet, before, Compare. -/
namespace Go.Proofs.YtlafcplcjpcikaaGreatDoor.Lb
open Go.RowKit Go.Proofs.Cats

theorem bcell {W w1 : World} (hb : Below W.heap.size W w1) : (∀ b o, b < W.heap.size → w1.cell? ⟨b, o, none⟩ = W.cell? ⟨b, o, none⟩) ∧ (∀ b o, b < W.heap.size → w1.frozen? ⟨b, o, none⟩ = W.frozen? ⟨b, o, none⟩) :=
  ⟨fun b o h => hb.cell (p := ⟨b, o, none⟩) h, fun b o h => hb.frozen (p := ⟨b, o, none⟩) h⟩
theorem below_more {n : Nat} {w w1 w2 : World} (h : Below n w w1) (k : Below w1.heap.size w1 w2) (hn : n ≤ w.heap.size := by exact Nat.le_refl _) : Below n w w2 := h.trans (k.mono (Nat.le_trans hn h.size))
theorem Below.new (w : World) (o : Obj) : Below w.heap.size w (w.alloc o) := (Below.refl _ w).alloc (Nat.le_refl _) _

set_option maxHeartbeats 400000 in
theorem bottom_at (w : World) :
    Calls Tryz.prog 30 #[] w fun e w' => e = .returned (.agg #[.int .i64 0, .int .u64 0, .int .i64 7]) ∧ w.alloc (.cells #[.int .i64 0, .int .u64 0, .int .i64 7] 25) = w' := by
  go_enter Tryz.func30, Tryz.ntmps30
  go_wp2
  exact bodyPost_ret (v := .agg #[.int .i64 0, .int .u64 0, .int .i64 7]) (by simp [results, Tryz.results30, go_sem]) rfl ⟨rfl, rfl⟩

theorem bottom_any (w : World) :
    Calls Tryz.prog 30 #[] w fun e w' => e = .returned (.agg #[.int .i64 0, .int .u64 0, .int .i64 7]) ∧ Below w.heap.size w w' :=
  (bottom_at w).mono fun _ _ ⟨he, hw⟩ => ⟨he, hw ▸ Below.new _ _⟩

set_option maxHeartbeats 400000 in
theorem top_at (w : World) :
    Calls Tryz.prog 27 #[] w fun e w' => e = .returned (.agg #[.int .i64 15, .int .u64 18446744073709551615, .int .i64 0]) ∧ w.alloc (.cells #[.int .i64 15, .int .u64 18446744073709551615, .int .i64 0] 25) = w' := by
  go_enter Tryz.func27, Tryz.ntmps27
  go_wp2
  exact bodyPost_ret (v := .agg #[.int .i64 15, .int .u64 18446744073709551615, .int .i64 0]) (by simp [results, Tryz.results27, go_sem]) rfl ⟨rfl, rfl⟩

theorem top_any (w : World) :
    Calls Tryz.prog 27 #[] w fun e w' => e = .returned (.agg #[.int .i64 15, .int .u64 18446744073709551615, .int .i64 0]) ∧ Below w.heap.size w w' :=
  (top_at w).mono fun _ _ ⟨he, hw⟩ => ⟨he, hw ▸ Below.new _ _⟩

set_option maxHeartbeats 400000 in
theorem under_at (a b : Lab) (ha : a.fits) (hb : b.fits) (w : World) :
    Calls Tryz.prog 50 #[.agg #[.int .i64 a.l, .int .u64 a.c, .int .i64 a.i, .int .i64 b.l, .int .u64 b.c, .int .i64 b.i]] w fun e w' => e = .returned (.bool (a.leq b)) ∧ w.alloc (.cells #[.int .i64 a.l, .int .u64 a.c, .int .i64 a.i, .int .i64 b.l, .int .u64 b.c, .int .i64 b.i] 79) = w' := by
  by_cases h1 : a.l ≤ b.l
  · by_cases h2 : (lessN a.c b.c == 0) = true
    · have ev : a.leq b = decide (b.i ≤ a.i) := by unfold Lab.leq; rw [decide_eq_true h1, h2]; rfl
      rw [ev]
      have H2 := Lib.hid h2
      clear ev h2
      go_enter Tryz.func50, Tryz.ntmps50
      go_wp2_with fail
      refine (sub_any a.c b.c ha hb _).mono ?_
      rintro e w1 ⟨he, rfl⟩
      rw [H2.out] at he
      subst he
      go_wp2
      go_ret
      exact ⟨rfl, rfl⟩
    · have ev : a.leq b = false := by unfold Lab.leq; rw [Bool.eq_false_iff.2 h2]; simp
      rw [ev]
      have H2 := Lib.hid h2
      clear ev h2
      go_enter Tryz.func50, Tryz.ntmps50
      go_wp2_with fail
      refine (sub_any a.c b.c ha hb _).mono ?_
      rintro e w1 ⟨he, rfl⟩
      rw [Bool.eq_false_iff.2 H2.out] at he
      subst he
      go_wp2
      go_ret
      exact ⟨rfl, rfl⟩
  · have ev : a.leq b = false := by unfold Lab.leq; rw [decide_eq_false h1]; rfl
    rw [ev]
    clear ev
    go_enter Tryz.func50, Tryz.ntmps50
    go_wp2
    go_ret
    exact ⟨rfl, rfl⟩

theorem under_any (a b : Lab) (ha : a.fits) (hb : b.fits) (w : World) :
    Calls Tryz.prog 50 #[.agg #[.int .i64 a.l, .int .u64 a.c, .int .i64 a.i, .int .i64 b.l, .int .u64 b.c, .int .i64 b.i]] w fun e w' => e = .returned (.bool (a.leq b)) ∧ Below w.heap.size w w' :=
  (under_at a b ha hb w).mono fun _ _ ⟨he, hw⟩ => ⟨he, hw ▸ Below.new _ _⟩

/-- What judge tells: nil, or what is no label. -/
def errL (a : Lab) : Value := if a.right then .nilIface else .iface 127 (.agg #[.int .i64 a.l, .int .u64 a.c, .int .i64 a.i])

theorem under_bot (a : Lab) (ha : a.fits) (b : Bool) (h : Hid (Lab.bot.leq a = b)) (w : World) :
    Calls Tryz.prog 50 #[.agg #[.int .i64 0, .int .u64 0, .int .i64 7, .int .i64 a.l, .int .u64 a.c, .int .i64 a.i]] w fun e w' => e = .returned (.bool b) ∧ Below w.heap.size w w' := by
  have := under_any Lab.bot a Lab.fits_bot ha w
  rw [h.out] at this
  exact this
theorem top_c : ((Lab.top.c : Nat) : Int) = 18446744073709551615 := rfl
theorem under_top (a : Lab) (ha : a.fits) (b : Bool) (h : Hid (a.leq Lab.top = b)) (w : World) :
    Calls Tryz.prog 50 #[.agg #[.int .i64 a.l, .int .u64 a.c, .int .i64 a.i, .int .i64 15, .int .u64 18446744073709551615, .int .i64 0]] w fun e w' => e = .returned (.bool b) ∧ Below w.heap.size w w' := by
  have := under_any a Lab.top ha Lab.fits_top w
  rw [h.out, top_c] at this
  exact this

end Go.Proofs.YtlafcplcjpcikaaGreatDoor.Lb

/- The contracts of judge, Right, Under. -/
namespace Go.Proofs.YtlafcplcjpcikaaGreatDoor.Lb
open Go.RowKit Go.Proofs.Cats

set_option maxHeartbeats 1000000 in
theorem judge_in (a : Lab) (ha : a.fits) (H1 : Hid (Lab.bot.leq a = true)) (H2 : Hid (a.leq Lab.top = true)) (w : World) :
    Calls Tryz.prog 68 #[.agg #[.int .i64 a.l, .int .u64 a.c, .int .i64 a.i]] w fun e w' => e = .returned (.nilIface) ∧ Below w.heap.size w w' := by
  go_enter Tryz.func68, Tryz.ntmps68
  go_wp2_with fail
  go_region_held3 (fun w' => w'.cell? ⟨w.heap.size, 0, none⟩ = some (.int .i64 a.l) ∧ w'.cell? ⟨w.heap.size, 1, none⟩ = some (.int .u64 a.c) ∧ w'.cell? ⟨w.heap.size, 2, none⟩ = some (.int .i64 a.i) ∧ Below w.heap.size w w')
    (first | (go_split_ands; exact ⟨cell_later hb (by assumption), cell_later hb (by assumption), cell_later hb (by assumption), below_more (by assumption) hb⟩) | (exact ⟨by simp, by simp, by simp, (Below.new _ _).drew⟩) | (go_keep; done))
    (first
    | (go_at_call 30; ((with_reducible refine (bottom_any _).mono ?_); rintro e w' ⟨rfl, hb⟩))
    | (go_at_call 27; ((with_reducible refine (top_any _).mono ?_); rintro e w' ⟨rfl, hb⟩))
    | (go_at_call 50; ((with_reducible refine (under_bot a ha true H1 _).mono ?_); rintro e w' ⟨rfl, hb⟩))
    | (go_at_call 50; ((with_reducible refine (under_top a ha true H2 _).mono ?_); rintro e w' ⟨rfl, hb⟩)))
  go_split_ands
  go_wp2
  go_ret
  exact ⟨rfl, by assumption⟩

set_option maxHeartbeats 1000000 in
theorem judge_top (a : Lab) (ha : a.fits) (H1 : Hid (Lab.bot.leq a = true)) (H2 : Hid (a.leq Lab.top = false)) (w : World) :
    Calls Tryz.prog 68 #[.agg #[.int .i64 a.l, .int .u64 a.c, .int .i64 a.i]] w fun e w' => e = .returned (.iface 127 (.agg #[.int .i64 a.l, .int .u64 a.c, .int .i64 a.i])) ∧ Below w.heap.size w w' := by
  go_enter Tryz.func68, Tryz.ntmps68
  go_wp2_with fail
  go_region_held3 (fun w' => w'.cell? ⟨w.heap.size, 0, none⟩ = some (.int .i64 a.l) ∧ w'.cell? ⟨w.heap.size, 1, none⟩ = some (.int .u64 a.c) ∧ w'.cell? ⟨w.heap.size, 2, none⟩ = some (.int .i64 a.i) ∧ Below w.heap.size w w')
    (first | (go_split_ands; exact ⟨cell_later hb (by assumption), cell_later hb (by assumption), cell_later hb (by assumption), below_more (by assumption) hb⟩) | (exact ⟨by simp, by simp, by simp, (Below.new _ _).drew⟩) | (go_keep; done))
    (first
    | (go_at_call 30; ((with_reducible refine (bottom_any _).mono ?_); rintro e w' ⟨rfl, hb⟩))
    | (go_at_call 27; ((with_reducible refine (top_any _).mono ?_); rintro e w' ⟨rfl, hb⟩))
    | (go_at_call 50; ((with_reducible refine (under_bot a ha true H1 _).mono ?_); rintro e w' ⟨rfl, hb⟩))
    | (go_at_call 50; ((with_reducible refine (under_top a ha false H2 _).mono ?_); rintro e w' ⟨rfl, hb⟩)))
  go_split_ands
  go_wp2
  go_ret
  exact ⟨rfl, by assumption⟩

theorem under_bot_at (a : Lab) (ha : a.fits) (b : Bool) (h : Hid (Lab.bot.leq a = b)) (w : World) :
    Calls Tryz.prog 50 #[.agg #[.int .i64 0, .int .u64 0, .int .i64 7, .int .i64 a.l, .int .u64 a.c, .int .i64 a.i]] w fun e w' => e = .returned (.bool b) ∧ w.alloc (.cells #[.int .i64 0, .int .u64 0, .int .i64 7, .int .i64 a.l, .int .u64 a.c, .int .i64 a.i] 79) = w' := by
  have := under_at Lab.bot a Lab.fits_bot ha w
  rw [h.out] at this
  exact this

set_option maxHeartbeats 1000000 in
theorem judge_bot (a : Lab) (ha : a.fits) (H1 : Hid (Lab.bot.leq a = false)) (w : World) :
    Calls Tryz.prog 68 #[.agg #[.int .i64 a.l, .int .u64 a.c, .int .i64 a.i]] w fun e w' => e = .returned (.iface 127 (.agg #[.int .i64 a.l, .int .u64 a.c, .int .i64 a.i])) ∧ Below w.heap.size w w' := by
  go_enter Tryz.func68, Tryz.ntmps68
  go_wp2_with fail
  go_region_with (first
    | (go_at_call 30; ((with_reducible refine (bottom_at _).mono ?_); rintro e w' ⟨rfl, rfl⟩))
    | (go_at_call 50; ((with_reducible refine (under_bot_at a ha false H1 _).mono ?_); rintro e w' ⟨rfl, rfl⟩)))
  all_goals go_wp2
  all_goals go_ret
  all_goals exact ⟨rfl, ((((Below.refl _ w).alloc (Nat.le_refl _) _).alloc (by simp) _).alloc (by simp; omega) _).drew⟩

theorem judge_any (a : Lab) (ha : a.fits) (w : World) :
    Calls Tryz.prog 68 #[.agg #[.int .i64 a.l, .int .u64 a.c, .int .i64 a.i]] w fun e w' => e = .returned (errL a) ∧ Below w.heap.size w w' := by
  have h := Lab.between a ha
  unfold errL
  cases h1 : Lab.bot.leq a
  · rw [h1] at h
    rw [← h]
    exact judge_bot a ha (Lib.hid h1) w
  · cases h2 : a.leq Lab.top
    · rw [h1, h2] at h
      rw [← h]
      exact judge_top a ha (Lib.hid h1) (Lib.hid h2) w
    · rw [h1, h2] at h
      rw [← h]
      exact judge_in a ha (Lib.hid h1) (Lib.hid h2) w

theorem errL_yes (a : Lab) (h : a.right = true) : errL a = .nilIface := by unfold errL; rw [h]; rfl
theorem errL_no (a : Lab) (h : a.right = false) : errL a = .iface 127 (.agg #[.int .i64 a.l, .int .u64 a.c, .int .i64 a.i]) := by unfold errL; rw [h]; rfl

set_option maxHeartbeats 400000 in
theorem right_any (a : Lab) (ha : a.fits) (w : World) :
    Calls Tryz.prog 49 #[.agg #[.int .i64 a.l, .int .u64 a.c, .int .i64 a.i]] w fun e w' => e = .returned (.bool a.right) ∧ Below w.heap.size w w' := by
  cases h : a.right
  · have H := Lib.hid (errL_no a h)
    clear h
    go_enter Tryz.func49, Tryz.ntmps49
    go_wp2_with fail
    refine (judge_any a ha _).mono ?_
    rintro e w1 ⟨he, hb⟩
    rw [H.out] at he
    subst he
    go_wp2
    go_ret
    exact ⟨rfl, below_more (Below.new _ _) hb⟩
  · have H := Lib.hid (errL_yes a h)
    clear h
    go_enter Tryz.func49, Tryz.ntmps49
    go_wp2_with fail
    refine (judge_any a ha _).mono ?_
    rintro e w1 ⟨he, hb⟩
    rw [H.out] at he
    subst he
    go_wp2
    go_ret
    exact ⟨rfl, below_more (Below.new _ _) hb⟩


theorem under_no (a b : Lab) (h : a.right = false) : a.under b = false := by unfold Lab.under; rw [h]; rfl
theorem under_no2 (a b : Lab) (h : b.right = false) : a.under b = false := by unfold Lab.under; rw [h, Bool.and_false]; rfl
theorem under_yes (a b : Lab) (h : a.right = true) (k : b.right = true) : a.under b = a.leq b := by unfold Lab.under; rw [h, k]; rfl

set_option maxHeartbeats 400000 in
theorem Under_any (a b : Lab) (ha : a.fits) (hb : b.fits) (w : World) :
    Calls Tryz.prog 26 #[.agg #[.int .i64 a.l, .int .u64 a.c, .int .i64 a.i], .agg #[.int .i64 b.l, .int .u64 b.c, .int .i64 b.i]] w fun e w' => e = .returned (.bool (a.under b)) ∧ Below w.heap.size w w' := by
  have B2 : Below w.heap.size w ((w.alloc (.cells #[.int .i64 a.l, .int .u64 a.c, .int .i64 a.i] 25)).alloc (.cells #[.int .i64 b.l, .int .u64 b.c, .int .i64 b.i] 25)) := (Below.new _ _).alloc (by simp) _
  cases h : a.right
  · have H := Lib.hid h
    rw [under_no a b h]
    clear h
    go_enter Tryz.func26, Tryz.ntmps26
    go_wp2_with fail
    refine (right_any a ha _).mono ?_
    rintro e w1 ⟨he, h1⟩
    rw [H.out] at he
    subst he
    go_wp2
    go_ret
    exact ⟨rfl, below_more B2 h1⟩
  · cases k : b.right
    · have H := Lib.hid h
      have K := Lib.hid k
      rw [under_no2 a b k]
      clear h k
      go_enter Tryz.func26, Tryz.ntmps26
      go_wp2_with fail
      refine (right_any a ha _).mono ?_
      rintro e w1 ⟨he, h1⟩
      rw [H.out] at he
      subst he
      obtain ⟨hc, _⟩ := bcell h1
      go_wp2_with fail
      refine (right_any b hb _).mono ?_
      rintro e w2 ⟨he, h2⟩
      rw [K.out] at he
      subst he
      go_wp2
      go_ret
      exact ⟨rfl, below_more (below_more B2 h1) h2⟩
    · have H := Lib.hid h
      have K := Lib.hid k
      rw [under_yes a b h k]
      clear h k
      go_enter Tryz.func26, Tryz.ntmps26
      go_wp2_with fail
      refine (right_any a ha _).mono ?_
      rintro e w1 ⟨he, h1⟩
      rw [H.out] at he
      subst he
      have c0 : w1.cell? ⟨w.heap.size, 0, none⟩ = some (.int .i64 a.l) := cell_later h1 (by simp)
      have c1 : w1.cell? ⟨w.heap.size, 1, none⟩ = some (.int .u64 a.c) := cell_later h1 (by simp)
      have c2 : w1.cell? ⟨w.heap.size, 2, none⟩ = some (.int .i64 a.i) := cell_later h1 (by simp)
      have d0 : w1.cell? ⟨w.heap.size + 1, 0, none⟩ = some (.int .i64 b.l) := cell_later h1 (by simp)
      have d1 : w1.cell? ⟨w.heap.size + 1, 1, none⟩ = some (.int .u64 b.c) := cell_later h1 (by simp)
      have d2 : w1.cell? ⟨w.heap.size + 1, 2, none⟩ = some (.int .i64 b.i) := cell_later h1 (by simp)
      go_wp2_with fail
      refine (right_any b hb _).mono ?_
      rintro e w2 ⟨he, h2⟩
      rw [K.out] at he
      subst he
      replace c0 := cell_later h2 c0
      replace c1 := cell_later h2 c1
      replace c2 := cell_later h2 c2
      replace d0 := cell_later h2 d0
      replace d1 := cell_later h2 d1
      replace d2 := cell_later h2 d2
      go_wp2_with fail
      refine (under_any a b ha hb _).mono ?_
      rintro e w3 ⟨rfl, h3⟩
      go_wp2
      go_ret
      exact ⟨rfl, below_more (below_more (below_more B2 h1) h2) h3⟩

end Go.Proofs.YtlafcplcjpcikaaGreatDoor.Lb

/- label == label, in the walk. -/
namespace Go.Proofs.YtlafcplcjpcikaaGreatDoor.Lb
open Go.RowKit Go.Proofs.Cats



set_option maxHeartbeats 400000 in
theorem eqInL (a b : Lab) (w : World) : (Op.equalIn 10000 25 (.agg #[.int .i64 a.l, .int .u64 a.c, .int .i64 a.i]) (.agg #[.int .i64 b.l, .int .u64 b.c, .int .i64 b.i])).run Tryz.prog w = .ok (a.same b) w := by
  by_cases h1 : a.l = b.l
  · by_cases h2 : a.c = b.c
    · have ev : a.same b = (a.i == b.i) := by unfold Lab.same; simp [h1, h2]
      rw [ev, h1, h2]
      clear ev
      by_cases h3 : a.i = b.i
      · rw [h3]
        go_simp
      · have k2 : (a.i == b.i) = false := by simp [h3]
        rw [k2]
        go_simp
    · have ev : a.same b = false := by unfold Lab.same; simp [h2]
      have k2 : (((a.c : Nat) : Int) == ((b.c : Nat) : Int)) = false := by simp; omega
      rw [ev, h1]
      go_simp
  · have ev : a.same b = false := by unfold Lab.same; simp [h1]
    have k2 : (a.l == b.l) = false := by simp [h1]
    rw [ev]
    go_simp
theorem eqL (a b : Lab) (w : World) : (binOp .eql 25 (.agg #[.int .i64 a.l, .int .u64 a.c, .int .i64 a.i]) (.agg #[.int .i64 b.l, .int .u64 b.c, .int .i64 b.i])).run Tryz.prog w = .ok (.bool (a.same b)) w := by
  rw [run_eql_struct, eqInL]; rfl

end Go.Proofs.YtlafcplcjpcikaaGreatDoor.Lb

/- The program's Compare of labels. -/
namespace Go.Proofs.YtlafcplcjpcikaaGreatDoor.Lb
open Go.RowKit Go.Proofs.Cats

set_option maxHeartbeats 400000 in
theorem before_any (a b : Lab) (w : World) :
    Calls Tryz.prog 91 #[.agg #[.int .i64 a.l, .int .u64 a.c, .int .i64 a.i, .int .i64 b.l, .int .u64 b.c, .int .i64 b.i]] w fun e w' => e = .returned (.bool (a.ahead b)) ∧ Below w.heap.size w w' := by
  by_cases h1 : a.l = b.l
  · by_cases h2 : a.c = b.c
    · have ev : a.ahead b = decide (a.i < b.i) := by unfold Lab.ahead; rw [h1, h2]; simp
      rw [ev, ← h1, ← h2]
      clear ev h1 h2
      go_enter Tryz.func91, Tryz.ntmps91
      go_wp2
      go_ret
      exact ⟨rfl, Below.new _ _⟩
    · have ev : a.ahead b = decide (a.c < b.c) := by unfold Lab.ahead; rw [h1]; simp [h2]
      have k1 : (((a.c : Nat) : Int) != ((b.c : Nat) : Int)) = true := by simp; omega
      have k2 : (((a.c : Nat) : Int) == ((b.c : Nat) : Int)) = false := by simp; omega
      rw [ev, ← h1]
      clear ev h1 h2
      go_enter Tryz.func91, Tryz.ntmps91
      go_wp2
      go_ret
      exact ⟨rfl, Below.new _ _⟩
  · have ev : a.ahead b = decide (a.l < b.l) := by unfold Lab.ahead; simp [h1]
    have k1 : (a.l != b.l) = true := by simp [h1]
    have k2 : (a.l == b.l) = false := by simp [h1]
    rw [ev]
    clear ev h1
    go_enter Tryz.func91, Tryz.ntmps91
    go_wp2
    go_ret
    exact ⟨rfl, Below.new _ _⟩

set_option maxHeartbeats 400000 in
theorem compare_any (a b : Lab) (w : World) :
    Calls Tryz.prog 77 #[.agg #[.int .i64 a.l, .int .u64 a.c, .int .i64 a.i], .agg #[.int .i64 b.l, .int .u64 b.c, .int .i64 b.i]] w fun e w' => e = .returned (.int .i64 (a.cmp b)) ∧ Below w.heap.size w w' := by
  have q1 := eqL a b
  have q2 := eqInL a b
  have B2 : Below w.heap.size w ((w.alloc (.cells #[.int .i64 a.l, .int .u64 a.c, .int .i64 a.i] 25)).alloc (.cells #[.int .i64 b.l, .int .u64 b.c, .int .i64 b.i] 25)) := (Below.new _ _).alloc (by simp) _
  cases h : a.same b
  · cases k : a.ahead b
    · rw [show a.cmp b = 1 by unfold Lab.cmp; rw [h, k]; rfl]
      have K := Lib.hid k
      clear k
      go_enter Tryz.func77, Tryz.ntmps77
      go_wp2_with fail
      refine (before_any a b _).mono ?_
      rintro e w1 ⟨he, hb⟩
      rw [K.out] at he
      subst he
      go_wp2
      go_ret
      exact ⟨rfl, below_more B2 hb⟩
    · rw [show a.cmp b = -1 by unfold Lab.cmp; rw [h, k]; rfl]
      have K := Lib.hid k
      clear k
      go_enter Tryz.func77, Tryz.ntmps77
      go_wp2_with fail
      refine (before_any a b _).mono ?_
      rintro e w1 ⟨he, hb⟩
      rw [K.out] at he
      subst he
      go_wp2
      go_ret
      exact ⟨rfl, below_more B2 hb⟩
  · rw [show a.cmp b = 0 by unfold Lab.cmp; rw [h]; rfl]
    go_enter Tryz.func77, Tryz.ntmps77
    go_wp2
    go_ret
    exact ⟨rfl, B2⟩
end Go.Proofs.YtlafcplcjpcikaaGreatDoor.Lb

/- How labels lie in memory; writing a cell. -/
namespace Go.Proofs.YtlafcplcjpcikaaGreatDoor.Lb
open Go.RowKit Go.Proofs.Cats Go.Shelf

/-- The three cells of a label, at block b from o on. -/
def LabAt (W : World) (b o : Nat) (x : Lab) : Prop :=
  W.cell? ⟨b, o, none⟩ = some (.int .i64 x.l) ∧ W.cell? ⟨b, o + 1, none⟩ = some (.int .u64 x.c) ∧ W.cell? ⟨b, o + 2, none⟩ = some (.int .i64 x.i)
theorem LabAt.below {n : Nat} {A B : World} {b o : Nat} {x : Lab} (h : LabAt A b o x) (k : Below n A B) (hb : b < n) : LabAt B b o x :=
  ⟨(k.cell (p := ⟨b, o, none⟩) hb).trans h.1, (k.cell (p := ⟨b, o + 1, none⟩) hb).trans h.2.1, (k.cell (p := ⟨b, o + 2, none⟩) hb).trans h.2.2⟩

/-- The slice value sv holds the labels zs, in a block below n₀, if there are any. -/
def Labs (n₀ : Nat) (W : World) (sv : Value) (zs : List Lab) : Prop :=
  ∃ ao cap, sv = .slice ao zs.length cap ∧ (zs ≠ [] → ∃ b off, ao = some ⟨b, off, none⟩ ∧ b < n₀ ∧ ∀ j x, zs[j]? = some x → x.fits ∧ LabAt W b (off + j * 3) x)
theorem Labs.below {n₀ : Nat} {A B : World} (h : Below n₀ A B) {sv : Value} {zs : List Lab} : Labs n₀ A sv zs → Labs n₀ B sv zs
  | ⟨ao, cap, e, k⟩ => ⟨ao, cap, e, fun hz => let ⟨b, off, e1, hb, hc⟩ := k hz; ⟨b, off, e1, hb, fun j x hj => ⟨(hc j x hj).1, (hc j x hj).2.below h hb⟩⟩⟩
theorem Labs.mono {n₀ n₁ : Nat} (h : n₀ ≤ n₁) {A : World} {sv : Value} {zs : List Lab} : Labs n₀ A sv zs → Labs n₁ A sv zs
  | ⟨ao, cap, e, k⟩ => ⟨ao, cap, e, fun hz => let ⟨b, off, e1, hb, hc⟩ := k hz; ⟨b, off, e1, by omega, hc⟩⟩
theorem Labs.fits {n₀ : Nat} {A : World} {sv : Value} {zs : List Lab} : Labs n₀ A sv zs → ∀ x ∈ zs, x.fits
  | ⟨_, _, _, k⟩ => fun x hx => by
    obtain ⟨b, off, _, _, hc⟩ := k (fun e => by subst e; cases hx)
    obtain ⟨j, hj⟩ := List.getElem?_of_mem hx
    exact (hc j x hj).1

theorem below_grown {w w' : World} (h : Below w.heap.size w w') : w.grownBy w' none := ⟨h.os, h.tape, h.output, h.size, fun k hk _ => h.block k hk⟩
theorem take_next {α : Type} (zs : List α) (k : Nat) (x : α) (h : zs[k]? = some x) : zs.take (k + 1) = zs.take k ++ [x] := by
  obtain ⟨hk, rfl⟩ := List.getElem?_eq_some_iff.1 h
  rw [List.take_append_getElem hk]

/-- errors.errorType's cell. -/
def ErrT (w : World) : Prop := w.cell? ⟨0, 0, none⟩ = some (.iface 142 (.agg #[.pointer (some ⟨3, 57, none⟩)]))
theorem ErrT.lt {w : World} (h : ErrT w) : 0 < w.heap.size := World.block_lt_of_cell? w _ h
theorem ErrT.below {n : Nat} {A B : World} (h : ErrT A) (hn : 0 < n) (hb : Below n A B) : ErrT B := (hb.cell (p := ⟨0, 0, none⟩) hn).trans h
theorem ErrT.more {A B : World} (h : ErrT A) (hb : Below A.heap.size A B) : ErrT B := h.below h.lt hb




theorem two_at (w : World) (x y : Lab) (hg : ErrT w) : Below w.heap.size w ((w.alloc (.cells #[.int .i64 x.l, .int .u64 x.c, .int .i64 x.i] 25)).alloc (.cells #[.int .i64 y.l, .int .u64 y.c, .int .i64 y.i] 25)) ∧ ErrT ((w.alloc (.cells #[.int .i64 x.l, .int .u64 x.c, .int .i64 x.i] 25)).alloc (.cells #[.int .i64 y.l, .int .u64 y.c, .int .i64 y.i] 25)) ∧ ((w.alloc (.cells #[.int .i64 x.l, .int .u64 x.c, .int .i64 x.i] 25)).alloc (.cells #[.int .i64 y.l, .int .u64 y.c, .int .i64 y.i] 25)).cell? ⟨w.heap.size, 0, none⟩ = some (.int .i64 x.l) ∧ ((w.alloc (.cells #[.int .i64 x.l, .int .u64 x.c, .int .i64 x.i] 25)).alloc (.cells #[.int .i64 y.l, .int .u64 y.c, .int .i64 y.i] 25)).cell? ⟨w.heap.size, 1, none⟩ = some (.int .u64 x.c) ∧ ((w.alloc (.cells #[.int .i64 x.l, .int .u64 x.c, .int .i64 x.i] 25)).alloc (.cells #[.int .i64 y.l, .int .u64 y.c, .int .i64 y.i] 25)).cell? ⟨w.heap.size, 2, none⟩ = some (.int .i64 x.i) ∧ ((w.alloc (.cells #[.int .i64 x.l, .int .u64 x.c, .int .i64 x.i] 25)).alloc (.cells #[.int .i64 y.l, .int .u64 y.c, .int .i64 y.i] 25)).cell? ⟨w.heap.size + 1, 0, none⟩ = some (.int .i64 y.l) ∧ ((w.alloc (.cells #[.int .i64 x.l, .int .u64 x.c, .int .i64 x.i] 25)).alloc (.cells #[.int .i64 y.l, .int .u64 y.c, .int .i64 y.i] 25)).cell? ⟨w.heap.size + 1, 1, none⟩ = some (.int .u64 y.c) ∧ ((w.alloc (.cells #[.int .i64 x.l, .int .u64 x.c, .int .i64 x.i] 25)).alloc (.cells #[.int .i64 y.l, .int .u64 y.c, .int .i64 y.i] 25)).cell? ⟨w.heap.size + 1, 2, none⟩ = some (.int .i64 y.i) := by
  have hB : Below w.heap.size w ((w.alloc (.cells #[.int .i64 x.l, .int .u64 x.c, .int .i64 x.i] 25)).alloc (.cells #[.int .i64 y.l, .int .u64 y.c, .int .i64 y.i] 25)) := (((Below.refl _ w).alloc (Nat.le_refl _) _).alloc (by simp) _)
  refine ⟨hB, hg.more hB, ?_, ?_, ?_, ?_, ?_, ?_⟩ <;> go_simp

theorem setO {W : World} {a b : Addr} {v x : Value} (h : W.cell? a = some v) (hne : b ≠ a) : (W.setCell b x).cell? a = some v := (World.cell?_setCell_other _ _ _ _ (fun e => hne e)).trans h
theorem setS {W : World} {a : Addr} {v : Value} (x : Value) (h : W.cell? a = some v) : (W.setCell a x).cell? a = some x := World.cell?_setCell_same' _ _ _ (by rw [h]; rfl)
theorem setF {W : World} {a b : Addr} {x : Value} (h : W.frozen? a = false) : (W.setCell b x).frozen? a = false := by rw [World.frozen?_setCell]; exact h
theorem ne_blk {b b' o o' : Nat} (h : b ≠ b') : (⟨b, o, none⟩ : Addr) ≠ ⟨b', o', none⟩ := fun e => h (congrArg Addr.block e)
theorem ne_off {b b' o o' : Nat} (h : o ≠ o') : (⟨b, o, none⟩ : Addr) ≠ ⟨b', o', none⟩ := fun e => h (congrArg Addr.off e)

end Go.Proofs.YtlafcplcjpcikaaGreatDoor.Lb

/- The contracts of the document's own Has, Without, Less, Sub, for what needs no more of categories. -/
namespace Go.Proofs.YtlafcplcjpcikaaGreatDoor.Lb
open Go.RowKit Go.Proofs.Cats

/-- Is i in s? -/
def hasB (s : Nat) (i : Int) : Bool := okC i && s.testBit i.toNat
theorem hasB_ok (s k : Nat) (hk : k < 64) : hasB s (k : Int) = s.testBit k := by
  have h : okC (k : Int) = true := (okC_iff _).2 (by omega)
  simp [hasB, h]
theorem hasB_no (s : Nat) (i : Int) (h : okC i = false) : hasB s i = false := by simp [hasB, h]









theorem testBit_rem (s k : Nat) : (((s : Int) / 2 ^ k).tmod 2 == 1) = s.testBit k := by
  have e1 : ((s : Int) / 2 ^ k) = ((s / 2 ^ k : Nat) : Int) := by simp
  rw [e1, Nat.testBit_eq_decide_div_mod_eq, Bool.eq_iff_iff, beq_iff_eq, decide_eq_true_iff]
  generalize s / 2 ^ k = q
  rw [Int.tmod_eq_emod_of_nonneg (by omega)]
  omega

set_option maxHeartbeats 400000 in
theorem refHas_any (s : Nat) (i : Int) (w : World) :
    Calls Tryz.prog 76 #[.int .u64 s, .int .i64 i] w fun e W' => e = .returned (.bool (hasB s i)) ∧ w = W' := by
  by_cases h0 : i < 0
  · have ev : hasB s i = false := hasB_no s i (by simp [okC, Int.not_le.2 h0])
    have h0' : ¬ 0 ≤ i := by omega
    rw [ev]
    clear ev
    go_enter Tryz.func76, Tryz.ntmps76
    go_wp2
    go_ret
    exact ⟨rfl, rfl⟩
  · by_cases h1 : 64 ≤ i
    · have ev : hasB s i = false := hasB_no s i (by simp [okC, Int.not_lt.2 h1])
      have h0' : 0 ≤ i := by omega
      have h1' : ¬ i < 64 := by omega
      rw [ev]
      clear ev
      go_enter Tryz.func76, Tryz.ntmps76
      go_wp2
      go_ret
      exact ⟨rfl, rfl⟩
    · obtain ⟨k, rfl⟩ := Int.eq_ofNat_of_zero_le (Int.not_lt.1 h0)
      have hk : k < 64 := by omega
      rw [hasB_ok s k hk, ← testBit_rem]
      clear h0 h1
      go_enter Tryz.func76, Tryz.ntmps76
      go_wp2
      go_ret
      exact ⟨rfl, rfl⟩

























































/-- None of the first j bits of a is missing in b. -/
def NoneLeft (a b j : Nat) : Prop := ∀ i, i < j → a.testBit i = true → b.testBit i = true

theorem less_zero_of (a b : Nat) (ha : U64 a) (hb : U64 b) (h : NoneLeft a b 64) : (lessN a b == 0) = true := by
  rw [beq_iff_eq]
  refine less_eq_zero a b ha hb fun i hi => ?_
  by_cases hl : i < 64
  · exact h i hl hi
  · have : a.testBit i = false := Nat.testBit_lt_two_pow (Nat.lt_of_lt_of_le (show a < 2 ^ 64 from ha) (Nat.pow_le_pow_right (by omega) (by omega)))
    rw [this] at hi
    cases hi
theorem less_not_zero (a b i : Nat) (ha : U64 a) (hb : U64 b) (h1 : a.testBit i = true) (h2 : b.testBit i = false) : (lessN a b == 0) = false := by
  rw [beq_eq_false_iff_ne]
  intro h
  have := lessN_testBit a b i ha hb
  rw [h, h1, h2] at this
  simp at this

set_option maxHeartbeats 1000000 in
theorem refSub_any (a b : Nat) (ha : U64 a) (hb : U64 b) (w : World) :
    Calls Tryz.prog 57 #[.int .u64 a, .int .u64 b] w fun e W' => e = .returned (.bool (lessN a b == 0)) ∧ w = W' := by
  go_enter Tryz.func57, Tryz.ntmps57
  go_wp2
  go_loop [5] (fun i => ∃ j : Nat, j ≤ 64 ∧ i = .int .i64 j ∧ NoneLeft a b j) (fun i => 64 - (intOf i).toNat)
  case atStart => exact ⟨0, by omega, rfl, fun i h => by omega⟩
  case round =>
    obtain ⟨j, hj, rfl, hn⟩ := hrel
    by_cases hlt : j < 64
    · have e1 := Lib.hid (hasB_ok a j hlt)
      have e2 := Lib.hid (hasB_ok b j hlt)
      have HN := Lib.hid hn
      clear hn
      cases h1 : a.testBit j
      · have H1 := Lib.hid h1
        clear h1
        go_wp2_with (go_at_call 76; refine (refHas_any a j _).mono ?_; rintro e w' ⟨he, rfl⟩; rw [e1.out, H1.out] at he; subst he)
        go_round
        case rel => exact ⟨j + 1, by omega, by go_num, fun i hi h => by
          by_cases e : i = j
          · subst e; rw [H1.out] at h; cases h
          · exact HN.out i (by omega) h⟩
        case measure => simp [intOf]; omega
      · have H1 := Lib.hid h1
        clear h1
        cases h2 : b.testBit j
        · have H2 := Lib.hid h2
          clear h2
          go_wp2_with fail
          refine (refHas_any a j _).mono ?_
          rintro e w' ⟨he, rfl⟩
          rw [e1.out, H1.out] at he
          subst he
          go_wp2_with fail
          refine (refHas_any b j _).mono ?_
          rintro e w' ⟨he, rfl⟩
          rw [e2.out, H2.out] at he
          subst he
          go_wp2
          go_ret
          exact ⟨by rw [less_not_zero a b j ha hb H1.out H2.out]; rfl, rfl⟩
        · have H2 := Lib.hid h2
          clear h2
          go_wp2_with fail
          refine (refHas_any a j _).mono ?_
          rintro e w' ⟨he, rfl⟩
          rw [e1.out, H1.out] at he
          subst he
          go_wp2_with fail
          refine (refHas_any b j _).mono ?_
          rintro e w' ⟨he, rfl⟩
          rw [e2.out, H2.out] at he
          subst he
          go_wp2
          go_round
          case rel => exact ⟨j + 1, by omega, by go_num, fun i hi h => by
            by_cases e : i = j
            · subst e; exact H2.out
            · exact HN.out i (by omega) h⟩
          case measure => simp [intOf]; omega
    · obtain rfl : j = 64 := by omega
      have HN := Lib.hid (less_zero_of a b ha hb hn)
      clear hn
      go_wp2
      go_ret
      exact ⟨by rw [HN.out]; rfl, rfl⟩

end Go.Proofs.YtlafcplcjpcikaaGreatDoor.Lb

/- The contracts of the document's own Right, Under. -/
namespace Go.Proofs.YtlafcplcjpcikaaGreatDoor.Lb
open Go.RowKit Go.Proofs.Cats Go.Shelf

set_option maxHeartbeats 400000 in
theorem refRight_any (a : Lab) (w : World) :
    Calls Tryz.prog 32 #[.agg #[.int .i64 a.l, .int .u64 a.c, .int .i64 a.i]] w fun e w' => e = .returned (.bool a.right) ∧ Below w.heap.size w w' := by
  by_cases h1 : 0 ≤ a.l
  · by_cases h2 : a.l ≤ 15
    · by_cases h3 : 0 ≤ a.i
      · have ev : a.right = decide (a.i ≤ 7) := by unfold Lab.right; rw [decide_eq_true h1, decide_eq_true h2, decide_eq_true h3]; rfl
        rw [ev]
        clear ev
        go_enter Tryz.func32, Tryz.ntmps32
        go_wp2
        go_ret
        exact ⟨rfl, Below.new _ _⟩
      · have ev : a.right = false := by unfold Lab.right; rw [decide_eq_false h3]; simp
        rw [ev]
        clear ev
        go_enter Tryz.func32, Tryz.ntmps32
        go_wp2
        go_ret
        exact ⟨rfl, Below.new _ _⟩
    · have ev : a.right = false := by unfold Lab.right; rw [decide_eq_false h2]; simp
      rw [ev]
      clear ev
      go_enter Tryz.func32, Tryz.ntmps32
      go_wp2
      go_ret
      exact ⟨rfl, Below.new _ _⟩
  · have ev : a.right = false := by unfold Lab.right; rw [decide_eq_false h1]; simp
    rw [ev]
    clear ev
    go_enter Tryz.func32, Tryz.ntmps32
    go_wp2
    go_ret
    exact ⟨rfl, Below.new _ _⟩

set_option maxRecDepth 100000 in
set_option maxHeartbeats 1000000 in
theorem refUnder_r0 (a b : Lab) (_ha : a.fits) (_hb0 : b.fits) (h1 : a.right = false) (w : World) (hg : ErrT w) :
    Calls Tryz.prog 38 #[.agg #[.int .i64 a.l, .int .u64 a.c, .int .i64 a.i], .agg #[.int .i64 b.l, .int .u64 b.c, .int .i64 b.i]] w fun e w' => e = .returned (.bool (a.under b)) ∧ Below w.heap.size w w' := by
  rw [show a.under b = false by unfold Lab.under; rw [h1]; rfl]
  have H1 := Lib.hid h1
  clear h1
  obtain ⟨hB, hg1, a0, a1, a2, b0, b1, b2⟩ := two_at w a b hg
  clear hg
  go_enter Tryz.func38, Tryz.ntmps38
  go_wp2_with fail
  refine (refRight_any a _).mono ?_
  rintro e w1 ⟨he, hb⟩
  rw [H1.out] at he
  subst he
  replace a0 := cell_later hb a0
  replace a1 := cell_later hb a1
  replace a2 := cell_later hb a2
  replace b0 := cell_later hb b0
  replace b1 := cell_later hb b1
  replace b2 := cell_later hb b2
  replace hB := below_more hB hb
  replace hg1 := hg1.more hb
  clear hb
  go_wp2
  go_ret
  exact ⟨rfl, hB⟩

set_option maxRecDepth 100000 in
set_option maxHeartbeats 1000000 in
theorem refUnder_r1 (a b : Lab) (_ha : a.fits) (_hb0 : b.fits) (h1 : a.right = true) (h2 : b.right = false) (w : World) (hg : ErrT w) :
    Calls Tryz.prog 38 #[.agg #[.int .i64 a.l, .int .u64 a.c, .int .i64 a.i], .agg #[.int .i64 b.l, .int .u64 b.c, .int .i64 b.i]] w fun e w' => e = .returned (.bool (a.under b)) ∧ Below w.heap.size w w' := by
  rw [show a.under b = false by unfold Lab.under; rw [h1, h2]; rfl]
  have H1 := Lib.hid h1
  have H2 := Lib.hid h2
  clear h1 h2
  obtain ⟨hB, hg1, a0, a1, a2, b0, b1, b2⟩ := two_at w a b hg
  clear hg
  go_enter Tryz.func38, Tryz.ntmps38
  go_wp2_with fail
  refine (refRight_any a _).mono ?_
  rintro e w1 ⟨he, hb⟩
  rw [H1.out] at he
  subst he
  replace a0 := cell_later hb a0
  replace a1 := cell_later hb a1
  replace a2 := cell_later hb a2
  replace b0 := cell_later hb b0
  replace b1 := cell_later hb b1
  replace b2 := cell_later hb b2
  replace hB := below_more hB hb
  replace hg1 := hg1.more hb
  clear hb
  go_wp2_with fail
  refine (refRight_any b _).mono ?_
  rintro e w2 ⟨he, hb⟩
  rw [H2.out] at he
  subst he
  replace a0 := cell_later hb a0
  replace a1 := cell_later hb a1
  replace a2 := cell_later hb a2
  replace b0 := cell_later hb b0
  replace b1 := cell_later hb b1
  replace b2 := cell_later hb b2
  replace hB := below_more hB hb
  replace hg1 := hg1.more hb
  clear hb
  go_wp2
  go_ret
  exact ⟨rfl, hB⟩

set_option maxRecDepth 100000 in
set_option maxHeartbeats 1000000 in
theorem refUnder_r2 (a b : Lab) (_ha : a.fits) (_hb0 : b.fits) (h1 : a.right = true) (h2 : b.right = true) (h3 : ¬ a.l ≤ b.l) (w : World) (hg : ErrT w) :
    Calls Tryz.prog 38 #[.agg #[.int .i64 a.l, .int .u64 a.c, .int .i64 a.i], .agg #[.int .i64 b.l, .int .u64 b.c, .int .i64 b.i]] w fun e w' => e = .returned (.bool (a.under b)) ∧ Below w.heap.size w w' := by
  rw [show a.under b = false by unfold Lab.under Lab.leq; rw [h1, h2, decide_eq_false h3]; rfl]
  have H1 := Lib.hid h1
  have H2 := Lib.hid h2
  clear h1 h2
  obtain ⟨hB, hg1, a0, a1, a2, b0, b1, b2⟩ := two_at w a b hg
  clear hg
  go_enter Tryz.func38, Tryz.ntmps38
  go_wp2_with fail
  refine (refRight_any a _).mono ?_
  rintro e w1 ⟨he, hb⟩
  rw [H1.out] at he
  subst he
  replace a0 := cell_later hb a0
  replace a1 := cell_later hb a1
  replace a2 := cell_later hb a2
  replace b0 := cell_later hb b0
  replace b1 := cell_later hb b1
  replace b2 := cell_later hb b2
  replace hB := below_more hB hb
  replace hg1 := hg1.more hb
  clear hb
  go_wp2_with fail
  refine (refRight_any b _).mono ?_
  rintro e w2 ⟨he, hb⟩
  rw [H2.out] at he
  subst he
  replace a0 := cell_later hb a0
  replace a1 := cell_later hb a1
  replace a2 := cell_later hb a2
  replace b0 := cell_later hb b0
  replace b1 := cell_later hb b1
  replace b2 := cell_later hb b2
  replace hB := below_more hB hb
  replace hg1 := hg1.more hb
  clear hb
  go_wp2
  go_ret
  exact ⟨rfl, hB⟩

set_option maxRecDepth 100000 in
set_option maxHeartbeats 1000000 in
theorem refUnder_r3 (a b : Lab) (ha : a.fits) (hb0 : b.fits) (h1 : a.right = true) (h2 : b.right = true) (h3 : a.l ≤ b.l) (h4 : (lessN a.c b.c == 0) = false) (w : World) (hg : ErrT w) :
    Calls Tryz.prog 38 #[.agg #[.int .i64 a.l, .int .u64 a.c, .int .i64 a.i], .agg #[.int .i64 b.l, .int .u64 b.c, .int .i64 b.i]] w fun e w' => e = .returned (.bool (a.under b)) ∧ Below w.heap.size w w' := by
  rw [show a.under b = false by unfold Lab.under Lab.leq; rw [h1, h2, decide_eq_true h3, h4]; rfl]
  have H1 := Lib.hid h1
  have H2 := Lib.hid h2
  clear h1 h2
  have H4 := Lib.hid h4
  clear h4
  obtain ⟨hB, hg1, a0, a1, a2, b0, b1, b2⟩ := two_at w a b hg
  clear hg
  go_enter Tryz.func38, Tryz.ntmps38
  go_wp2_with fail
  refine (refRight_any a _).mono ?_
  rintro e w1 ⟨he, hb⟩
  rw [H1.out] at he
  subst he
  replace a0 := cell_later hb a0
  replace a1 := cell_later hb a1
  replace a2 := cell_later hb a2
  replace b0 := cell_later hb b0
  replace b1 := cell_later hb b1
  replace b2 := cell_later hb b2
  replace hB := below_more hB hb
  replace hg1 := hg1.more hb
  clear hb
  go_wp2_with fail
  refine (refRight_any b _).mono ?_
  rintro e w2 ⟨he, hb⟩
  rw [H2.out] at he
  subst he
  replace a0 := cell_later hb a0
  replace a1 := cell_later hb a1
  replace a2 := cell_later hb a2
  replace b0 := cell_later hb b0
  replace b1 := cell_later hb b1
  replace b2 := cell_later hb b2
  replace hB := below_more hB hb
  replace hg1 := hg1.more hb
  clear hb
  go_wp2_with fail
  refine (refSub_any a.c b.c ha hb0 _).mono ?_
  rintro e wz ⟨he, rfl⟩
  rw [H4.out] at he
  subst he
  go_wp2
  go_ret
  exact ⟨rfl, hB⟩

set_option maxRecDepth 100000 in
set_option maxHeartbeats 1000000 in
theorem refUnder_r4 (a b : Lab) (ha : a.fits) (hb0 : b.fits) (h1 : a.right = true) (h2 : b.right = true) (h3 : a.l ≤ b.l) (h4 : (lessN a.c b.c == 0) = true) (w : World) (hg : ErrT w) :
    Calls Tryz.prog 38 #[.agg #[.int .i64 a.l, .int .u64 a.c, .int .i64 a.i], .agg #[.int .i64 b.l, .int .u64 b.c, .int .i64 b.i]] w fun e w' => e = .returned (.bool (a.under b)) ∧ Below w.heap.size w w' := by
  rw [show a.under b = decide (b.i ≤ a.i) by unfold Lab.under Lab.leq; rw [h1, h2, decide_eq_true h3, h4]; rfl]
  have H1 := Lib.hid h1
  have H2 := Lib.hid h2
  clear h1 h2
  have H4 := Lib.hid h4
  clear h4
  obtain ⟨hB, hg1, a0, a1, a2, b0, b1, b2⟩ := two_at w a b hg
  clear hg
  go_enter Tryz.func38, Tryz.ntmps38
  go_wp2_with fail
  refine (refRight_any a _).mono ?_
  rintro e w1 ⟨he, hb⟩
  rw [H1.out] at he
  subst he
  replace a0 := cell_later hb a0
  replace a1 := cell_later hb a1
  replace a2 := cell_later hb a2
  replace b0 := cell_later hb b0
  replace b1 := cell_later hb b1
  replace b2 := cell_later hb b2
  replace hB := below_more hB hb
  replace hg1 := hg1.more hb
  clear hb
  go_wp2_with fail
  refine (refRight_any b _).mono ?_
  rintro e w2 ⟨he, hb⟩
  rw [H2.out] at he
  subst he
  replace a0 := cell_later hb a0
  replace a1 := cell_later hb a1
  replace a2 := cell_later hb a2
  replace b0 := cell_later hb b0
  replace b1 := cell_later hb b1
  replace b2 := cell_later hb b2
  replace hB := below_more hB hb
  replace hg1 := hg1.more hb
  clear hb
  go_wp2_with fail
  refine (refSub_any a.c b.c ha hb0 _).mono ?_
  rintro e wz ⟨he, rfl⟩
  rw [H4.out] at he
  subst he
  go_wp2
  go_ret
  exact ⟨rfl, hB⟩

theorem refUnder_any (a b : Lab) (ha : a.fits) (hb : b.fits) (w : World) (hg : ErrT w) :
    Calls Tryz.prog 38 #[.agg #[.int .i64 a.l, .int .u64 a.c, .int .i64 a.i], .agg #[.int .i64 b.l, .int .u64 b.c, .int .i64 b.i]] w fun e w' => e = .returned (.bool (a.under b)) ∧ Below w.heap.size w w' := by
  cases h1 : a.right
  · exact refUnder_r0 a b ha hb h1 w hg
  · cases h2 : b.right
    · exact refUnder_r1 a b ha hb h1 h2 w hg
    · by_cases h3 : a.l ≤ b.l
      · cases h4 : (lessN a.c b.c == 0)
        · exact refUnder_r3 a b ha hb h1 h2 h3 h4 w hg
        · exact refUnder_r4 a b ha hb h1 h2 h3 h4 w hg
      · exact refUnder_r2 a b ha hb h1 h2 h3 w hg

end Go.Proofs.YtlafcplcjpcikaaGreatDoor.Lb

/- The document's Compare of labels. -/
namespace Go.Proofs.YtlafcplcjpcikaaGreatDoor.Lb
open Go.RowKit Go.Proofs.Cats Go.Shelf

set_option maxRecDepth 100000 in
set_option maxHeartbeats 1000000 in
theorem refCompare_same (a b : Lab) (hs : a.same b = true) (w : World) :
    Calls Tryz.prog 34 #[.agg #[.int .i64 a.l, .int .u64 a.c, .int .i64 a.i], .agg #[.int .i64 b.l, .int .u64 b.c, .int .i64 b.i]] w fun e w' => e = .returned (.int .i64 (0)) ∧ Below w.heap.size w w' := by
  have hB : Below w.heap.size w ((w.alloc (.cells #[.int .i64 a.l, .int .u64 a.c, .int .i64 a.i] 25)).alloc (.cells #[.int .i64 b.l, .int .u64 b.c, .int .i64 b.i] 25)) := (Below.new _ _).alloc (by simp) _
  have qa := eqL a b
  have qb := eqInL a b
  rw [hs] at qa qb
  clear hs
  go_enter Tryz.func34, Tryz.ntmps34
  go_wp2
  go_ret
  exact ⟨rfl, hB⟩

set_option maxRecDepth 100000 in
set_option maxHeartbeats 1000000 in
theorem refCompare_ll (a b : Lab) (hs : a.same b = false) (h1 : a.l < b.l) (w : World) :
    Calls Tryz.prog 34 #[.agg #[.int .i64 a.l, .int .u64 a.c, .int .i64 a.i], .agg #[.int .i64 b.l, .int .u64 b.c, .int .i64 b.i]] w fun e w' => e = .returned (.int .i64 (-1)) ∧ Below w.heap.size w w' := by
  have hB : Below w.heap.size w ((w.alloc (.cells #[.int .i64 a.l, .int .u64 a.c, .int .i64 a.i] 25)).alloc (.cells #[.int .i64 b.l, .int .u64 b.c, .int .i64 b.i] 25)) := (Below.new _ _).alloc (by simp) _
  have qa := eqL a b
  have qb := eqInL a b
  rw [hs] at qa qb
  clear hs
  go_enter Tryz.func34, Tryz.ntmps34
  go_wp2
  go_ret
  exact ⟨rfl, hB⟩

set_option maxRecDepth 100000 in
set_option maxHeartbeats 1000000 in
theorem refCompare_lg (a b : Lab) (hs : a.same b = false) (h1 : b.l < a.l) (w : World) :
    Calls Tryz.prog 34 #[.agg #[.int .i64 a.l, .int .u64 a.c, .int .i64 a.i], .agg #[.int .i64 b.l, .int .u64 b.c, .int .i64 b.i]] w fun e w' => e = .returned (.int .i64 (1)) ∧ Below w.heap.size w w' := by
  have hB : Below w.heap.size w ((w.alloc (.cells #[.int .i64 a.l, .int .u64 a.c, .int .i64 a.i] 25)).alloc (.cells #[.int .i64 b.l, .int .u64 b.c, .int .i64 b.i] 25)) := (Below.new _ _).alloc (by simp) _
  have qa := eqL a b
  have qb := eqInL a b
  rw [hs] at qa qb
  have z0 : ¬ a.l < b.l := by omega
  have z1 : (a.l == b.l) = false := by simp; omega
  clear hs
  go_enter Tryz.func34, Tryz.ntmps34
  go_wp2
  go_ret
  exact ⟨rfl, hB⟩

set_option maxRecDepth 100000 in
set_option maxHeartbeats 1000000 in
theorem refCompare_cl (a b : Lab) (hs : a.same b = false) (h1 : a.l = b.l) (h2 : a.c < b.c) (w : World) :
    Calls Tryz.prog 34 #[.agg #[.int .i64 a.l, .int .u64 a.c, .int .i64 a.i], .agg #[.int .i64 b.l, .int .u64 b.c, .int .i64 b.i]] w fun e w' => e = .returned (.int .i64 (-1)) ∧ Below w.heap.size w w' := by
  have hB : Below w.heap.size w ((w.alloc (.cells #[.int .i64 a.l, .int .u64 a.c, .int .i64 a.i] 25)).alloc (.cells #[.int .i64 b.l, .int .u64 b.c, .int .i64 b.i] 25)) := (Below.new _ _).alloc (by simp) _
  have qa := eqL a b
  have qb := eqInL a b
  rw [hs] at qa qb
  have z0 : ¬ a.l < b.l := by omega
  have z1 : (a.l == b.l) = true := by simp [h1]
  have z2 : ((a.c : Nat) : Int) < ((b.c : Nat) : Int) := by omega
  clear h1
  clear hs
  go_enter Tryz.func34, Tryz.ntmps34
  go_wp2
  go_ret
  exact ⟨rfl, hB⟩

set_option maxRecDepth 100000 in
set_option maxHeartbeats 1000000 in
theorem refCompare_cg (a b : Lab) (hs : a.same b = false) (h1 : a.l = b.l) (h2 : b.c < a.c) (w : World) :
    Calls Tryz.prog 34 #[.agg #[.int .i64 a.l, .int .u64 a.c, .int .i64 a.i], .agg #[.int .i64 b.l, .int .u64 b.c, .int .i64 b.i]] w fun e w' => e = .returned (.int .i64 (1)) ∧ Below w.heap.size w w' := by
  have hB : Below w.heap.size w ((w.alloc (.cells #[.int .i64 a.l, .int .u64 a.c, .int .i64 a.i] 25)).alloc (.cells #[.int .i64 b.l, .int .u64 b.c, .int .i64 b.i] 25)) := (Below.new _ _).alloc (by simp) _
  have qa := eqL a b
  have qb := eqInL a b
  rw [hs] at qa qb
  have z0 : ¬ a.l < b.l := by omega
  have z1 : (a.l == b.l) = true := by simp [h1]
  have z2 : ¬ a.c < b.c := by omega
  have z3 : (((a.c : Nat) : Int) == ((b.c : Nat) : Int)) = false := by simp; omega
  clear h1
  clear hs
  go_enter Tryz.func34, Tryz.ntmps34
  go_wp2
  go_ret
  exact ⟨rfl, hB⟩

set_option maxRecDepth 100000 in
set_option maxHeartbeats 1000000 in
theorem refCompare_il (a b : Lab) (hs : a.same b = false) (h1 : a.l = b.l) (h2 : a.c = b.c) (h3 : a.i < b.i) (w : World) :
    Calls Tryz.prog 34 #[.agg #[.int .i64 a.l, .int .u64 a.c, .int .i64 a.i], .agg #[.int .i64 b.l, .int .u64 b.c, .int .i64 b.i]] w fun e w' => e = .returned (.int .i64 (-1)) ∧ Below w.heap.size w w' := by
  have hB : Below w.heap.size w ((w.alloc (.cells #[.int .i64 a.l, .int .u64 a.c, .int .i64 a.i] 25)).alloc (.cells #[.int .i64 b.l, .int .u64 b.c, .int .i64 b.i] 25)) := (Below.new _ _).alloc (by simp) _
  have qa := eqL a b
  have qb := eqInL a b
  rw [hs] at qa qb
  have z0 : ¬ a.l < b.l := by omega
  have z1 : (a.l == b.l) = true := by simp [h1]
  have z2 : ¬ a.c < b.c := by omega
  have z3 : (((a.c : Nat) : Int) == ((b.c : Nat) : Int)) = true := by simp [h2]
  clear h1 h2
  clear hs
  go_enter Tryz.func34, Tryz.ntmps34
  go_wp2
  go_ret
  exact ⟨rfl, hB⟩

set_option maxRecDepth 100000 in
set_option maxHeartbeats 1000000 in
theorem refCompare_ig (a b : Lab) (hs : a.same b = false) (h1 : a.l = b.l) (h2 : a.c = b.c) (h3 : ¬ a.i < b.i) (w : World) :
    Calls Tryz.prog 34 #[.agg #[.int .i64 a.l, .int .u64 a.c, .int .i64 a.i], .agg #[.int .i64 b.l, .int .u64 b.c, .int .i64 b.i]] w fun e w' => e = .returned (.int .i64 (1)) ∧ Below w.heap.size w w' := by
  have hB : Below w.heap.size w ((w.alloc (.cells #[.int .i64 a.l, .int .u64 a.c, .int .i64 a.i] 25)).alloc (.cells #[.int .i64 b.l, .int .u64 b.c, .int .i64 b.i] 25)) := (Below.new _ _).alloc (by simp) _
  have qa := eqL a b
  have qb := eqInL a b
  rw [hs] at qa qb
  have z0 : ¬ a.l < b.l := by omega
  have z1 : (a.l == b.l) = true := by simp [h1]
  have z2 : ¬ a.c < b.c := by omega
  have z3 : (((a.c : Nat) : Int) == ((b.c : Nat) : Int)) = true := by simp [h2]
  clear h1 h2
  clear hs
  go_enter Tryz.func34, Tryz.ntmps34
  go_wp2
  go_ret
  exact ⟨rfl, hB⟩

theorem cmp_of_ahead {a b : Lab} (hs : a.same b = false) (h : a.ahead b = true) : a.cmp b = -1 := by unfold Lab.cmp; rw [hs, h]; rfl
theorem cmp_of_not {a b : Lab} (hs : a.same b = false) (h : a.ahead b = false) : a.cmp b = 1 := by unfold Lab.cmp; rw [hs, h]; rfl
theorem refCompare_any (a b : Lab) (w : World) :
    Calls Tryz.prog 34 #[.agg #[.int .i64 a.l, .int .u64 a.c, .int .i64 a.i], .agg #[.int .i64 b.l, .int .u64 b.c, .int .i64 b.i]] w fun e w' => e = .returned (.int .i64 (a.cmp b)) ∧ Below w.heap.size w w' := by
  cases hs : a.same b
  · by_cases h1 : a.l = b.l
    · by_cases h2 : a.c = b.c
      · by_cases h3 : a.i < b.i
        · rw [cmp_of_ahead hs (by unfold Lab.ahead; simp [h1, h2, h3])]
          exact refCompare_il a b hs h1 h2 h3 w
        · rw [cmp_of_not hs (by unfold Lab.ahead; simp [h1, h2, h3] <;> omega)]
          exact refCompare_ig a b hs h1 h2 h3 w
      · by_cases h3 : a.c < b.c
        · rw [cmp_of_ahead hs (by unfold Lab.ahead; simp [h1, h2, h3])]
          exact refCompare_cl a b hs h1 h3 w
        · rw [cmp_of_not hs (by unfold Lab.ahead; simp [h1, h2] <;> omega)]
          exact refCompare_cg a b hs h1 (by omega) w
    · by_cases h2 : a.l < b.l
      · rw [cmp_of_ahead hs (by unfold Lab.ahead; simp [h1, h2])]
        exact refCompare_ll a b hs h2 w
      · rw [cmp_of_not hs (by unfold Lab.ahead; simp [h1] <;> omega)]
        exact refCompare_lg a b hs (by omega) w
  · rw [show a.cmp b = 0 by unfold Lab.cmp; rw [hs]; rfl]
    exact refCompare_same a b hs w

end Go.Proofs.YtlafcplcjpcikaaGreatDoor.Lb
namespace Go.Proofs.YtlafcplcjpcikaaGreatDoor.Lb
open Go.RowKit Go.Proofs.Cats Go.Shelf
theorem neqL (a b : Lab) (w : World) : (binOp .neq 25 (.agg #[.int .i64 a.l, .int .u64 a.c, .int .i64 a.i]) (.agg #[.int .i64 b.l, .int .u64 b.c, .int .i64 b.i])).run Tryz.prog w = .ok (.bool (!(a.same b))) w := by
  have h := eqInL a b w
  go_simp
end Go.Proofs.YtlafcplcjpcikaaGreatDoor.Lb
