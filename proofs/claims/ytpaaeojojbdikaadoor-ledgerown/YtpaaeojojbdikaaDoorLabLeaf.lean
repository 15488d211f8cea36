/- The contracts of label's leaves: Bottom, Top, under, judge, Right, Under, join, meet, before, Compare. -/
import Derived.Test.YtpaaeojojbdikaaDoorLess
import Derived.Test.YtpaaeojojbdikaaDoorLabMath
import Derived.Shelf.Abstract
import Derived.Deep.RegionWith
namespace Go.Proofs.YtpaaeojojbdikaaDoor
open Go.RowKit Go.Proofs.Cats

theorem bcell {W w1 : World} (hb : Below W.heap.size W w1) : (∀ b o, b < W.heap.size → w1.cell? ⟨b, o, none⟩ = W.cell? ⟨b, o, none⟩) ∧ (∀ b o, b < W.heap.size → w1.frozen? ⟨b, o, none⟩ = W.frozen? ⟨b, o, none⟩) :=
  ⟨fun b o h => hb.cell (p := ⟨b, o, none⟩) h, fun b o h => hb.frozen (p := ⟨b, o, none⟩) h⟩
theorem below_more {n : Nat} {w w1 w2 : World} (h : Below n w w1) (k : Below w1.heap.size w1 w2) (hn : n ≤ w.heap.size := by exact Nat.le_refl _) : Below n w w2 := h.trans (k.mono (Nat.le_trans hn h.size))
theorem Below.new (w : World) (o : Obj) : Below w.heap.size w (w.alloc o) := (Below.refl _ w).alloc (Nat.le_refl _) _

set_option maxHeartbeats 400000 in
theorem bottom_at (w : World) :
    Calls Tryd.prog 29 #[] w fun e w' => e = .returned (.agg #[.int .i64 0, .int .u64 0, .int .i64 7]) ∧ w.alloc (.cells #[.int .i64 0, .int .u64 0, .int .i64 7] 25) = w' := by
  go_enter Tryd.func29, Tryd.ntmps29
  go_wp2
  exact bodyPost_ret (v := .agg #[.int .i64 0, .int .u64 0, .int .i64 7]) (by simp [results, Tryd.results29, go_sem]) rfl ⟨rfl, rfl⟩

theorem bottom_any (w : World) :
    Calls Tryd.prog 29 #[] w fun e w' => e = .returned (.agg #[.int .i64 0, .int .u64 0, .int .i64 7]) ∧ Below w.heap.size w w' :=
  (bottom_at w).mono fun _ _ ⟨he, hw⟩ => ⟨he, hw ▸ Below.new _ _⟩

set_option maxHeartbeats 400000 in
theorem top_at (w : World) :
    Calls Tryd.prog 28 #[] w fun e w' => e = .returned (.agg #[.int .i64 15, .int .u64 18446744073709551615, .int .i64 0]) ∧ w.alloc (.cells #[.int .i64 15, .int .u64 18446744073709551615, .int .i64 0] 25) = w' := by
  go_enter Tryd.func28, Tryd.ntmps28
  go_wp2
  exact bodyPost_ret (v := .agg #[.int .i64 15, .int .u64 18446744073709551615, .int .i64 0]) (by simp [results, Tryd.results28, go_sem]) rfl ⟨rfl, rfl⟩

theorem top_any (w : World) :
    Calls Tryd.prog 28 #[] w fun e w' => e = .returned (.agg #[.int .i64 15, .int .u64 18446744073709551615, .int .i64 0]) ∧ Below w.heap.size w w' :=
  (top_at w).mono fun _ _ ⟨he, hw⟩ => ⟨he, hw ▸ Below.new _ _⟩

set_option maxHeartbeats 400000 in
theorem under_at (a b : Lab) (ha : a.fits) (hb : b.fits) (w : World) :
    Calls Tryd.prog 44 #[.agg #[.int .i64 a.l, .int .u64 a.c, .int .i64 a.i, .int .i64 b.l, .int .u64 b.c, .int .i64 b.i]] w fun e w' => e = .returned (.bool (a.leq b)) ∧ w.alloc (.cells #[.int .i64 a.l, .int .u64 a.c, .int .i64 a.i, .int .i64 b.l, .int .u64 b.c, .int .i64 b.i] 66) = w' := by
  by_cases h1 : a.l ≤ b.l
  · by_cases h2 : (lessN a.c b.c == 0) = true
    · have ev : a.leq b = decide (b.i ≤ a.i) := by unfold Lab.leq; rw [decide_eq_true h1, h2]; rfl
      rw [ev]
      have H2 := Lib.hid h2
      clear ev h2
      go_enter Tryd.func44, Tryd.ntmps44
      go_wp2_with fail
      refine (sub_any a.c b.c ha hb _).mono ?_
      rintro e w1 ⟨he, rfl⟩
      rw [H2.out] at he
      subst he
      go_wp2
      go_ret
      exact ⟨rfl, rfl⟩
    · have ev : a.leq b = false := by unfold Lab.leq; rw [Bool.eq_false_iff.2 h2]; simp
      rw [ev]
      have H2 := Lib.hid h2
      clear ev h2
      go_enter Tryd.func44, Tryd.ntmps44
      go_wp2_with fail
      refine (sub_any a.c b.c ha hb _).mono ?_
      rintro e w1 ⟨he, rfl⟩
      rw [Bool.eq_false_iff.2 H2.out] at he
      subst he
      go_wp2
      go_ret
      exact ⟨rfl, rfl⟩
  · have ev : a.leq b = false := by unfold Lab.leq; rw [decide_eq_false h1]; rfl
    rw [ev]
    clear ev
    go_enter Tryd.func44, Tryd.ntmps44
    go_wp2
    go_ret
    exact ⟨rfl, rfl⟩

theorem under_any (a b : Lab) (ha : a.fits) (hb : b.fits) (w : World) :
    Calls Tryd.prog 44 #[.agg #[.int .i64 a.l, .int .u64 a.c, .int .i64 a.i, .int .i64 b.l, .int .u64 b.c, .int .i64 b.i]] w fun e w' => e = .returned (.bool (a.leq b)) ∧ Below w.heap.size w w' :=
  (under_at a b ha hb w).mono fun _ _ ⟨he, hw⟩ => ⟨he, hw ▸ Below.new _ _⟩

/-- What judge tells: nil, or what is no label. -/
def errL (a : Lab) : Value := if a.right then .nilIface else .iface 95 (.agg #[.int .i64 a.l, .int .u64 a.c, .int .i64 a.i])

theorem under_bot (a : Lab) (ha : a.fits) (b : Bool) (h : Hid (Lab.bot.leq a = b)) (w : World) :
    Calls Tryd.prog 44 #[.agg #[.int .i64 0, .int .u64 0, .int .i64 7, .int .i64 a.l, .int .u64 a.c, .int .i64 a.i]] w fun e w' => e = .returned (.bool b) ∧ Below w.heap.size w w' := by
  have := under_any Lab.bot a Lab.fits_bot ha w
  rw [h.out] at this
  exact this
theorem top_c : ((Lab.top.c : Nat) : Int) = 18446744073709551615 := rfl
theorem under_top (a : Lab) (ha : a.fits) (b : Bool) (h : Hid (a.leq Lab.top = b)) (w : World) :
    Calls Tryd.prog 44 #[.agg #[.int .i64 a.l, .int .u64 a.c, .int .i64 a.i, .int .i64 15, .int .u64 18446744073709551615, .int .i64 0]] w fun e w' => e = .returned (.bool b) ∧ Below w.heap.size w w' := by
  have := under_any a Lab.top ha Lab.fits_top w
  rw [h.out, top_c] at this
  exact this

end Go.Proofs.YtpaaeojojbdikaaDoor
