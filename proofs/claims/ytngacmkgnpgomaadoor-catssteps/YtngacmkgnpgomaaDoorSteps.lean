/- The statement CatsSteps, walked. -/
import Derived.Test.YtngacmkgnpgomaaDoorOne
import Derived.Test.YtngacmkgnpgomaaDoorLaid
namespace Go.Proofs.YtngacmkgnpgomaaDoor
open Go.RowKit Go.Proofs.Cats

set_option maxHeartbeats 400000 in
theorem steps_no (s : Nat) (hs : U64 s) (i k : Int) (hi : okC i = false) (ga : Addr) (w : World) (hg : Glob ga w) :
    Calls Tryd.prog 6 #[.int .u64 s, .int .i64 i, .int .i64 k] w fun e W' => e = .returned (.bool true) ∧ Below w.heap.size w W' := by
  have e1 := Lib.hid (show joinE [i] = 10 by simp [joinE_one, hi])
  have e2 := Lib.hid (hasB_no s i hi)
  have e3 := Lib.hid (show joinV s [i] = 0 by simp [joinV, hi])
  have e4 := Lib.hid (show withoutV s i = 0 by simp [withoutV, hi])
  have hr : i < 0 ∨ 63 < i := by
    by_cases h : i < 0
    · exact .inl h
    · refine .inr ?_
      have : ¬ (0 ≤ i ∧ i < 64) := fun h => by rw [(okC_iff i).2 h] at hi; cases hi
      omega
  clear hi
  rcases hr with hr | hr
  · go_enter Tryd.func6, Tryd.ntmps6
    go_wp2_with fail
    refine (shown_any ga w hg).mono ?_
    rintro e w1 ⟨rfl, hb1⟩
    have g1 := Lib.hid (hg.below hg.lt hb1)
    have z1 := hb1.size
    go_wp2_with fail
    refine (with_any s hs i ga w1 g1.out).mono ?_
    rintro e w2 ⟨he, hb2⟩
    rw [e1.out, e3.out] at he
    subst he
    have g2 := Lib.hid (g1.out.below g1.out.lt hb2)
    have z2 := hb2.size
    go_wp2_with fail
    refine (without_any s hs i ga w2 g2.out).mono ?_
    rintro e w3 ⟨he, hb3⟩
    rw [e1.out, e4.out] at he
    subst he
    have g3 := Lib.hid (g2.out.below g2.out.lt hb3)
    go_wp2_with fail
    refine (has_any s hs i ga w3 g3.out).mono ?_
    rintro e w4 ⟨he, rfl⟩
    rw [e2.out] at he
    subst he
    go_wp2
    go_ret
    exact ⟨rfl, hb1.trans ((hb2.mono z1).trans (hb3.mono (Nat.le_trans z1 z2)))⟩
  · have hr0 : ¬ i < 0 := by omega
    go_enter Tryd.func6, Tryd.ntmps6
    go_wp2_with fail
    refine (shown_any ga w hg).mono ?_
    rintro e w1 ⟨rfl, hb1⟩
    have g1 := Lib.hid (hg.below hg.lt hb1)
    have z1 := hb1.size
    go_wp2_with fail
    refine (with_any s hs i ga w1 g1.out).mono ?_
    rintro e w2 ⟨he, hb2⟩
    rw [e1.out, e3.out] at he
    subst he
    have g2 := Lib.hid (g1.out.below g1.out.lt hb2)
    have z2 := hb2.size
    go_wp2_with fail
    refine (without_any s hs i ga w2 g2.out).mono ?_
    rintro e w3 ⟨he, hb3⟩
    rw [e1.out, e4.out] at he
    subst he
    have g3 := Lib.hid (g2.out.below g2.out.lt hb3)
    go_wp2_with fail
    refine (has_any s hs i ga w3 g3.out).mono ?_
    rintro e w4 ⟨he, rfl⟩
    rw [e2.out] at he
    subst he
    go_wp2
    go_ret
    exact ⟨rfl, hb1.trans ((hb2.mono z1).trans (hb3.mono (Nat.le_trans z1 z2)))⟩

/-- What another category's place shows. -/
theorem hasB_with (s k : Nat) (j : Int) (h : (k : Int) ≠ j) : hasB (s ||| 2 ^ k) j = hasB s j := by
  unfold hasB
  cases hj : okC j
  · rfl
  · obtain ⟨h0, h1⟩ := (okC_iff j).1 hj
    rw [testBit_with]
    have : ¬ k = j.toNat := by omega
    simp [this]
theorem hasB_without (s k : Nat) (j : Int) (hs : U64 s) (hk : k < 64) (h : (k : Int) ≠ j) : hasB (lessN s (2 ^ k)) j = hasB s j := by
  unfold hasB
  cases hj : okC j
  · rfl
  · obtain ⟨h0, h1⟩ := (okC_iff j).1 hj
    rw [testBit_without s k _ hs hk]
    have : ¬ k = j.toNat := by omega
    simp [this]

set_option maxHeartbeats 400000 in
theorem steps_yes (s : Nat) (hs : U64 s) (i : Nat) (k : Int) (hi : i < 64) (ga : Addr) (w : World) (hg : Glob ga w) :
    Calls Tryd.prog 6 #[.int .u64 s, .int .i64 i, .int .i64 k] w fun e W' => e = .returned (.bool true) ∧ Below w.heap.size w W' := by
  have e1 := Lib.hid (show joinE [(i : Int)] = 0 by simp [joinE_one, (okC_iff (i : Int)).2 (by omega)])
  have e3 := Lib.hid (joinV_one s i hi)
  have e4 := Lib.hid (withoutV_one s i hi)
  have e5 := Lib.hid (show hasB (s ||| 2 ^ i) (i : Int) = true by rw [hasB_ok _ _ hi, testBit_with]; simp)
  have e6 := Lib.hid (show hasB (lessN s (2 ^ i)) (i : Int) = false by rw [hasB_ok _ _ hi, testBit_without s i i hs hi]; simp)
  have e7 := Lib.hid (fun h => hasB_with s i k h)
  have e8 := Lib.hid (fun h => hasB_without s i k hs hi h)
  have hu := or_pow_u64 s i hs hi
  have hv : U64 (lessN s (2 ^ i)) := hs.less _
  generalize s ||| 2 ^ i = A at *
  generalize lessN s (2 ^ i) = B at *
  by_cases hik : (i : Int) = k
  · have hik' : ((i : Int) == k) = true := by rw [beq_iff_eq]; exact hik
    clear hik
    go_enter Tryd.func6, Tryd.ntmps6
    go_wp2_with fail
    refine (shown_any ga w hg).mono ?_
    rintro e w1 ⟨rfl, hb1⟩
    have g1 := Lib.hid (hg.below hg.lt hb1)
    have z1 := hb1.size
    go_wp2_with fail
    refine (with_any s hs i ga w1 g1.out).mono ?_
    rintro e w2 ⟨he, hb2⟩
    rw [e1.out, e3.out] at he
    subst he
    have g2 := Lib.hid (g1.out.below g1.out.lt hb2)
    have z2 := hb2.size
    go_wp2_with fail
    refine (without_any s hs i ga w2 g2.out).mono ?_
    rintro e w3 ⟨he, hb3⟩
    rw [e1.out, e4.out] at he
    subst he
    have g3 := Lib.hid (g2.out.below g2.out.lt hb3)
    go_wp2_with fail
    refine (has_any A hu i ga w3 g3.out).mono ?_
    rintro e w4 ⟨he, rfl⟩
    rw [e5.out] at he
    subst he
    go_wp2_with fail
    refine (has_any B hv i ga w3 g3.out).mono ?_
    rintro e w4 ⟨he, rfl⟩
    rw [e6.out] at he
    subst he
    go_wp2
    go_ret
    exact ⟨rfl, hb1.trans ((hb2.mono z1).trans (hb3.mono (Nat.le_trans z1 z2)))⟩
  · have hik' : ((i : Int) == k) = false := by rw [beq_eq_false_iff_ne]; exact hik
    have f7 := Lib.hid (e7.out hik)
    have f8 := Lib.hid (e8.out hik)
    clear hik e7 e8
    go_enter Tryd.func6, Tryd.ntmps6
    go_wp2_with fail
    refine (shown_any ga w hg).mono ?_
    rintro e w1 ⟨rfl, hb1⟩
    have g1 := Lib.hid (hg.below hg.lt hb1)
    have z1 := hb1.size
    go_wp2_with fail
    refine (with_any s hs i ga w1 g1.out).mono ?_
    rintro e w2 ⟨he, hb2⟩
    rw [e1.out, e3.out] at he
    subst he
    have g2 := Lib.hid (g1.out.below g1.out.lt hb2)
    have z2 := hb2.size
    go_wp2_with fail
    refine (without_any s hs i ga w2 g2.out).mono ?_
    rintro e w3 ⟨he, hb3⟩
    rw [e1.out, e4.out] at he
    subst he
    have g3 := Lib.hid (g2.out.below g2.out.lt hb3)
    go_wp2_with fail
    refine (has_any A hu i ga w3 g3.out).mono ?_
    rintro e w4 ⟨he, rfl⟩
    rw [e5.out] at he
    subst he
    go_wp2_with fail
    refine (has_any B hv i ga w3 g3.out).mono ?_
    rintro e w4 ⟨he, rfl⟩
    rw [e6.out] at he
    subst he
    go_wp2_with fail
    refine (has_any A hu k ga w3 g3.out).mono ?_
    rintro e w4 ⟨he, rfl⟩
    rw [f7.out] at he
    subst he
    go_wp2_with fail
    refine (has_any s hs k ga w3 g3.out).mono ?_
    rintro e w4 ⟨rfl, rfl⟩
    go_wp2_with fail
    refine (has_any B hv k ga w3 g3.out).mono ?_
    rintro e w4 ⟨he, rfl⟩
    rw [f8.out] at he
    subst he
    go_wp2_with fail
    refine (has_any s hs k ga w3 g3.out).mono ?_
    rintro e w4 ⟨rfl, rfl⟩
    go_wp2
    go_ret
    exact ⟨rfl, hb1.trans ((hb2.mono z1).trans (hb3.mono (Nat.le_trans z1 z2)))⟩

theorem steps_any (s : Nat) (i k : Int) (hs : U64 s) (ga : Addr) (w : World) (hg : Glob ga w) :
    Calls Tryd.prog 6 #[.int .u64 s, .int .i64 i, .int .i64 k] w fun e W' => e = .returned (.bool true) ∧ Below w.heap.size w W' := by
  cases hi : okC i
  · exact steps_no s hs i k hi ga w hg
  · obtain ⟨h0, h1⟩ := (okC_iff i).1 hi
    obtain ⟨j, rfl⟩ := Int.eq_ofNat_of_zero_le h0
    exact steps_yes s hs j k (by omega) ga w hg

end Go.Proofs.YtngacmkgnpgomaaDoor
