/- The contracts of join, Of, With, Without, has, Has; and what the statements' head shows. -/
import Derived.Test.YtngacmkgnpgomaaDoorPick
import Derived.Test.YtngacmkgnpgomaaDoorIs
import Derived.BigQuiet
import Derived.Deep.QuietTactic
namespace Go.Proofs.YtngacmkgnpgomaaDoor
open Go.RowKit Go.Proofs.Cats

def joinV (s : Nat) (zs : List Int) : Nat := if zs.all okC then addAll s zs else 0
def joinE (zs : List Int) : Int := if zs.all okC then 0 else 10

/-- The one sentinel's cell. -/
def Glob (ga : Addr) (w : World) : Prop := w.cell? ⟨0, 0, none⟩ = some (.iface 75 (.pointer (some ga)))
theorem Glob.lt {ga : Addr} {w : World} (h : Glob ga w) : 0 < w.heap.size := World.block_lt_of_cell? w _ h
theorem Glob.below {ga : Addr} {n : Nat} {A B : World} (h : Glob ga A) (hn : 0 < n) (hb : Below n A B) : Glob ga B := (hb.cell (p := ⟨0, 0, none⟩) hn).trans h

theorem pick_any (b s : Nat) (hs : U64 s) (a : Option Addr) (len cap : Nat) (zs : List Int) (ga : Addr) (hreach : zs.length * 8 ≤ 140737488351232) (w : World) (hb : 0 < b) (hbw : b < w.heap.size)
    (hp : w.cell? ⟨b, 0, none⟩ = some (.int .u64 s)) (hf : w.frozen? ⟨b, 0, none⟩ = false) (hI : Ints b w (.slice a len cap) zs) (hg : Glob ga w) :
    Calls Tryd.prog 32 #[.pointer (some ⟨b, 0, none⟩), .slice a len cap] w fun e W' =>
      e = .returned (if zs.all okC then .nilIface else .iface 75 (.pointer (some ga))) ∧ (zs.all okC = true → W'.cell? ⟨b, 0, none⟩ = some (.int .u64 (addAll s zs : Nat))) ∧ Below b w W' :=
  (callsIn_wide (n := 3)).1 (pick_in 3 (by omega) b s hs a len cap zs ga hreach w hb hbw hp hf hI hg)

set_option maxHeartbeats 400000 in
theorem join_any (s : Nat) (hs : U64 s) (a : Option Addr) (len cap : Nat) (zs : List Int) (ga : Addr) (hreach : zs.length * 8 ≤ 140737488351232) (w : World) (hI : Ints w.heap.size w (.slice a len cap) zs) (hg : Glob ga w) :
    Calls Tryd.prog 28 #[.int .u64 s, .slice a len cap] w fun e W' =>
      e = .returned (.tuple #[.int .u64 (joinV s zs : Nat), .int .i64 (joinE zs)]) ∧ Below w.heap.size w W' := by
  have bP := Boxed.new w 46 (.int .u64 s)
  have h0 := hg.lt
  have hB0 : Below w.heap.size w (w.alloc (.cells #[.int .u64 s] 46)) := (Below.refl _ w).alloc (Nat.le_refl _) _
  have hg1 := hg.below h0 hB0
  have hI1 := hI.below hB0
  have C := pick_any w.heap.size s hs a len cap zs ga hreach (w.alloc (.cells #[.int .u64 s] 46)) h0 (by simp) bP.cell bP.frozen hI1 hg1
  have HC := Lib.hid C
  clear C bP hI hI1
  by_cases hz : zs.all okC = true
  · have ev : joinV s zs = addAll s zs := by simp [joinV, hz]
    have ee : joinE zs = 0 := by simp [joinE, hz]
    rw [ev, ee]
    have HZ := Lib.hid hz
    clear ev ee hz
    go_enter Tryd.func28, Tryd.ntmps28
    go_wp2_with fail
    refine HC.out.mono ?_
    rintro e w1 ⟨he, hc, hb⟩
    have hc1 := hc HZ.out
    rw [HZ.out, if_pos rfl] at he
    have hg2 : w1.cell? ⟨0, 0, none⟩ = some (.iface 75 (.pointer (some ga))) := hg1.below h0 hb
    subst he
    clear hc
    go_wp2_with (go_at_call 33; refine (is_nil ga w1).mono ?_; rintro e w' ⟨rfl, rfl⟩)
    go_ret2
    exact ⟨rfl, hB0.trans hb⟩
  · have ev : joinV s zs = 0 := by simp [joinV, hz]
    have ee : joinE zs = 10 := by simp [joinE, hz]
    rw [ev, ee]
    have HZ := Lib.hid hz
    clear ev ee hz
    go_enter Tryd.func28, Tryd.ntmps28
    go_wp2_with fail
    refine HC.out.mono ?_
    rintro e w1 ⟨he, hc, hb⟩
    rw [if_neg HZ.out] at he
    have hg2 : w1.cell? ⟨0, 0, none⟩ = some (.iface 75 (.pointer (some ga))) := hg1.below h0 hb
    subst he
    clear hc
    go_wp2_with (go_at_call 33; refine (is_same ga w1).mono ?_; rintro e w' ⟨rfl, rfl⟩)
    go_ret2
    exact ⟨rfl, hB0.trans hb⟩


set_option maxHeartbeats 400000 in
theorem of_any (a : Option Addr) (len cap : Nat) (zs : List Int) (ga : Addr) (hreach : zs.length * 8 ≤ 140737488351232) (w : World) (hI : Ints w.heap.size w (.slice a len cap) zs) (hg : Glob ga w) :
    Calls Tryd.prog 10 #[.slice a len cap] w fun e W' =>
      e = .returned (.tuple #[.int .u64 (joinV 0 zs : Nat), .int .i64 (joinE zs)]) ∧ Below w.heap.size w W' := by
  have HC := Lib.hid (join_any 0 (by unfold U64; omega) a len cap zs ga hreach w hI hg)
  clear hI
  go_enter Tryd.func10, Tryd.ntmps10
  go_wp2_with fail
  refine HC.out.mono ?_
  rintro e w1 ⟨rfl, hb⟩
  go_wp2
  go_ret2
  exact ⟨rfl, hb⟩

theorem ints_one (w : World) (i : Int) : Ints (w.alloc (.cells #[.int .i64 i] 3)).heap.size (w.alloc (.cells #[.int .i64 i] 3)) (.slice (some ⟨w.heap.size, 0, none⟩) 1 1) [i] :=
  ⟨_, 1, rfl, fun _ => ⟨w.heap.size, 0, rfl, by simp, fun j hj => by
    have : j = 0 := by simp at hj; omega
    subst this
    simp⟩⟩

set_option maxHeartbeats 400000 in
theorem with_any (s : Nat) (hs : U64 s) (i : Int) (ga : Addr) (w : World) (hg : Glob ga w) :
    Calls Tryd.prog 13 #[.int .u64 s, .int .i64 i] w fun e W' =>
      e = .returned (.tuple #[.int .u64 (joinV s [i] : Nat), .int .i64 (joinE [i])]) ∧ Below w.heap.size w W' := by
  have hB0 : Below w.heap.size w (w.alloc (.cells #[.int .i64 i] 3)) := (Below.refl _ w).alloc (Nat.le_refl _) _
  have HC := Lib.hid (join_any s hs (some ⟨w.heap.size, 0, none⟩) 1 1 [i] ga (by simp) _ (ints_one w i) (hg.below hg.lt hB0))
  go_enter Tryd.func13, Tryd.ntmps13
  go_wp2_with fail
  refine HC.out.mono ?_
  rintro e w1 ⟨rfl, hb⟩
  go_wp2
  go_ret2
  exact ⟨rfl, hB0.trans (hb.mono (by simp))⟩

/-- What is taken out of s. -/
def withoutV (s : Nat) (i : Int) : Nat := if okC i then lessN s (joinV 0 [i]) else 0

theorem joinV_u64 (s : Nat) (zs : List Int) (hs : U64 s) : U64 (joinV s zs) := by
  unfold joinV
  split
  · exact addAll_u64 s zs hs (by assumption)
  · unfold U64; omega

theorem joinE_one (i : Int) : joinE [i] = if okC i then 0 else 10 := by simp [joinE]

set_option maxHeartbeats 400000 in
theorem without_any (s : Nat) (hs : U64 s) (i : Int) (ga : Addr) (w : World) (hg : Glob ga w) :
    Calls Tryd.prog 15 #[.int .u64 s, .int .i64 i] w fun e W' =>
      e = .returned (.tuple #[.int .u64 (withoutV s i : Nat), .int .i64 (joinE [i])]) ∧ Below w.heap.size w W' := by
  have hB0 : Below w.heap.size w (w.alloc (.cells #[.int .i64 i] 3)) := (Below.refl _ w).alloc (Nat.le_refl _) _
  have HC := Lib.hid (join_any 0 (by unfold U64; omega) (some ⟨w.heap.size, 0, none⟩) 1 1 [i] ga (by simp) _ (ints_one w i) (hg.below hg.lt hB0))
  have hu := Lib.hid (joinV_u64 0 [i] (by unfold U64; omega))
  by_cases hi : okC i = true
  · have ev : withoutV s i = lessN s (joinV 0 [i]) := by simp [withoutV, hi]
    have ee : joinE [i] = 0 := by simp [joinE_one, hi]
    have HE := Lib.hid ee
    rw [ev, ee]
    clear ev ee hi
    go_enter Tryd.func15, Tryd.ntmps15
    go_wp2_with fail
    refine HC.out.mono ?_
    rintro e w1 ⟨he, hb⟩
    rw [HE.out] at he
    subst he
    go_wp2_with (go_at_call 24; refine (less_any s _ hs hu.out _).mono ?_; rintro e w' ⟨rfl, rfl⟩)
    go_ret2
    exact ⟨rfl, hB0.trans (hb.mono (by simp))⟩
  · have ev : withoutV s i = 0 := by simp [withoutV, hi]
    have ee : joinE [i] = 10 := by simp [joinE_one, hi]
    have HE := Lib.hid ee
    rw [ev, ee]
    clear ev ee hi
    go_enter Tryd.func15, Tryd.ntmps15
    go_wp2_with fail
    refine HC.out.mono ?_
    rintro e w1 ⟨he, hb⟩
    rw [HE.out] at he
    subst he
    go_wp2
    go_ret2
    exact ⟨rfl, hB0.trans (hb.mono (by simp))⟩

/-- Is i in s? -/
def hasB (s : Nat) (i : Int) : Bool := okC i && s.testBit i.toNat

theorem testBit_int (s k : Nat) (hs : U64 s) : (bits BinOp.and IntKind.u64 ((s : Int) / 2 ^ k) 1 == 1) = s.testBit k := by
  have e1 : ((s : Int) / 2 ^ k) = ((s / 2 ^ k : Nat) : Int) := by simp
  have hl : s / 2 ^ k < 18446744073709551616 := Nat.lt_of_le_of_lt (Nat.div_le_self _ _) hs
  rw [e1, show (1 : Int) = ((1 : Nat) : Int) from rfl, u64_and_nat _ 1 hl (by omega), beq_nat, Nat.testBit, Nat.and_comm, ← Nat.shiftRight_eq_div_pow]
  have h2 : 1 &&& s >>> k = 0 ∨ 1 &&& s >>> k = 1 := by
    have : 1 &&& s >>> k ≤ 1 := Nat.and_le_left
    omega
  rcases h2 with h2 | h2 <;> rw [h2] <;> rfl

set_option maxHeartbeats 400000 in
theorem has_in (s : Nat) (hs : U64 s) (i : Int) (ga : Addr) (w : World) (hg : Glob ga w) :
    Calls Tryd.prog 30 #[.int .u64 s, .int .i64 i] w fun e W' => e = .returned (.bool (hasB s i)) ∧ w = W' := by
  have HG : Hid (w.cell? ⟨0, 0, none⟩ = some (.iface 75 (.pointer (some ga)))) := hg
  clear hg
  by_cases hi : okC i = true
  · obtain ⟨h0, h1⟩ := (okC_iff i).1 hi
    obtain ⟨k, rfl⟩ := Int.eq_ofNat_of_zero_le h0
    have ev : hasB s (k : Int) = s.testBit k := by simp [hasB, hi]
    have hj : errv (.iface 75 (.pointer (some ga))) (k : Int) = .nilIface := by simp [errv, hi]
    have hk : k < 64 := by omega
    rw [ev, ← testBit_int s k hs]
    clear ev hi
    go_enter Tryd.func30, Tryd.ntmps30
    go_wp2_with (go_at_call 35; refine (judge_any _ _ _ HG.out).mono ?_; rintro e w' ⟨rfl, rfl⟩)
    go_ret
    exact ⟨rfl, rfl⟩
  · have ev : hasB s i = false := by simp [hasB, hi]
    have hj : errv (.iface 75 (.pointer (some ga))) i = .iface 75 (.pointer (some ga)) := by simp [errv, hi]
    rw [ev]
    clear ev hi
    go_enter Tryd.func30, Tryd.ntmps30
    go_wp2_with (go_at_call 35; refine (judge_any _ _ _ HG.out).mono ?_; rintro e w' ⟨rfl, rfl⟩)
    go_ret
    exact ⟨rfl, rfl⟩

set_option maxHeartbeats 400000 in
theorem has_any (s : Nat) (hs : U64 s) (i : Int) (ga : Addr) (w : World) (hg : Glob ga w) :
    Calls Tryd.prog 20 #[.int .u64 s, .int .i64 i] w fun e W' => e = .returned (.bool (hasB s i)) ∧ w = W' := by
  go_enter Tryd.func20, Tryd.ntmps20
  go_wp2_with (go_at_call 30; refine (has_in s hs i ga _ hg).mono ?_; rintro e w' ⟨rfl, rfl⟩)
  go_ret
  exact ⟨rfl, rfl⟩


theorem ints_505 (w : World) : Ints (w.alloc (.cells #[.int .i64 5, .int .i64 0, .int .i64 5] 3)).heap.size (w.alloc (.cells #[.int .i64 5, .int .i64 0, .int .i64 5] 3)) (.slice (some ⟨w.heap.size, 0, none⟩) 3 3) [5, 0, 5] :=
  ⟨_, 3, rfl, fun _ => ⟨w.heap.size, 0, rfl, by simp, fun j hj => by
    have : j = 0 ∨ j = 1 ∨ j = 2 := by simp at hj; omega
    rcases this with rfl | rfl | rfl <;> simp⟩⟩

set_option maxHeartbeats 400000 in
theorem shown_any (ga : Addr) (w : World) (hg : Glob ga w) :
    Calls Tryd.prog 9 #[] w fun e W' => e = .returned (.bool true) ∧ Below w.heap.size w W' := by
  have h0 := hg.lt
  have hB0 : Below w.heap.size w (w.alloc (.cells #[.int .i64 5, .int .i64 0, .int .i64 5] 3)) := (Below.refl _ w).alloc (Nat.le_refl _) _
  have hg1 := Lib.hid (hg.below h0 hB0)
  have C1 := Lib.hid (of_any (some ⟨w.heap.size, 0, none⟩) 3 3 [5, 0, 5] ga (by simp) _ (ints_505 w) hg1.out)
  have v1 := Lib.hid (show joinV 0 [5, 0, 5] = 33 from rfl)
  have e1 := Lib.hid (show joinE [5, 0, 5] = 0 from rfl)
  have e2 := Lib.hid (show joinE [63] = 0 from rfl)
  have e3 := Lib.hid (show joinE [64] = 10 from rfl)
  have v2 : ((joinV 0 [63] : Nat) : Int) == 9223372036854775808 := by decide +kernel
  have c33 := Lib.hid (show cnt 64 33 = 2 by decide +kernel)
  have l33 := Lib.hid (show (lessN 1 33 == 0) = true by decide +kernel)
  clear hg
  go_enter Tryd.func9, Tryd.ntmps9
  go_wp2_with fail
  refine C1.out.mono ?_
  rintro e w1 ⟨he, hb1⟩
  rw [v1.out, e1.out] at he
  subst he
  have g1 := Lib.hid (hg1.out.below (by simp) hb1)
  have s1 := hb1.size
  go_wp2_with fail
  refine (with_any 0 (by unfold U64; omega) 63 ga w1 g1.out).mono ?_
  rintro e w2 ⟨he, hb2⟩
  rw [e2.out] at he
  subst he
  have g2 := Lib.hid (g1.out.below g1.out.lt hb2)
  go_wp2_with fail
  have hB2 : Below w2.heap.size w2 (w2.alloc (.cells #[.int .i64 64] 3)) := (Below.refl _ w2).alloc (Nat.le_refl _) _
  refine (of_any (some ⟨w2.heap.size, 0, none⟩) 1 1 [64] ga (by simp) _ (ints_one w2 64) (g2.out.below g2.out.lt hB2)).mono ?_
  rintro e w3 ⟨he, hb3⟩
  rw [e3.out] at he
  subst he
  go_wp2_with fail
  refine (count_any 33 (by unfold U64; omega) _).mono ?_
  rintro e w4 ⟨he, rfl⟩
  rw [c33.out] at he
  subst he
  go_wp2_with fail
  refine (sub_any 1 33 (by unfold U64; omega) (by unfold U64; omega) _).mono ?_
  rintro e w4 ⟨he, rfl⟩
  rw [l33.out] at he
  subst he
  go_wp2
  go_ret
  refine ⟨rfl, ?_⟩
  have z1 := hb1.size
  have z2 := hb2.size
  simp at z1
  exact (hB0.trans (hb1.mono (by simp))).trans ((hb2.mono (by omega)).trans ((hB2.mono (by omega)).trans (hb3.mono (by simp; omega))))

end Go.Proofs.YtngacmkgnpgomaaDoor
