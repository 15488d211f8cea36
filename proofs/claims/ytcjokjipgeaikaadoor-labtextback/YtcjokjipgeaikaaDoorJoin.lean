/- The contracts of join, Of, With, Without, has, Has; and what the statements' head shows. -/
import Derived.Test.YtcjokjipgeaikaaDoorPick
import Derived.Test.YtcjokjipgeaikaaDoorIs
import Derived.BigQuiet
import Derived.Deep.QuietTactic
namespace Go.Proofs.YtcjokjipgeaikaaDoor.Ct
open Go.RowKit Go.Proofs.Cats

def joinV (s : Nat) (zs : List Int) : Nat := if zs.all okC then addAll s zs else 0
def joinE (zs : List Int) : Int := if zs.all okC then 0 else 10

/-- The one sentinel's cell. -/
def Glob (ga : Addr) (w : World) : Prop := w.cell? ⟨2, 0, none⟩ = some (.iface 151 (.pointer (some ga)))
theorem Glob.lt {ga : Addr} {w : World} (h : Glob ga w) : 2 < w.heap.size := World.block_lt_of_cell? w _ h
theorem Glob.below {ga : Addr} {n : Nat} {A B : World} (h : Glob ga A) (hn : 2 < n) (hb : Below n A B) : Glob ga B := (hb.cell (p := ⟨2, 0, none⟩) hn).trans h

theorem pick_any (b s : Nat) (hs : U64 s) (a : Option Addr) (len cap : Nat) (zs : List Int) (ga : Addr) (hreach : zs.length * 8 ≤ 140737488351232) (w : World) (hb : 2 < b) (hbw : b < w.heap.size)
    (hp : w.cell? ⟨b, 0, none⟩ = some (.int .u64 s)) (hf : w.frozen? ⟨b, 0, none⟩ = false) (hI : Ints b w (.slice a len cap) zs) (hg : Glob ga w) :
    Calls Tryd.prog 78 #[.pointer (some ⟨b, 0, none⟩), .slice a len cap] w fun e W' =>
      e = .returned (if zs.all okC then .nilIface else .iface 151 (.pointer (some ga))) ∧ (zs.all okC = true → W'.cell? ⟨b, 0, none⟩ = some (.int .u64 (addAll s zs : Nat))) ∧ Below b w W' :=
  (callsIn_wide (n := 3)).1 (pick_in 3 (by omega) b s hs a len cap zs ga hreach w hb hbw hp hf hI hg)

set_option maxHeartbeats 400000 in
theorem join_any (s : Nat) (hs : U64 s) (a : Option Addr) (len cap : Nat) (zs : List Int) (ga : Addr) (hreach : zs.length * 8 ≤ 140737488351232) (w : World) (hI : Ints w.heap.size w (.slice a len cap) zs) (hg : Glob ga w) :
    Calls Tryd.prog 68 #[.int .u64 s, .slice a len cap] w fun e W' =>
      e = .returned (.tuple #[.int .u64 (joinV s zs : Nat), .int .i64 (joinE zs)]) ∧ Below w.heap.size w W' := by
  have bP := Boxed.new w 135 (.int .u64 s)
  have h0 := hg.lt
  have hB0 : Below w.heap.size w (w.alloc (.cells #[.int .u64 s] 135)) := (Below.refl _ w).alloc (Nat.le_refl _) _
  have hg1 := hg.below h0 hB0
  have hI1 := hI.below hB0
  have C := pick_any w.heap.size s hs a len cap zs ga hreach (w.alloc (.cells #[.int .u64 s] 135)) h0 (by simp) bP.cell bP.frozen hI1 hg1
  have HC := Lib.hid C
  clear C bP hI hI1
  by_cases hz : zs.all okC = true
  · have ev : joinV s zs = addAll s zs := by simp [joinV, hz]
    have ee : joinE zs = 0 := by simp [joinE, hz]
    rw [ev, ee]
    have HZ := Lib.hid hz
    clear ev ee hz
    go_enter Tryd.func68, Tryd.ntmps68
    go_wp2_with fail
    refine HC.out.mono ?_
    rintro e w1 ⟨he, hc, hb⟩
    have hc1 := hc HZ.out
    rw [HZ.out, if_pos rfl] at he
    have hg2 : w1.cell? ⟨2, 0, none⟩ = some (.iface 151 (.pointer (some ga))) := hg1.below h0 hb
    subst he
    clear hc
    go_wp2_with (go_at_call 79; refine (is_nil ga w1).mono ?_; rintro e w' ⟨rfl, rfl⟩)
    go_ret2
    exact ⟨rfl, hB0.trans hb⟩
  · have ev : joinV s zs = 0 := by simp [joinV, hz]
    have ee : joinE zs = 10 := by simp [joinE, hz]
    rw [ev, ee]
    have HZ := Lib.hid hz
    clear ev ee hz
    go_enter Tryd.func68, Tryd.ntmps68
    go_wp2_with fail
    refine HC.out.mono ?_
    rintro e w1 ⟨he, hc, hb⟩
    rw [if_neg HZ.out] at he
    have hg2 : w1.cell? ⟨2, 0, none⟩ = some (.iface 151 (.pointer (some ga))) := hg1.below h0 hb
    subst he
    clear hc
    go_wp2_with (go_at_call 79; refine (is_same ga w1).mono ?_; rintro e w' ⟨rfl, rfl⟩)
    go_ret2
    exact ⟨rfl, hB0.trans hb⟩


theorem ints_one (w : World) (i : Int) : Ints (w.alloc (.cells #[.int .i64 i] 3)).heap.size (w.alloc (.cells #[.int .i64 i] 3)) (.slice (some ⟨w.heap.size, 0, none⟩) 1 1) [i] :=
  ⟨_, 1, rfl, fun _ => ⟨w.heap.size, 0, rfl, by simp, fun j hj => by
    have : j = 0 := by simp at hj; omega
    subst this
    simp⟩⟩

set_option maxHeartbeats 400000 in
theorem with_any (s : Nat) (hs : U64 s) (i : Int) (ga : Addr) (w : World) (hg : Glob ga w) :
    Calls Tryd.prog 51 #[.int .u64 s, .int .i64 i] w fun e W' =>
      e = .returned (.tuple #[.int .u64 (joinV s [i] : Nat), .int .i64 (joinE [i])]) ∧ Below w.heap.size w W' := by
  have hB0 : Below w.heap.size w (w.alloc (.cells #[.int .i64 i] 3)) := (Below.refl _ w).alloc (Nat.le_refl _) _
  have HC := Lib.hid (join_any s hs (some ⟨w.heap.size, 0, none⟩) 1 1 [i] ga (by simp) _ (ints_one w i) (hg.below hg.lt hB0))
  go_enter Tryd.func51, Tryd.ntmps51
  go_wp2_with fail
  refine HC.out.mono ?_
  rintro e w1 ⟨rfl, hb⟩
  go_wp2
  go_ret2
  exact ⟨rfl, hB0.trans (hb.mono (by simp))⟩

/-- What is taken out of s. -/
def withoutV (s : Nat) (i : Int) : Nat := if okC i then lessN s (joinV 0 [i]) else 0

theorem joinV_u64 (s : Nat) (zs : List Int) (hs : U64 s) : U64 (joinV s zs) := by
  unfold joinV
  split
  · exact addAll_u64 s zs hs (by assumption)
  · unfold U64; omega

theorem joinE_one (i : Int) : joinE [i] = if okC i then 0 else 10 := by simp [joinE]

/-- Is i in s? -/
def hasB (s : Nat) (i : Int) : Bool := okC i && s.testBit i.toNat

theorem testBit_int (s k : Nat) (hs : U64 s) : (bits BinOp.and IntKind.u64 ((s : Int) / 2 ^ k) 1 == 1) = s.testBit k := by
  have e1 : ((s : Int) / 2 ^ k) = ((s / 2 ^ k : Nat) : Int) := by simp
  have hl : s / 2 ^ k < 18446744073709551616 := Nat.lt_of_le_of_lt (Nat.div_le_self _ _) hs
  rw [e1, show (1 : Int) = ((1 : Nat) : Int) from rfl, u64_and_nat _ 1 hl (by omega), beq_nat, Nat.testBit, Nat.and_comm, ← Nat.shiftRight_eq_div_pow]
  have h2 : 1 &&& s >>> k = 0 ∨ 1 &&& s >>> k = 1 := by
    have : 1 &&& s >>> k ≤ 1 := Nat.and_le_left
    omega
  rcases h2 with h2 | h2 <;> rw [h2] <;> rfl

set_option maxHeartbeats 400000 in
theorem has_in (s : Nat) (hs : U64 s) (i : Int) (ga : Addr) (w : World) (hg : Glob ga w) :
    Calls Tryd.prog 61 #[.int .u64 s, .int .i64 i] w fun e W' => e = .returned (.bool (hasB s i)) ∧ w = W' := by
  have HG : Hid (w.cell? ⟨2, 0, none⟩ = some (.iface 151 (.pointer (some ga)))) := hg
  clear hg
  by_cases hi : okC i = true
  · obtain ⟨h0, h1⟩ := (okC_iff i).1 hi
    obtain ⟨k, rfl⟩ := Int.eq_ofNat_of_zero_le h0
    have ev : hasB s (k : Int) = s.testBit k := by simp [hasB, hi]
    have hj : errv (.iface 151 (.pointer (some ga))) (k : Int) = .nilIface := by simp [errv, hi]
    have hk : k < 64 := by omega
    rw [ev, ← testBit_int s k hs]
    clear ev hi
    go_enter Tryd.func61, Tryd.ntmps61
    go_wp2_with (go_at_call 72; refine (judge_any _ _ _ HG.out).mono ?_; rintro e w' ⟨rfl, rfl⟩)
    go_ret
    exact ⟨rfl, rfl⟩
  · have ev : hasB s i = false := by simp [hasB, hi]
    have hj : errv (.iface 151 (.pointer (some ga))) i = .iface 151 (.pointer (some ga)) := by simp [errv, hi]
    rw [ev]
    clear ev hi
    go_enter Tryd.func61, Tryd.ntmps61
    go_wp2_with (go_at_call 72; refine (judge_any _ _ _ HG.out).mono ?_; rintro e w' ⟨rfl, rfl⟩)
    go_ret
    exact ⟨rfl, rfl⟩

theorem ints_505 (w : World) : Ints (w.alloc (.cells #[.int .i64 5, .int .i64 0, .int .i64 5] 3)).heap.size (w.alloc (.cells #[.int .i64 5, .int .i64 0, .int .i64 5] 3)) (.slice (some ⟨w.heap.size, 0, none⟩) 3 3) [5, 0, 5] :=
  ⟨_, 3, rfl, fun _ => ⟨w.heap.size, 0, rfl, by simp, fun j hj => by
    have : j = 0 ∨ j = 1 ∨ j = 2 := by simp at hj; omega
    rcases this with rfl | rfl | rfl <;> simp⟩⟩

end Go.Proofs.YtcjokjipgeaikaaDoor.Ct
