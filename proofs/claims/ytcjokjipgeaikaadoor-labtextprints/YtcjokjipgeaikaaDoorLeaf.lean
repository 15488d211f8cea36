/- The contracts of the leaves: Less, Sub, OnesCount64, Count, judge. -/
import Derived.Test.YtcjokjipgeaikaaDoorRows
import Derived.Test.YtcjokjipgeaikaaDoorMath
import Derived.WalkKit
import Derived.WalkSpells
import Derived.WalkLawsBesides
import Derived.Lib.Hide
import Derived.Laws.Bits128
namespace Go.Proofs.YtcjokjipgeaikaaDoor.Ct
open Go.RowKit Go.Proofs.Cats

set_option maxHeartbeats 400000 in
theorem less_any (a b : Nat) (ha : U64 a) (hb : U64 b) (w : World) :
    Calls Tryd.prog 69 #[.int .u64 a, .int .u64 b] w fun e w' => e = .returned (.int .u64 (lessN a b : Nat)) ∧ w = w' := by
  go_enter Tryd.func69, Tryd.ntmps69
  go_wp2
  go_ret
  exact ⟨by rw [u64_andNot_nat a b ha hb]; rfl, rfl⟩

def r1 (x : Int) : Int := IntKind.u64.wrap (bits BinOp.and IntKind.u64 (x / 2) 6148914691236517205 + bits BinOp.and IntKind.u64 x 6148914691236517205)
def r2 (y : Int) : Int := IntKind.u64.wrap (bits BinOp.and IntKind.u64 (y / 4) 3689348814741910323 + bits BinOp.and IntKind.u64 y 3689348814741910323)
def r3 (y : Int) : Int := bits BinOp.and IntKind.u64 (IntKind.u64.wrap (y / 16 + y)) 1085102592571150095
def r4 (y : Int) : Int := IntKind.u64.wrap (y + y / 256)
def r5 (y : Int) : Int := IntKind.u64.wrap (y + y / 65536)
def r6 (y : Int) : Int := IntKind.u64.wrap (y + y / 4294967296)
def ones (x : Int) : Int := bits BinOp.and IntKind.i64 (wrap64 (r6 (r5 (r4 (r3 (r2 (r1 x))))))) 127

set_option maxHeartbeats 400000 in
theorem ones_raw (x : Int) (w : World) :
    Calls Tryd.prog 59 #[.int .u64 x] w fun e w' => e = .returned (.int .i64 (ones x)) ∧ w = w' := by
  go_enter Tryd.func59, Tryd.ntmps59
  go_wp2
  go_ret
  exact ⟨rfl, rfl⟩

theorem r1_nat (x : Nat) (hx : U64 x) : r1 x = (g1 (mk 85 8) x : Nat) ∧ U64 (g1 (mk 85 8) x) := by
  unfold U64 at hx
  have e : mk 85 8 = 6148914691236517205 := rfl
  have b1 : x / 2 &&& 6148914691236517205 ≤ 6148914691236517205 := Nat.and_le_right
  have b2 : x &&& 6148914691236517205 ≤ 6148914691236517205 := Nat.and_le_right
  have f : g1 (mk 85 8) x = (x / 2 &&& 6148914691236517205) + (x &&& 6148914691236517205) := by unfold g1; rw [e]
  have h1 := u64_and_nat (x / 2) 6148914691236517205 (by omega) (by omega)
  have h2 := u64_and_nat x 6148914691236517205 hx (by omega)
  have d : ((x : Int) / 2) = ((x / 2 : Nat) : Int) := by omega
  refine ⟨?_, by unfold U64; rw [f]; omega⟩
  unfold r1
  rw [d]
  rw [show (6148914691236517205 : Int) = ((6148914691236517205 : Nat) : Int) from rfl, h1, h2, f, IntKind.wrap_u64]
  omega

theorem r2_nat (x : Nat) (hx : U64 x) : r2 x = (g2 (mk 51 8) x : Nat) ∧ U64 (g2 (mk 51 8) x) := by
  unfold U64 at hx
  have e : mk 51 8 = 3689348814741910323 := rfl
  have b1 : x / 4 &&& 3689348814741910323 ≤ 3689348814741910323 := Nat.and_le_right
  have b2 : x &&& 3689348814741910323 ≤ 3689348814741910323 := Nat.and_le_right
  have f : g2 (mk 51 8) x = (x / 4 &&& 3689348814741910323) + (x &&& 3689348814741910323) := by unfold g2; rw [e]
  have h1 := u64_and_nat (x / 4) 3689348814741910323 (by omega) (by omega)
  have h2 := u64_and_nat x 3689348814741910323 hx (by omega)
  have d : ((x : Int) / 4) = ((x / 4 : Nat) : Int) := by omega
  refine ⟨?_, by unfold U64; rw [f]; omega⟩
  unfold r2
  rw [d]
  rw [show (3689348814741910323 : Int) = ((3689348814741910323 : Nat) : Int) from rfl, h1, h2, f, IntKind.wrap_u64]
  omega

theorem r3_nat (x : Nat) (hx : x ≤ 7378697629483820646) : r3 x = (g3 (mk 15 8) x : Nat) := by
  have e : mk 15 8 = 1085102592571150095 := rfl
  have h1 := u64_and_nat (x / 16 + x) 1085102592571150095 (by omega) (by omega)
  have d : IntKind.u64.wrap ((x : Int) / 16 + x) = ((x / 16 + x : Nat) : Int) := by rw [IntKind.wrap_u64]; omega
  unfold r3 g3
  rw [d, show (1085102592571150095 : Int) = ((1085102592571150095 : Nat) : Int) from rfl, h1, e]

theorem r4_nat (y : Nat) (h : y ≤ 600000000000000000) : r4 y = ((y + y / 256 : Nat) : Int) := by unfold r4; rw [IntKind.wrap_u64]; omega
theorem r5_nat (y : Nat) (h : y ≤ 700000000000000000) : r5 y = ((y + y / 65536 : Nat) : Int) := by unfold r5; rw [IntKind.wrap_u64]; omega
theorem r6_nat (y : Nat) (h : y ≤ 800000000000000000) : r6 y = ((y + y / 4294967296 : Nat) : Int) := by unfold r6; rw [IntKind.wrap_u64]; omega
theorem r7_nat (y : Nat) (_h : y ≤ 900000000000000000) : bits BinOp.and IntKind.i64 (wrap64 (y : Int)) 127 = ((y % 128 : Nat) : Int) := by
  rw [i64_and127]; unfold wrap64; omega
theorem le4 (y : Nat) (h : y ≤ 578721382704613384) : y + y / 256 ≤ 600000000000000000 := by omega
theorem le5 (y : Nat) (h : y ≤ 600000000000000000) : y + y / 65536 ≤ 700000000000000000 := by omega
theorem le6 (y : Nat) (h : y ≤ 700000000000000000) : y + y / 4294967296 ≤ 800000000000000000 := by omega

theorem tail (y : Nat) (hy : y ≤ 578721382704613384) :
    bits BinOp.and IntKind.i64 (wrap64 (r6 (r5 (r4 y)))) 127 = (((y + y / 256 + (y + y / 256) / 65536 + (y + y / 256 + (y + y / 256) / 65536) / 4294967296) % 128 : Nat) : Int) := by
  have h4 := le4 y hy
  rw [r4_nat y (Nat.le_trans hy (by decide))]
  generalize y + y / 256 = y4 at *
  have h5 := le5 y4 h4
  rw [r5_nat y4 (Nat.le_trans h4 (by decide))]
  generalize y4 + y4 / 65536 = y5 at *
  rw [r6_nat y5 (Nat.le_trans h5 (by decide))]
  exact r7_nat _ (Nat.le_trans (le6 y5 h5) (by decide))

theorem g2_le (m x : Nat) (h : m = 3689348814741910323) : g2 m x ≤ 7378697629483820646 := by
  subst h
  unfold g2
  have b1 : x / 4 &&& 3689348814741910323 ≤ 3689348814741910323 := Nat.and_le_right
  have b2 : x &&& 3689348814741910323 ≤ 3689348814741910323 := Nat.and_le_right
  omega

theorem ones_cnt (x : Nat) (hx : U64 x) : ones x = (cnt 64 x : Nat) := by
  obtain ⟨h1, u1⟩ := r1_nat x hx
  obtain ⟨h2, _⟩ := r2_nat _ u1
  have h3 := r3_nat _ (g2_le (mk 51 8) (g1 (mk 85 8) x) rfl)
  rw [swar] at h3
  obtain ⟨hf, hy⟩ := fold_bytes x (bytesC 8 x) _ _ rfl rfl rfl
  unfold ones
  rw [h1, h2, h3, tail _ hy, hf]

theorem onesCount_any (x : Nat) (hx : U64 x) (w : World) :
    Calls Tryd.prog 59 #[.int .u64 x] w fun e w' => e = .returned (.int .i64 (cnt 64 x : Nat)) ∧ w = w' := by
  rw [← ones_cnt x hx]; exact ones_raw x w

set_option maxHeartbeats 400000 in
theorem count_any (x : Nat) (hx : U64 x) (w : World) :
    Calls Tryd.prog 43 #[.int .u64 x] w fun e w' => e = .returned (.int .i64 (cnt 64 x : Nat)) ∧ w = w' := by
  go_enter Tryd.func43, Tryd.ntmps43
  go_wp2_with (go_at_call 59; refine (onesCount_any x hx _).mono ?_; rintro e w' ⟨rfl, rfl⟩)
  go_ret
  exact ⟨rfl, rfl⟩

set_option maxHeartbeats 400000 in
theorem sub_any (a b : Nat) (ha : U64 a) (hb : U64 b) (w : World) :
    Calls Tryd.prog 56 #[.int .u64 a, .int .u64 b] w fun e w' => e = .returned (.bool (lessN a b == 0)) ∧ w = w' := by
  go_enter Tryd.func56, Tryd.ntmps56
  go_wp2_with (go_at_call 69; refine (less_any a b ha hb _).mono ?_; rintro e w' ⟨rfl, rfl⟩)
  go_ret
  exact ⟨congrArg (fun b => Ending.returned (.bool b)) (beq_nat0 _), rfl⟩

/-- What judge tells: nil, or the sentinel. -/
def errv (g : Value) (i : Int) : Value := if okC i then .nilIface else g

set_option maxHeartbeats 400000 in
theorem judge_any (i : Int) (g : Value) (w : World) (hg : w.cell? ⟨2, 0, none⟩ = some g) :
    Calls Tryd.prog 72 #[.int .i64 i] w fun e w' => e = .returned (errv g i) ∧ w = w' := by
  by_cases h0 : i < 0
  · go_enter Tryd.func72, Tryd.ntmps72
    go_wp2
    go_ret
    exact ⟨by simp [errv, okC, Int.not_le.2 h0], rfl⟩
  · by_cases h1 : 64 ≤ i
    · go_enter Tryd.func72, Tryd.ntmps72
      go_wp2
      go_ret
      exact ⟨by simp [errv, okC, Int.not_lt.2 h1], rfl⟩
    · go_enter Tryd.func72, Tryd.ntmps72
      go_wp2
      go_ret
      exact ⟨by simp [errv, okC]; omega, rfl⟩


theorem or_pow_int (s i : Nat) (hi : i < 64) (hs : U64 s) : bits BinOp.or IntKind.u64 (s : Int) (IntKind.u64.wrap (2 ^ i)) = ((s ||| 2 ^ i : Nat) : Int) := by
  have hp : 2 ^ i < 18446744073709551616 := Nat.pow_lt_pow_right (m := i) (n := 64) (by omega) hi
  have e : IntKind.u64.wrap ((2 : Int) ^ i) = ((2 ^ i : Nat) : Int) := by
    have e1 : ((2 : Int) ^ i) = ((2 ^ i : Nat) : Int) := by simp
    rw [IntKind.wrap_u64, e1]
    generalize 2 ^ i = q at *
    omega
  rw [e]
  exact u64_or_nat s _ hs hp

set_option maxHeartbeats 400000 in
theorem add_any (b : Nat) (s i : Nat) (hi : i < 64) (hs : U64 s) (w : World) (hc : w.cell? ⟨b, 0, none⟩ = some (.int .u64 s)) (hf : w.frozen? ⟨b, 0, none⟩ = false) :
    Calls Tryd.prog 83 #[.pointer (some ⟨b, 0, none⟩), .int .i64 i] w fun e w' => e = .returned (.tuple #[]) ∧ w' = (w.setCell ⟨b, 0, none⟩ (.int .u64 (s ||| 2 ^ i : Nat))).drew := by
  rw [← or_pow_int s i hi hs]
  go_enter Tryd.func83, Tryd.ntmps83
  go_region
  all_goals go_wp2
  all_goals (go_end0; exact ⟨rfl, rfl⟩)

end Go.Proofs.YtcjokjipgeaikaaDoor.Ct
