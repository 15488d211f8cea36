/- The iterator over a number's bytes. -/
import Derived.Test.YtpmelbjbkdflgaaDoorFldJudge
import Derived.Test.YtpmelbjbkdflgaaDoorFldMath
import Derived.RangeFuncNested
import Derived.RangeFuncBound
import Derived.RangeFuncCalls
import Derived.RangeFuncLeaves
import Derived.Shelf.Abstract
import Derived.Shelf.RegionOpen
import Derived.OwnWalkIn
import Derived.TacticsInMore
import Derived.LoopNIn
import Derived.LoopIn
namespace Go.Proofs.YtpmelbjbkdflgaaDoor
open Go.RowKit Go.Shelf Go.Proofs.Fld

attribute [local go_sem] Oper.semAt_some

/-- What the iterator reads between two rounds is kept: its two boxes. -/
def KpF (Bk Bn : Nat) (W W' : World) : Prop := W'.cell? ⟨Bk, 0, none⟩ = W.cell? ⟨Bk, 0, none⟩ ∧ W'.cell? ⟨Bn, 0, none⟩ = W.cell? ⟨Bn, 0, none⟩
theorem KpF.refl (Bk Bn : Nat) (W : World) : KpF Bk Bn W W := ⟨rfl, rfl⟩
theorem KpF.trans {Bk Bn : Nat} {A B C : World} (h : KpF Bk Bn A B) (k : KpF Bk Bn B C) : KpF Bk Bn A C := ⟨k.1.trans h.1, k.2.trans h.2⟩
theorem KpF.putObj {Bk Bn : Nat} {w : World} (hB : Bk < w.heap.size) (hG : Bn < w.heap.size) (W : World) (l : Nat) (o o' : Obj) (hl : w.heap.size ≤ l) (h : W.heap[l]? = some o) (h1 : o.isCells = false) (h2 : o.isWalk = false) : KpF Bk Bn W (W.putObj l o') := by
  have hb := belowK_b (n₀ := w.heap.size) (w := w) (Nat.le_refl _) W l o o' hl h h1 h2
  exact ⟨hb.cell (p := ⟨Bk, 0, none⟩) hB, hb.cell (p := ⟨Bn, 0, none⟩) hG⟩

set_option maxRecDepth 100000 in
set_option maxHeartbeats 1000000 in
theorem falling1_in (n : Nat) (hn : 1 ≤ n) (l Bk Bn k x : Nat) (hk8 : k ≤ 8) (hx : x < 18446744073709551616) (J Jx : List UInt8 → World → Prop)
    (hY : ∀ pre b W, J pre W → pre.length < 8 → YieldAt Fence.wide (n - 1) Tryd.prog l #[.int .u8 ((b : UInt8).toNat : Int)] W fun e W' =>
      (e = .returned (.bool true) ∧ J (pre ++ [b]) W' ∧ KpF Bk Bn W W') ∨ (e = .returned (.bool false) ∧ Jx (pre ++ [b]) W'))
    (W : World) (hBk : W.cell? ⟨Bk, 0, none⟩ = some (.int .i64 k)) (hBn : W.cell? ⟨Bn, 0, none⟩ = some (.int .u64 x)) (h0 : J [] W) :
    CallsIn Fence.wide n Tryd.prog 42 #[.func (.yield l) #[] #[], .pointer (some ⟨Bk, 0, none⟩), .pointer (some ⟨Bn, 0, none⟩)] W fun e W' => (∃ v, e = .returned v) ∧
      ((∃ ys, ys = enc k x ∧ J ys W') ∨ (∃ pre, True ∧ Jx pre W')) := by
  have HX := Lib.hid hx
  clear hx
  refine callsIn_of_wp Tryd.func42 rfl trivial ?_ rfl
  simp only [Tryd.ntmps42, List.size_toArray, List.length_cons, List.length_nil, Nat.reduceAdd, Nat.reduceSub, Array.replicate_succ, Array.replicate_zero, List.push_toArray, List.append_toArray, List.nil_append, List.cons_append]
  gi_wp2
  gi_loopw [4] (fun i wr => ∃ j : Nat, j ≤ k ∧ i = .int .i64 ((k : Int) - 1 - j) ∧ J ((enc k x).take j) wr ∧ KpF Bk Bn W wr)
    (fun i _ => (intOf i + 1).toNat)
  case atStart => exact ⟨0, by omega, by simp, by simpa using h0, KpF.refl _ _ _⟩
  case round =>
    obtain ⟨j, hj, rfl, hJs, hnx⟩ := hrel
    have hcx : wr.cell? ⟨Bk, 0, none⟩ = some (.int .i64 k) := hnx.1.trans hBk
    have hcn : wr.cell? ⟨Bn, 0, none⟩ = some (.int .u64 x) := hnx.2.trans hBn
    by_cases hlt : j < k
    · have hg : (0 : Int) ≤ (k : Int) - 1 - j := by omega
      obtain ⟨fn, tmps, assign, body, hy, hR⟩ := hY _ (UInt8.ofNat (x / 256 ^ (k - 1 - j))) wr hJs (by simp [enc_length]; omega)
      have hb : (((UInt8.ofNat (x / 256 ^ (k - 1 - j))).toNat : Nat) : Int) = (x : Int) / 2 ^ (8 * (k - 1 - j)) % 256 := by
        rw [ofNat_toNat, show (256 : Nat) = 2 ^ 8 by rfl, ← Nat.pow_mul]
        push_cast
        rfl
      rw [hb] at hy
      have hte : (enc k x).take j ++ [UInt8.ofNat (x / 256 ^ (k - 1 - j))] = (enc k x).take (j + 1) := by
        rw [List.take_add_one, enc_get k x j hlt]; rfl
      rw [hte] at hR
      gi_wp2
      refine hR.mono ?_
      rintro e W3 (⟨rfl, hJ3, hk3⟩ | ⟨rfl, hJx3⟩)
      · gi_wp2
        go_roundw
        case rel => exact ⟨j + 1, by omega, by go_num, hJ3, hnx.trans hk3⟩
        case measure => simp [intOf]; omega
      · gi_wp2
        refine bodyPost_ret (results_none rfl _ _ _) rfl ?_
        exact ⟨⟨_, rfl⟩, .inr ⟨_, trivial, hJx3⟩⟩
    · obtain rfl : j = k := by omega
      have hte : (enc j x).take j = enc j x := List.take_of_length_le (by rw [enc_length]; exact Nat.le_refl _)
      rw [hte] at hJs
      gi_wp2
      go_end0
      exact ⟨⟨_, rfl⟩, .inl ⟨_, rfl, hJs⟩⟩

set_option maxHeartbeats 1000000 in
theorem falling_any (k x : Int) (w : World) :
    Calls Tryd.prog 34 #[.int .i64 k, .int .u64 x] w fun e w' => e = .returned (.func (.func 42) #[] #[.pointer (some ⟨w.heap.size, 0, none⟩), .pointer (some ⟨w.heap.size + 1, 0, none⟩)]) ∧ w' = (w.alloc (.cells #[.int .i64 k] 3)).alloc (.cells #[.int .u64 x] 22) := by
  go_enter Tryd.func34, Tryd.ntmps34
  go_wp2
  go_ret
  exact ⟨rfl, rfl⟩

theorem falling_stops (n : Nat) (hn : 1 ≤ n) (Bk Bn k x : Nat) (hk8 : k ≤ 8) (hx : x < 18446744073709551616) (w : World) (hlk : Bk < w.heap.size) (hln : Bn < w.heap.size)
    (hBk : w.cell? ⟨Bk, 0, none⟩ = some (.int .i64 k)) (hBn : w.cell? ⟨Bn, 0, none⟩ = some (.int .u64 x)) :
    SeqStopsK Fence.wide n Tryd.prog 42 #[.pointer (some ⟨Bk, 0, none⟩), .pointer (some ⟨Bn, 0, none⟩)] (fun b : UInt8 => #[Value.int .u8 (b.toNat : Int)]) (KpF Bk Bn) (fun ys => ys = enc k x) (fun _ => True) 8 w := fun l J Jx W hW _ _ hY h0 =>
  falling1_in n hn l Bk Bn k x hk8 hx J Jx hY W ((hW.cell (p := ⟨Bk, 0, none⟩) hlk).trans hBk) ((hW.cell (p := ⟨Bn, 0, none⟩) hln).trans hBn) h0

end Go.Proofs.YtpmelbjbkdflgaaDoor
