/- The document's own answers: numbers. -/
import Derived.Test.YtpmelbjbkdflgaaDoorFldPut
import Derived.Test.YtpmelbjbkdflgaaDoorFldNums
import Derived.Laws.IdiomStrings
import Derived.Laws.BytesArg
import Derived.Maps.AppendAt
namespace Go.Proofs.YtpmelbjbkdflgaaDoor
open Go.RowKit Go.Shelf Go.Proofs.Fld

set_option maxHeartbeats 1000000 in
theorem refIs_any (k : Int) (w : World) : Calls Tryd.prog 28 #[.int .i64 k] w fun e w' => e = .returned (.bool (decide (isW k))) ∧ w = w' := by
  by_cases h1 : k = 1
  · subst h1
    go_enter Tryd.func28, Tryd.ntmps28
    go_wp2
    go_ret
    exact ⟨rfl, rfl⟩
  by_cases h2 : k = 2
  · subst h2
    go_enter Tryd.func28, Tryd.ntmps28
    go_wp2
    go_ret
    exact ⟨rfl, rfl⟩
  by_cases h4 : k = 4
  · subst h4
    go_enter Tryd.func28, Tryd.ntmps28
    go_wp2
    go_ret
    exact ⟨rfl, rfl⟩
  by_cases h8 : k = 8
  · subst h8
    go_enter Tryd.func28, Tryd.ntmps28
    go_wp2
    go_ret
    exact ⟨rfl, rfl⟩
  have e : decide (isW k) = false := by simp [isW, h1, h2, h4, h8]
  rw [e]
  have b1 : (k == 1) = false := by simpa using h1
  have b2 : (k == 2) = false := by simpa using h2
  have b4 : (k == 4) = false := by simpa using h4
  have b8 : (k == 8) = false := by simpa using h8
  go_enter Tryd.func28, Tryd.ntmps28
  go_wp2
  go_ret
  exact ⟨rfl, rfl⟩

theorem infoY : (Tryd.prog.info? 5).map (fun i => (i.zero, i.size, i.bytes)) = some (some (.int .u8 0), 1, 1) := by kernel_rfl
set_option maxRecDepth 100000 in
theorem row_str {W : World} {base : Nat} {a : Option Addr} {n cap : Nat} {l : List UInt8} (h : W.ownsRow base 5 1 (.slice a n cap) n (Lib.byteCells l)) (hl : l.length = n) : (convert 52 9 (.slice a n cap)).run Tryd.prog W = .ok (.string (bs l)) W := by
  subst hl
  rcases h.2 with ⟨hv, h0⟩ | ⟨g, c, cur, hv, _⟩
  · obtain rfl : l = [] := List.length_eq_zero_iff.1 h0
    obtain ⟨h1, _, _⟩ := Value.slice.inj hv
    subst h1
    exact run_convert_bytes_nil _ _ _ Tryd.underlying52 Tryd.underlying5 _ _ _ Tryd.underlying9
  · injection hv with h1 h2 h3
    subst h1
    refine run_convert_bytes_back W _ _ _ _ cap l Tryd.underlying52 Tryd.underlying5 Tryd.underlying9 (fun j hj => ?_)
    have := World.ownsRow.cells h (g := g) rfl j (.int .u8 (l[j].toNat : Int)) (by simp [Lib.byteCells, hj])
    exact this

set_option maxHeartbeats 1000000 in
theorem refPut_bad (k : Int) (h : ¬ isW k) (n : Nat) (w : World) : Calls Tryd.prog 12 #[.int .i64 k, .int .u64 n] w (SC (putRes k n) w) := by
  have e : putRes k n = ([], 2) := by simp [putRes, putC, h]
  rw [e]
  have hd : decide (isW k) = false := by simp [h]
  have HD := Lib.hid hd
  clear hd h e
  go_enter Tryd.func12, Tryd.ntmps12
  go_wp2_with (go_at_call 28; refine (refIs_any k w).mono ?_; rintro e w' ⟨he, rfl⟩; rw [HD.out] at he; subst he)
  go_ret2
  exact ⟨rfl, Below.refl _ _⟩

theorem wrap_pow (m : Nat) (h : m < 8) : IntKind.u64.wrap (2 ^ (8 * m)) = ((256 ^ m : Nat) : Int) := by
  rw [IntKind.wrap_u64]
  obtain rfl | rfl | rfl | rfl | rfl | rfl | rfl | rfl : m = 0 ∨ m = 1 ∨ m = 2 ∨ m = 3 ∨ m = 4 ∨ m = 5 ∨ m = 6 ∨ m = 7 := by omega
  all_goals decide

set_option maxRecDepth 100000 in
set_option maxHeartbeats 1000000 in
theorem refPut_ok (m : Nat) (hm : isW (m : Int)) (n : Nat) (hn : n < 256 ^ m) (w : World) : Calls Tryd.prog 12 #[.int .i64 (m : Int), .int .u64 n] w (SC (enc m n, 0) w) := by
  have hd : decide (isW (m : Int)) = true := by simp [hm]
  have HD := Lib.hid hd
  obtain ⟨m', hm', hm1, hm8⟩ := isW_le hm
  obtain rfl : m = m' := by omega
  clear hd hm hm'
  obtain ⟨i0, hi, hz0, hz1, hz2⟩ := info_parts infoY
  by_cases h8 : m < 8
  · have hc : (n : Int) < IntKind.u64.wrap (2 ^ (8 * m)) := by rw [wrap_pow m h8]; omega
    clear hn
    go_enter Tryd.func12, Tryd.ntmps12
    go_wp2_with (go_at_call 28; refine (refIs_any m w).mono ?_; rintro e w' ⟨he, rfl⟩; rw [HD.out] at he; subst he)
    go_loopw [6, 7] (fun v i wr => ∃ j : Nat, j ≤ m ∧ i = .int .i64 ((m : Int) - 1 - j) ∧ wr.ownsRow w.heap.size 5 1 v j (Lib.byteCells ((enc m n).take j)) ∧ Below w.heap.size w wr) (fun _ i _ => (intOf i + 1).toNat)
    case atStart => exact ⟨0, by omega, by simp, World.ownsRow_nil _ _ _ _, Below.refl _ _⟩
    case round =>
      obtain ⟨j, hj, rfl, hown, hB⟩ := hrel
      by_cases hjl : j < m
      · have hg : (0 : Int) ≤ (m : Int) - 1 - j := by omega
        have hbe : (n : Int) / 2 ^ (8 * (m - 1 - j)) % 256 = (((UInt8.ofNat (n / 256 ^ (m - 1 - j))).toNat : Nat) : Int) := by
          rw [ofNat_toNat, show (256 : Nat) = 2 ^ 8 by rfl, ← Nat.pow_mul]
          push_cast
          rfl
        obtain ⟨b, hb⟩ : ∃ b, UInt8.ofNat (n / 256 ^ (m - 1 - j)) = b := ⟨_, rfl⟩
        rw [hb] at hbe
        have hte : (enc m n).take (j + 1) = (enc m n).take j ++ [b] := by rw [List.take_add_one, enc_get m n j hjl, hb]; rfl
        have HT := Lib.hid hte
        clear hte hb
        go_wp2_with (at_builtin; refine wpList_append_own _ rfl _ _ 52 rfl w.heap.size 5 i0 (.int .u8 0) 1 1 Tryd.underlying52 hi hz0 hz1 hz2 rfl (by decide) _ _ _ rfl (hown.alloc _) ⟨wr.heap.size, 0, none⟩ 1 1 [.int .u8 (b.toNat : Int)] rfl rfl (cell_one_new _ _ _) (by simp [Value.oneCell']) (by unfold maxLen; omega) (by omega) (by have := hB.size; simp; omega) ?_; intro v' w2 hown' hgrow _)
        have hB1 := (hB.alloc (by have := hB.size; omega) (.cells #[.int .u8 (b.toNat : Int)] 5)).grown hgrow (by have := hB.size; simp; omega) (fun k hk => (hown.lt k hk).1)
        clear hown hgrow hB
        go_wp2
        go_roundw
        case rel => exact ⟨j + 1, by omega, by go_num, by rw [HT.out, Lib.byteCells_append]; exact hown', hB1⟩
        case measure => simp [intOf]; omega
      · obtain rfl : j = m := by omega
        obtain ⟨va, vc, rfl⟩ := row_slice hown
        have hte : (enc j n).take j = enc j n := List.take_of_length_le (by rw [enc_length]; exact Nat.le_refl _)
        rw [hte] at hown
        have hcv := row_str hown (enc_length j n)
        go_wp2
        go_ret2
        exact ⟨rfl, hB⟩
  · have hc : ¬ (m : Int) < 8 := by omega
    clear hn
    go_enter Tryd.func12, Tryd.ntmps12
    go_wp2_with (go_at_call 28; refine (refIs_any m w).mono ?_; rintro e w' ⟨he, rfl⟩; rw [HD.out] at he; subst he)
    go_loopw [6, 7] (fun v i wr => ∃ j : Nat, j ≤ m ∧ i = .int .i64 ((m : Int) - 1 - j) ∧ wr.ownsRow w.heap.size 5 1 v j (Lib.byteCells ((enc m n).take j)) ∧ Below w.heap.size w wr) (fun _ i _ => (intOf i + 1).toNat)
    case atStart => exact ⟨0, by omega, by simp, World.ownsRow_nil _ _ _ _, Below.refl _ _⟩
    case round =>
      obtain ⟨j, hj, rfl, hown, hB⟩ := hrel
      by_cases hjl : j < m
      · have hg : (0 : Int) ≤ (m : Int) - 1 - j := by omega
        have hbe : (n : Int) / 2 ^ (8 * (m - 1 - j)) % 256 = (((UInt8.ofNat (n / 256 ^ (m - 1 - j))).toNat : Nat) : Int) := by
          rw [ofNat_toNat, show (256 : Nat) = 2 ^ 8 by rfl, ← Nat.pow_mul]
          push_cast
          rfl
        obtain ⟨b, hb⟩ : ∃ b, UInt8.ofNat (n / 256 ^ (m - 1 - j)) = b := ⟨_, rfl⟩
        rw [hb] at hbe
        have hte : (enc m n).take (j + 1) = (enc m n).take j ++ [b] := by rw [List.take_add_one, enc_get m n j hjl, hb]; rfl
        have HT := Lib.hid hte
        clear hte hb
        go_wp2_with (at_builtin; refine wpList_append_own _ rfl _ _ 52 rfl w.heap.size 5 i0 (.int .u8 0) 1 1 Tryd.underlying52 hi hz0 hz1 hz2 rfl (by decide) _ _ _ rfl (hown.alloc _) ⟨wr.heap.size, 0, none⟩ 1 1 [.int .u8 (b.toNat : Int)] rfl rfl (cell_one_new _ _ _) (by simp [Value.oneCell']) (by unfold maxLen; omega) (by omega) (by have := hB.size; simp; omega) ?_; intro v' w2 hown' hgrow _)
        have hB1 := (hB.alloc (by have := hB.size; omega) (.cells #[.int .u8 (b.toNat : Int)] 5)).grown hgrow (by have := hB.size; simp; omega) (fun k hk => (hown.lt k hk).1)
        clear hown hgrow hB
        go_wp2
        go_roundw
        case rel => exact ⟨j + 1, by omega, by go_num, by rw [HT.out, Lib.byteCells_append]; exact hown', hB1⟩
        case measure => simp [intOf]; omega
      · obtain rfl : j = m := by omega
        obtain ⟨va, vc, rfl⟩ := row_slice hown
        have hte : (enc j n).take j = enc j n := List.take_of_length_le (by rw [enc_length]; exact Nat.le_refl _)
        rw [hte] at hown
        have hcv := row_str hown (enc_length j n)
        go_wp2
        go_ret2
        exact ⟨rfl, hB⟩

set_option maxHeartbeats 1000000 in
theorem refPut_great (m : Nat) (hm : isW (m : Int)) (n : Nat) (h2 : n < 18446744073709551616) (hn : ¬ n < 256 ^ m) (w : World) : Calls Tryd.prog 12 #[.int .i64 (m : Int), .int .u64 n] w (SC ([], 31) w) := by
  have hd : decide (isW (m : Int)) = true := by simp [hm]
  have HD := Lib.hid hd
  obtain ⟨m', hm', hm1, hm8⟩ := isW_le hm
  obtain rfl : m = m' := by omega
  clear hd hm hm'
  have h8 : m < 8 := by
    rcases Nat.lt_or_ge m 8 with h | h
    · exact h
    · obtain rfl : m = 8 := by omega
      exact absurd (show n < 256 ^ 8 by omega) hn
  have hc : IntKind.u64.wrap (2 ^ (8 * m)) ≤ (n : Int) := by rw [wrap_pow m h8]; omega
  clear hn h2
  go_enter Tryd.func12, Tryd.ntmps12
  go_wp2_with (go_at_call 28; refine (refIs_any m w).mono ?_; rintro e w' ⟨he, rfl⟩; rw [HD.out] at he; subst he)
  go_ret2
  exact ⟨rfl, Below.refl _ _⟩

theorem refPut_any (k : Int) (n : Nat) (hn : n < 18446744073709551616) (w : World) : Calls Tryd.prog 12 #[.int .i64 k, .int .u64 n] w (SC (putRes k n) w) := by
  by_cases hk : isW k
  · obtain ⟨m, rfl, _, _⟩ := isW_le hk
    by_cases h : n < 256 ^ m
    · have e : putRes (m : Int) n = (enc m n, 0) := by
        have hz : putC (m : Int) n = 0 := by unfold putC; rw [if_pos hk, if_pos (by simpa using h)]
        unfold putRes
        rw [if_pos hz]
        rfl
      rw [e]
      exact refPut_ok m hk n h w
    · have e : putRes (m : Int) n = ([], 31) := by
        have hz : putC (m : Int) n = 31 := by unfold putC; rw [if_pos hk, if_neg (by simpa using h)]
        unfold putRes
        rw [hz]
        rfl
      rw [e]
      exact refPut_great m hk n hn h w
  · exact refPut_bad k hk n w

end Go.Proofs.YtpmelbjbkdflgaaDoor
