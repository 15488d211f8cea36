/- FieldWidths, walked: for every width and number it returns true. -/
import Derived.Test.YtpmelbjbkdflgaaDoorFldShown
namespace Go.Proofs.YtpmelbjbkdflgaaDoor
open Go.RowKit Go.Shelf Go.Proofs.Fld

theorem putRes_ok {m : Nat} {n : Nat} (hm : isW (m : Int)) (h : n < 256 ^ m) : putRes (m : Int) n = (enc m n, 0) := by
  have hz : putC (m : Int) n = 0 := by unfold putC; rw [if_pos hm, if_pos (by simpa using h)]
  unfold putRes
  rw [if_pos hz]
  rfl
theorem putRes_great {m : Nat} {n : Nat} (hm : isW (m : Int)) (h : ¬ n < 256 ^ m) : putRes (m : Int) n = ([], 31) := by
  have hz : putC (m : Int) n = 31 := by unfold putC; rw [if_pos hm, if_neg (by simpa using h)]
  unfold putRes
  rw [hz]
  rfl
theorem putRes_bad {k : Int} {n : Nat} (hm : ¬ isW k) : putRes k n = ([], 2) := by
  have hz : putC k n = 2 := by unfold putC; rw [if_neg hm]
  unfold putRes
  rw [hz]
  rfl

attribute [local go_sem] bs_toList

set_option maxRecDepth 100000 in
set_option maxHeartbeats 1000000 in
theorem widths_bad (s : Sn) (k : Int) (hk : (Lit.int .i64 k).wf = true) (hw : ¬ isW k) (n : Nat) (hn : n < 18446744073709551616) (w : World) (hs : Sent s w) :
    Calls Tryd.prog 8 #[.int .i64 k, .int .u64 n] w fun e w' => e = .returned (.bool true) ∧ Below w.heap.size w w' := by
  have HS := Lib.hid hs
  have HP := Lib.hid (fun w h => put_any s k hk n hn w h)
  have HR := Lib.hid (putRes_bad (n := n) hw)
  have h1 : (k != 1) = true := by simp [isW] at hw ⊢; omega
  have h2 : (k != 2) = true := by simp [isW] at hw ⊢; omega
  have h4 : (k != 4) = true := by simp [isW] at hw ⊢; omega
  have h8 : (k != 8) = true := by simp [isW] at hw ⊢; omega
  clear hs hk hn hw
  go_enter Tryd.func8, Tryd.ntmps8
  go_wp2_with (go_at_call 10; refine (shown_any s w HS.out).mono ?_)
  rintro e w1 ⟨rfl, b1⟩
  go_wp2_with (go_at_call 11; refine (HP.out w1 (HS.out.more b1)).mono ?_)
  rintro e w2 ⟨he, b2⟩
  have he2 : e = .returned (.tuple #[.string { data := #[] }, .int .i64 2]) := by rw [he, HR.out]; rfl
  subst he2
  clear he
  go_wp2
  go_ret
  exact ⟨rfl, below_more b1 b2⟩

set_option maxRecDepth 100000 in
set_option maxHeartbeats 1000000 in
theorem widths_1 (s : Sn) (n : Nat) (hn : n < 18446744073709551616) (w : World) (hs : Sent s w) :
    Calls Tryd.prog 8 #[.int .i64 1, .int .u64 n] w fun e w' => e = .returned (.bool true) ∧ Below w.heap.size w w' := by
  have HS := Lib.hid hs
  have HP := Lib.hid (fun w h => put_any s 1 (by decide) n hn w h)
  have hmin : min (1 : Int) 7 = 1 := by decide
  by_cases hf : n < 256
  · have HR := Lib.hid (show putRes 1 n = (enc 1 n, 0) from putRes_ok (m := 1) (by decide) (by omega))
    have hsz : (bs (enc 1 n)).size = 1 := by rw [bs_size, enc_length]
    have hq : ((n : Int) / 256 == 0) = true := by rw [beq_iff_eq]; omega
    have hq2 : (n : Int) / 256 = 0 := by omega
    clear hs hn
    go_enter Tryd.func8, Tryd.ntmps8
    go_wp2_with (go_at_call 10; refine (shown_any s w HS.out).mono ?_)
    rintro e w1 ⟨rfl, b1⟩
    go_wp2_with (go_at_call 11; refine (HP.out w1 (HS.out.more b1)).mono ?_)
    rintro e w2 ⟨he, b2⟩
    have he2 : e = .returned (.tuple #[.string (bs (enc 1 n)), .int .i64 0]) := by rw [he, HR.out]
    subst he2
    clear he
    go_wp2
    go_ret
    exact ⟨rfl, below_more b1 b2⟩
  · have HR := Lib.hid (show putRes 1 n = ([], 31) from putRes_great (m := 1) (by decide) (by omega))
    have hf2 := Lib.hid hf
    clear hf
    clear hs hn
    go_enter Tryd.func8, Tryd.ntmps8
    go_wp2_with (go_at_call 10; refine (shown_any s w HS.out).mono ?_)
    rintro e w1 ⟨rfl, b1⟩
    go_wp2_with (go_at_call 11; refine (HP.out w1 (HS.out.more b1)).mono ?_)
    rintro e w2 ⟨he, b2⟩
    have he2 : e = .returned (.tuple #[.string { data := #[] }, .int .i64 31]) := by rw [he, HR.out]; rfl
    subst he2
    clear he
    have hq : ((n : Int) / 256 == 0) = false := by
      rw [beq_eq_false_iff_ne]
      have := hf2.out
      omega
    go_wp2
    go_ret
    exact ⟨rfl, below_more b1 b2⟩

set_option maxRecDepth 100000 in
set_option maxHeartbeats 1000000 in
theorem widths_2 (s : Sn) (n : Nat) (hn : n < 18446744073709551616) (w : World) (hs : Sent s w) :
    Calls Tryd.prog 8 #[.int .i64 2, .int .u64 n] w fun e w' => e = .returned (.bool true) ∧ Below w.heap.size w w' := by
  have HS := Lib.hid hs
  have HP := Lib.hid (fun w h => put_any s 2 (by decide) n hn w h)
  have hmin : min (2 : Int) 7 = 2 := by decide
  by_cases hf : n < 65536
  · have HR := Lib.hid (show putRes 2 n = (enc 2 n, 0) from putRes_ok (m := 2) (by decide) (by omega))
    have hsz : (bs (enc 2 n)).size = 2 := by rw [bs_size, enc_length]
    have hq : ((n : Int) / 65536 == 0) = true := by rw [beq_iff_eq]; omega
    have hq2 : (n : Int) / 65536 = 0 := by omega
    clear hs hn
    go_enter Tryd.func8, Tryd.ntmps8
    go_wp2_with (go_at_call 10; refine (shown_any s w HS.out).mono ?_)
    rintro e w1 ⟨rfl, b1⟩
    go_wp2_with (go_at_call 11; refine (HP.out w1 (HS.out.more b1)).mono ?_)
    rintro e w2 ⟨he, b2⟩
    have he2 : e = .returned (.tuple #[.string (bs (enc 2 n)), .int .i64 0]) := by rw [he, HR.out]
    subst he2
    clear he
    go_wp2
    go_ret
    exact ⟨rfl, below_more b1 b2⟩
  · have HR := Lib.hid (show putRes 2 n = ([], 31) from putRes_great (m := 2) (by decide) (by omega))
    have hf2 := Lib.hid hf
    clear hf
    clear hs hn
    go_enter Tryd.func8, Tryd.ntmps8
    go_wp2_with (go_at_call 10; refine (shown_any s w HS.out).mono ?_)
    rintro e w1 ⟨rfl, b1⟩
    go_wp2_with (go_at_call 11; refine (HP.out w1 (HS.out.more b1)).mono ?_)
    rintro e w2 ⟨he, b2⟩
    have he2 : e = .returned (.tuple #[.string { data := #[] }, .int .i64 31]) := by rw [he, HR.out]; rfl
    subst he2
    clear he
    have hq : ((n : Int) / 65536 == 0) = false := by
      rw [beq_eq_false_iff_ne]
      have := hf2.out
      omega
    go_wp2
    go_ret
    exact ⟨rfl, below_more b1 b2⟩

set_option maxRecDepth 100000 in
set_option maxHeartbeats 1000000 in
theorem widths_4 (s : Sn) (n : Nat) (hn : n < 18446744073709551616) (w : World) (hs : Sent s w) :
    Calls Tryd.prog 8 #[.int .i64 4, .int .u64 n] w fun e w' => e = .returned (.bool true) ∧ Below w.heap.size w w' := by
  have HS := Lib.hid hs
  have HP := Lib.hid (fun w h => put_any s 4 (by decide) n hn w h)
  have hmin : min (4 : Int) 7 = 4 := by decide
  by_cases hf : n < 4294967296
  · have HR := Lib.hid (show putRes 4 n = (enc 4 n, 0) from putRes_ok (m := 4) (by decide) (by omega))
    have hsz : (bs (enc 4 n)).size = 4 := by rw [bs_size, enc_length]
    have hq : ((n : Int) / 4294967296 == 0) = true := by rw [beq_iff_eq]; omega
    have hq2 : (n : Int) / 4294967296 = 0 := by omega
    clear hs hn
    go_enter Tryd.func8, Tryd.ntmps8
    go_wp2_with (go_at_call 10; refine (shown_any s w HS.out).mono ?_)
    rintro e w1 ⟨rfl, b1⟩
    go_wp2_with (go_at_call 11; refine (HP.out w1 (HS.out.more b1)).mono ?_)
    rintro e w2 ⟨he, b2⟩
    have he2 : e = .returned (.tuple #[.string (bs (enc 4 n)), .int .i64 0]) := by rw [he, HR.out]
    subst he2
    clear he
    go_wp2
    go_ret
    exact ⟨rfl, below_more b1 b2⟩
  · have HR := Lib.hid (show putRes 4 n = ([], 31) from putRes_great (m := 4) (by decide) (by omega))
    have hf2 := Lib.hid hf
    clear hf
    clear hs hn
    go_enter Tryd.func8, Tryd.ntmps8
    go_wp2_with (go_at_call 10; refine (shown_any s w HS.out).mono ?_)
    rintro e w1 ⟨rfl, b1⟩
    go_wp2_with (go_at_call 11; refine (HP.out w1 (HS.out.more b1)).mono ?_)
    rintro e w2 ⟨he, b2⟩
    have he2 : e = .returned (.tuple #[.string { data := #[] }, .int .i64 31]) := by rw [he, HR.out]; rfl
    subst he2
    clear he
    have hq : ((n : Int) / 4294967296 == 0) = false := by
      rw [beq_eq_false_iff_ne]
      have := hf2.out
      omega
    go_wp2
    go_ret
    exact ⟨rfl, below_more b1 b2⟩

set_option maxRecDepth 100000 in
set_option maxHeartbeats 1000000 in
theorem widths_8 (s : Sn) (n : Nat) (hn : n < 18446744073709551616) (w : World) (hs : Sent s w) :
    Calls Tryd.prog 8 #[.int .i64 8, .int .u64 n] w fun e w' => e = .returned (.bool true) ∧ Below w.heap.size w w' := by
  have HS := Lib.hid hs
  have HP := Lib.hid (fun w h => put_any s 8 (by decide) n hn w h)
  have HR := Lib.hid (show putRes 8 n = (enc 8 n, 0) from putRes_ok (m := 8) (by decide) (by omega))
  have hsz : (bs (enc 8 n)).size = 8 := by rw [bs_size, enc_length]
  clear hs hn
  go_enter Tryd.func8, Tryd.ntmps8
  go_wp2_with (go_at_call 10; refine (shown_any s w HS.out).mono ?_)
  rintro e w1 ⟨rfl, b1⟩
  go_wp2_with (go_at_call 11; refine (HP.out w1 (HS.out.more b1)).mono ?_)
  rintro e w2 ⟨he, b2⟩
  have he2 : e = .returned (.tuple #[.string (bs (enc 8 n)), .int .i64 0]) := by rw [he, HR.out]
  subst he2
  clear he
  go_wp2
  go_ret
  exact ⟨rfl, below_more b1 b2⟩

theorem widths_walk (s : Sn) (k : Int) (hk : (Lit.int .i64 k).wf = true) (n : Nat) (hn : n < 18446744073709551616) (w : World) (hs : Sent s w) :
    Calls Tryd.prog 8 #[.int .i64 k, .int .u64 n] w fun e w' => e = .returned (.bool true) ∧ Below w.heap.size w w' := by
  by_cases h : isW k
  · rcases h with rfl | rfl | rfl | rfl
    · exact widths_1 s n hn w hs
    · exact widths_2 s n hn w hs
    · exact widths_4 s n hn w hs
    · exact widths_8 s n hn w hs
  · exact widths_bad s k hk h n hn w hs

end Go.Proofs.YtpmelbjbkdflgaaDoor
