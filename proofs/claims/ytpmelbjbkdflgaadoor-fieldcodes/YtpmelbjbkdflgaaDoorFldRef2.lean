/- The document's own answers: Get, PutText, GetText. -/
import Derived.Test.YtpmelbjbkdflgaaDoorFldRef
import Derived.Test.YtpmelbjbkdflgaaDoorFldGet2
namespace Go.Proofs.YtpmelbjbkdflgaaDoor
open Go.RowKit Go.Shelf Go.Proofs.Fld

theorem dec_take_succ (l : List UInt8) (j : Nat) (h : j < l.length) : dec 0 (l.take (j + 1)) = 256 * dec 0 (l.take j) + (l[j]'h).toNat := by
  rw [List.take_add_one, List.getElem?_eq_getElem h]
  have key : ∀ (p : List UInt8) (b : UInt8) (acc : Nat), dec acc (p ++ [b]) = 256 * dec acc p + b.toNat := by
    intro p b
    induction p with
    | nil => intro acc; show acc * 256 + b.toNat = 256 * acc + b.toNat; omega
    | cons c r ih => intro acc; exact ih _
  exact key _ _ _
theorem str_at (l : List UInt8) (j : Nat) (h : j < l.length) (w : World) : (Instr.index 9 (.string (bs l)) (.int .i64 (j : Int))).run Tryd.prog w = .ok (.int .u8 ((l[j]'h).toNat : Int)) w := by
  rw [run_index_string _ _ _ _ _ Tryd.underlying9, dif_pos (by rw [bs_size]; omega)]
  rfl

set_option maxRecDepth 100000 in
set_option maxHeartbeats 1000000 in
theorem refGet_any (k : Int) (l : List UInt8) (w : World) : Calls Tryd.prog 15 #[.int .i64 k, .string (bs l)] w (GetPost (getRes k l) w) := by
  have hsz := bs_size l
  by_cases hk : isW k
  · have HD := Lib.hid (show decide (isW k) = true by simp [hk])
    obtain ⟨m, rfl, hm1, hm8⟩ := isW_le hk
    by_cases hl : l.length < m
    · have hr : getRes (m : Int) l = (0, [], 30) := by unfold getRes; rw [getC_few hk hl]; rfl
      rw [hr]
      clear hk hr
      go_enter Tryd.func15, Tryd.ntmps15
      go_wp2_with (go_at_call 28; refine (refIs_any m w).mono ?_; rintro e w' ⟨he, rfl⟩; rw [HD.out] at he; subst he)
      go_ret3
      exact ⟨rfl, Below.refl _ _⟩
    · have hr : getRes (m : Int) l = (dec 0 (l.take m), l.drop m, 0) := by unfold getRes; rw [getC_ok hk (by omega), if_pos rfl]; rfl
      rw [hr]
      have hfr := str_from l m (by omega)
      clear hk hr
      go_enter Tryd.func15, Tryd.ntmps15
      go_wp2_with (go_at_call 28; refine (refIs_any m w).mono ?_; rintro e w' ⟨he, rfl⟩; rw [HD.out] at he; subst he)
      go_loopw [7, 8] (fun v i wr => ∃ j : Nat, j ≤ m ∧ i = .int .i64 (j : Int) ∧ v = .int .u64 ((dec 0 (l.take j) : Nat) : Int) ∧ w = wr) (fun _ i _ => m - (intOf i).toNat)
      case atStart => exact ⟨0, by omega, rfl, rfl, rfl⟩
      case round =>
        obtain ⟨j, hj, rfl, rfl, rfl⟩ := hrel
        by_cases hjl : j < m
        · have hat := str_at l j (by omega)
          obtain ⟨b, hb⟩ : ∃ b, (l[j]'(by omega)) = b := ⟨_, rfl⟩
          have hds := dec_take_succ l j (by omega)
          rw [hb] at hat hds
          obtain ⟨x, hx⟩ : ∃ x, dec 0 (l.take j) = x := ⟨_, rfl⟩
          have hxl : x < 72057594037927936 := by
            have h1 := dec_lt (l.take j)
            have h2 : 256 ^ (l.take j).length ≤ 256 ^ 7 := Nat.pow_le_pow_right (by decide) (by rw [List.length_take]; omega)
            rw [hx] at h1
            omega
          have hbl : b.toNat < 256 := b.toNat_lt
          rw [hx] at hds ⊢
          have HX := Lib.hid hds
          clear hds hx hb
          go_wp2
          go_roundw
          case rel => exact ⟨j + 1, by omega, by go_num, by rw [HX.out]; go_num, by first | rfl | trivial⟩
          case measure => simp [intOf]; omega
        · obtain rfl : j = m := by omega
          go_wp2
          go_region
          all_goals
            go_wp2
            go_ret3
            exact ⟨rfl, below_drew (Below.refl _ _)⟩
  · have hr : getRes k l = (0, [], 2) := by
      have hc : getC k l = 2 := by unfold getC; rw [if_neg hk]
      unfold getRes
      rw [hc]
      rfl
    rw [hr]
    have HD := Lib.hid (show decide (isW k) = false by simp [hk])
    clear hk hr
    go_enter Tryd.func15, Tryd.ntmps15
    go_wp2_with (go_at_call 28; refine (refIs_any k w).mono ?_; rintro e w' ⟨he, rfl⟩; rw [HD.out] at he; subst he)
    go_ret3
    exact ⟨rfl, Below.refl _ _⟩

set_option maxRecDepth 100000 in
set_option maxHeartbeats 1000000 in
theorem refPutText_any (l : List UInt8) (hl : l.length ≤ 4611686018427387904) (w : World) : Calls Tryd.prog 17 #[.string (bs l)] w (SC (putTextRes l) w) := by
  have hsz := bs_size l
  by_cases h : 200 < l.length
  · have hr : putTextRes l = ([], 31) := by unfold putTextRes; rw [if_pos h]
    rw [hr]
    clear hr
    go_enter Tryd.func17, Tryd.ntmps17
    go_wp2
    go_ret2
    exact ⟨rfl, Below.refl _ _⟩
  · have hr : putTextRes l = (UInt8.ofNat l.length :: l, 0) := by unfold putTextRes; rw [if_neg h]
    rw [hr]
    have hb : (UInt8.ofNat l.length).toNat = l.length := by rw [ofNat_toNat]; omega
    have hs1 : (bs [UInt8.ofNat l.length]).size = 1 := bs_size _
    have hap : bs [UInt8.ofNat l.length] ++ bs l = bs (UInt8.ofNat l.length :: l) := bs_append _ _
    have hcv : (convert 52 9 (.slice (some ⟨w.heap.size, 0, none⟩) 1 1)).run Tryd.prog (w.alloc (.cells #[.int .u8 (l.length : Int)] 5)) = .ok (.string (bs [UInt8.ofNat l.length])) (w.alloc (.cells #[.int .u8 (l.length : Int)] 5)) := by
      refine run_convert_bytes_back _ _ _ _ ⟨w.heap.size, 0, none⟩ 1 [UInt8.ofNat l.length] Tryd.underlying52 Tryd.underlying5 Tryd.underlying9 (fun j hj => ?_)
      obtain rfl : j = 0 := by simp at hj; omega
      have := cell_one_new w (.int .u8 (l.length : Int)) 5 0 _ rfl
      rw [this]
      simp only [List.getElem_cons_zero, hb]
    clear hr hb
    go_enter Tryd.func17, Tryd.ntmps17
    go_wp2
    go_ret2
    exact ⟨rfl, Below.new _ _⟩

set_option maxRecDepth 100000 in
set_option maxHeartbeats 1000000 in
theorem refGetText_any (l : List UInt8) (hll : l.length ≤ 4611686018427387904) (w : World) : Calls Tryd.prog 19 #[.string (bs l)] w (SSC (textRes l) w) := by
  have HG := Lib.hid (refGet_any 1 l w)
  cases l with
  | nil =>
    have HR := Lib.hid (show getRes 1 [] = (0, [], 30) by decide)
    go_enter Tryd.func19, Tryd.ntmps19
    go_wp2_with (go_at_call 15; refine HG.out.mono ?_)
    rintro e w1 ⟨he, b1⟩
    have he2 : e = .returned (.tuple #[.int .u64 0, .string (bs []), .int .i64 30]) := by rw [he, HR.out]; rfl
    subst he2
    clear he
    go_wp2
    go_ret3
    exact ⟨rfl, b1⟩
  | cons b r =>
    have HR := Lib.hid (show getRes 1 (b :: r) = (b.toNat, r, 0) by
      have hc : getC 1 (b :: r) = 0 := by unfold getC; rw [if_pos (by decide), if_neg (by simp)]
      unfold getRes
      rw [if_pos hc]
      show (0 * 256 + b.toNat, r, (0 : Int)) = _
      simp)
    have hbl : b.toNat < 256 := b.toNat_lt
    have hsz := bs_size r
    have hrl : r.length ≤ 4611686018427387904 := by simp at hll; omega
    rw [textRes_cons]
    obtain ⟨y, hy⟩ : ∃ y, b.toNat = y := ⟨_, rfl⟩
    rw [hy] at hbl ⊢
    have HY := Lib.hid hy
    clear hy hll
    by_cases h200 : 200 < y
    · rw [if_pos h200]
      go_enter Tryd.func19, Tryd.ntmps19
      go_wp2_with (go_at_call 15; refine HG.out.mono ?_)
      rintro e w1 ⟨he, b1⟩
      have he2 : e = .returned (.tuple #[.int .u64 (y : Int), .string (bs r), .int .i64 0]) := by rw [he, HR.out, ← HY.out]
      subst he2
      clear he
      go_wp2
      go_ret3
      exact ⟨rfl, b1⟩
    · rw [if_neg h200]
      by_cases hr : r.length < y
      · rw [if_pos hr]
        go_enter Tryd.func19, Tryd.ntmps19
        go_wp2_with (go_at_call 15; refine HG.out.mono ?_)
        rintro e w1 ⟨he, b1⟩
        have he2 : e = .returned (.tuple #[.int .u64 (y : Int), .string (bs r), .int .i64 0]) := by rw [he, HR.out, ← HY.out]
        subst he2
        clear he
        go_wp2
        go_ret3
        exact ⟨rfl, b1⟩
      · rw [if_neg hr]
        have hup : ∀ w, (Instr.slice 9 (.string (bs r)) none (some (.int .u64 (y : Int))) none).run Tryd.prog w = .ok (.string (bs (r.take y))) w := fun w => by
          simp [go_sem, Tryd.underlying9, bs_size, bs_extract, show y ≤ r.length by omega]
        have hfr : ∀ w, (Instr.slice 9 (.string (bs r)) (some (.int .u64 (y : Int))) none none).run Tryd.prog w = .ok (.string (bs (r.drop y))) w := fun w => by
          simp [go_sem, Tryd.underlying9, bs_size, bs_extract, show y ≤ r.length by omega]
          rw [List.take_of_length_le (by simp)]
        go_enter Tryd.func19, Tryd.ntmps19
        go_wp2_with (go_at_call 15; refine HG.out.mono ?_)
        rintro e w1 ⟨he, b1⟩
        have he2 : e = .returned (.tuple #[.int .u64 (y : Int), .string (bs r), .int .i64 0]) := by rw [he, HR.out, ← HY.out]
        subst he2
        clear he
        go_wp2
        go_region
        all_goals
          go_wp2
          go_ret3
          exact ⟨rfl, below_drew b1⟩

end Go.Proofs.YtpmelbjbkdflgaaDoor
