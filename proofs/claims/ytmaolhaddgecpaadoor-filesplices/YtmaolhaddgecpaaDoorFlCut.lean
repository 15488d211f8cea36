/- cut: by a goto out. -/
import Derived.Test.YtmaolhaddgecpaaDoorFlRead
import Derived.Test.YtmaolhaddgecpaaDoorFlShelf
namespace Go.Proofs.YtmaolhaddgecpaaDoor
open Go.RowKit Go.Proofs.Fld Go.Proofs.Fil Go.Shelf Go.Sort

/-- What holds at the way out. -/
def OutCut (w : World) (a : Act) (W : World) : Prop := ∃ (v : Value) (u0 u1 u2 u3 u4 u5 u6 u8 u9 u10 u11 u12 u13 u14 u15 u16 u17 u18 u19 u20 u21 u22 u23 u24 u25 u26 u27 u28 u29 u30 u31 u32 u33 u34 : Value), a = { tmps := #[u0, u1, u2, u3, u4, u5, u6, v, u8, u9, u10, u11, u12, u13, u14, u15, u16, u17, u18, u19, u20, u21, u22, u23, u24, u25, u26, u27, u28, u29, u30, u31, u32, u33, u34], defers := [] } ∧ (∃ s, v = .iface 45 (.string s)) ∧ Below w.heap.size w W
theorem repeat_zeros (c : Nat) : Lib.repeatL [0] c = zerosR c := by
  induction c with
  | zero => rfl
  | succ c ih =>
    unfold Lib.repeatL
    rw [ih]
    rfl
theorem repeat_any (c : Nat) (hc : c ≤ 1000) (w : World) : Calls Tryd.prog 30 #[.string { data := #[0] }, .int .i64 (c : Int)] w fun e w' => e = .returned (.string (bs (zerosR c))) ∧ Below w.heap.size w w' := by
  refine (strings_Repeat { data := #[0] } c w (by omega) ?_).mono ?_
  · show 1 * c ≤ _
    omega
  · rintro e w' ⟨he, hb⟩
    refine ⟨?_, hb⟩
    rw [he, ← repeat_zeros]
    rfl
set_option maxRecDepth 100000 in
set_option maxHeartbeats 4000000 in
theorem cut_any (s : It) (n : Int) (w : World) :
    Calls Tryd.prog 25 #[.string (bs s), .int .i64 n] w (TwoP (cutR s n) w) := by
  have hz := bs_size s
  obtain ⟨S, hS⟩ : ∃ S, s.length = S := ⟨_, rfl⟩
  obtain ⟨r, hr⟩ : ∃ r, cutR s n = r := ⟨_, rfl⟩
  rw [hr]
  by_cases hs : s.length ≤ 1000
  · have hj : okE s 0 = 0 := by unfold okE; rw [if_pos ⟨hs, by omega, by omega⟩]
    have HJ := Lib.hid hj
    by_cases h1 : n < 0
    · have hd : decide (n < 0) = true := decide_eq_true h1
      have e1 : cutR s n = none := by unfold cutR; rw [if_neg (by omega)]
      rw [e1] at hr
      subst hr
      rw [hS] at hz
      obtain ⟨K, hK⟩ : ∃ K, min n (S : Int) = K := ⟨_, rfl⟩
      clear hj h1 e1
      go_enter Tryd.func25, Tryd.ntmps25
      go_wp2
      refine wp_scope_jumps 0 (OutCut w) (fun _ _ => 0) rfl ?first ?pass
      case first =>
        go_wp2_with (go_at_call 28; refine (judge_any s 0 w).mono ?_)
        rintro e w1 ⟨v, hv, rfl, rfl⟩
        rw [HJ.out] at hv
        cases hv
        go_wp2
        apply wp_goto
        exact ⟨rfl, _, _, _, _, _, _, _, _, _, _, _, _, _, _, _, _, _, _, _, _, _, _, _, _, _, _, _, _, _, _, _, _, _, _, _, rfl, ⟨_, rfl⟩, Below.refl _ _⟩
      case pass =>
        rintro a W ⟨v, u0, u1, u2, u3, u4, u5, u6, u8, u9, u10, u11, u12, u13, u14, u15, u16, u17, u18, u19, u20, u21, u22, u23, u24, u25, u26, u27, u28, u29, u30, u31, u32, u33, u34, rfl, ⟨q, rfl⟩, hb⟩
        go_wp2
        refine bodyPost_ret (results_tmp2 rfl _ _ _) rfl ?_
        exact TwoP.none q hb
    · have hd : decide (n < 0) = false := decide_eq_false h1
      obtain ⟨m, rfl⟩ := Int.eq_ofNat_of_zero_le (by omega : 0 ≤ n)
      obtain ⟨K, hK⟩ : ∃ K, min m S = K := ⟨_, rfl⟩
      have hKS : K ≤ S := by omega
      have hKm : K ≤ m := by omega
      have hm : min (m : Int) (S : Int) = (K : Int) := by omega
      by_cases h2 : 1000 < m
      · have hd2 : decide ((m : Int) > 1000) = true := decide_eq_true (by omega)
        have e1 : cutR s (m : Int) = none := by unfold cutR; rw [if_neg (by omega)]
        rw [e1] at hr
        subst hr
        rw [hS] at hz
        clear hj h1 h2 e1 hK hKS hKm
        go_enter Tryd.func25, Tryd.ntmps25
        go_wp2
        refine wp_scope_jumps 0 (OutCut w) (fun _ _ => 0) rfl ?first ?pass
        case first =>
          go_wp2_with (go_at_call 28; refine (judge_any s 0 w).mono ?_)
          rintro e w1 ⟨v, hv, rfl, rfl⟩
          rw [HJ.out] at hv
          cases hv
          go_wp2
          apply wp_goto
          exact ⟨rfl, _, _, _, _, _, _, _, _, _, _, _, _, _, _, _, _, _, _, _, _, _, _, _, _, _, _, _, _, _, _, _, _, _, _, _, rfl, ⟨_, rfl⟩, Below.refl _ _⟩
        case pass =>
          rintro a W ⟨v, u0, u1, u2, u3, u4, u5, u6, u8, u9, u10, u11, u12, u13, u14, u15, u16, u17, u18, u19, u20, u21, u22, u23, u24, u25, u26, u27, u28, u29, u30, u31, u32, u33, u34, rfl, ⟨q, rfl⟩, hb⟩
          go_wp2
          refine bodyPost_ret (results_tmp2 rfl _ _ _) rfl ?_
          exact TwoP.none q hb
      · have hd2 : decide ((m : Int) > 1000) = false := decide_eq_false (by omega)
        obtain ⟨c, hc⟩ : ∃ c, m - K = c := ⟨_, rfl⟩
        have hw : IntKind.i64.wrap ((m : Int) - (K : Int)) = (c : Int) := by rw [IntKind.wrap_i64]; omega
        have s1 := str_upto s K (by omega)
        obtain ⟨X, hX⟩ : ∃ X, s.take K = X := ⟨_, rfl⟩
        rw [hX] at s1
        obtain ⟨Z, hZ⟩ : ∃ Z, zerosR c = Z := ⟨_, rfl⟩
        have hXl : X.length = K := by rw [← hX, List.length_take]; omega
        have hZl : Z.length = c := by rw [← hZ]; simp [zerosR]
        have hj2 : joinR (X ++ Z) = r := by
          unfold joinR
          rw [if_pos (by rw [List.length_append]; omega), ← hr]
          unfold cutR
          rw [if_pos ⟨hs, by omega, by omega⟩, Int.toNat_natCast, ← hX, ← hZ]
          have e1 : s.take K = s.take m := by
            rcases Nat.le_total m S with h | h
            · rw [← hK, show min m S = m from Nat.min_eq_left h]
            · rw [← hK, show min m S = S from Nat.min_eq_right h, List.take_of_length_le (by omega), List.take_of_length_le (by omega)]
          have e2 : c = m - s.length := by
            rw [hS]
            rcases Nat.le_total m S with h | h
            · have : K = m := by rw [← hK]; exact Nat.min_eq_left h
              omega
            · have : K = S := by rw [← hK]; exact Nat.min_eq_right h
              omega
          rw [e1, e2]
        have HC := Lib.hid (fun W => join2 W X Z r (by omega) hj2)
        have HD := Lib.hid (show ∀ W, Calls Tryd.prog 30 #[.string { data := #[0] }, .int .i64 (c : Int)] W fun e w' => e = .returned (.string (bs Z)) ∧ Below W.heap.size W w' from fun W => hZ ▸ repeat_any c (by omega) W)
        rw [hS] at hz
        clear hj h1 h2 hK hKS hKm hc hX hZ hXl hZl hj2 hr
        go_enter Tryd.func25, Tryd.ntmps25
        go_wp2
        refine wp_scope_jumps 0 (fun _ _ => False) (fun _ _ => 0) rfl ?first ?pass
        case pass => exact fun _ _ h => h.elim
        case first =>
          go_wp2_with (go_at_call 28; refine (judge_any s 0 w).mono ?_)
          rintro e w1 ⟨v, hv, rfl, rfl⟩
          rw [HJ.out] at hv
          cases hv
          go_wp2
          go_region_held3 (fun _ => True) (trivial) (first | (go_at_call 30; ((with_reducible refine (HD.out _).mono ?_); rintro e w2 ⟨rfl, hb1⟩)) | (go_at_call 29; ((with_reducible refine (HC.out _).mono ?_); rintro e w3 ⟨v, hv, rfl, hb⟩)))
          go_wp2
          refine bodyPost_ret (results_tmp2 rfl _ _ _) rfl ?_
          exact ⟨v, hv, rfl, below_more (below_more (below_more (Below.refl _ w).drew hb1) (Below.new w2 _)) hb⟩
  · have hj : okE s 0 = 90 := by unfold okE; rw [if_neg (fun h => hs h.1)]
    have HJ := Lib.hid hj
    have e1 : cutR s n = none := by unfold cutR; rw [if_neg (fun h => hs h.1)]
    rw [e1] at hr
    subst hr
    rw [hS] at hz
    obtain ⟨K, hK⟩ : ∃ K, min n (S : Int) = K := ⟨_, rfl⟩
    clear hj hs e1
    go_enter Tryd.func25, Tryd.ntmps25
    go_wp2
    refine wp_scope_jumps 0 (OutCut w) (fun _ _ => 0) rfl ?first ?pass
    case first =>
      go_wp2_with (go_at_call 28; refine (judge_any s 0 w).mono ?_)
      rintro e w1 ⟨v, hv, rfl, rfl⟩
      rw [HJ.out] at hv
      cases hv
      go_wp2
      apply wp_goto
      exact ⟨rfl, _, _, _, _, _, _, _, _, _, _, _, _, _, _, _, _, _, _, _, _, _, _, _, _, _, _, _, _, _, _, _, _, _, _, _, rfl, ⟨_, rfl⟩, Below.refl _ _⟩
    case pass =>
      rintro a W ⟨v, u0, u1, u2, u3, u4, u5, u6, u8, u9, u10, u11, u12, u13, u14, u15, u16, u17, u18, u19, u20, u21, u22, u23, u24, u25, u26, u27, u28, u29, u30, u31, u32, u33, u34, rfl, ⟨q, rfl⟩, hb⟩
      go_wp2
      refine bodyPost_ret (results_tmp2 rfl _ _ _) rfl ?_
      exact TwoP.none q hb
end Go.Proofs.YtmaolhaddgecpaaDoor
