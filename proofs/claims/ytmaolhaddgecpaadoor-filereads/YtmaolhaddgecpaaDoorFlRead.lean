/- read: by a goto out. -/
import Derived.Test.YtmaolhaddgecpaaDoorFlSpl
namespace Go.Proofs.YtmaolhaddgecpaaDoor
open Go.RowKit Go.Proofs.Fld Go.Proofs.Fil Go.Shelf Go.Sort

/-- What holds at the way out. -/
def OutRd (w : World) (a : Act) (W : World) : Prop := ∃ (v : Value) (u0 u1 u2 u3 u4 u5 u6 u7 u9 u10 u11 u12 u13 u14 u15 u16 u17 u18 u19 u20 u21 u22 u23 u24 u25 u26 u27 u28 u29 u30 u31 u32 : Value), a = { tmps := #[u0, u1, u2, u3, u4, u5, u6, u7, v, u9, u10, u11, u12, u13, u14, u15, u16, u17, u18, u19, u20, u21, u22, u23, u24, u25, u26, u27, u28, u29, u30, u31, u32], defers := [] } ∧ (∃ s, v = .iface 45 (.string s)) ∧ Below w.heap.size w W

set_option maxRecDepth 100000 in
set_option maxHeartbeats 4000000 in
theorem read_any (s : It) (o n : Int) (w : World) :
    Calls Tryd.prog 24 #[.string (bs s), .int .i64 o, .int .i64 n] w (TwoP (readR s o n) w) := by
  have hz := bs_size s
  obtain ⟨S, hS⟩ : ∃ S, s.length = S := ⟨_, rfl⟩
  obtain ⟨r, hr⟩ : ∃ r, readR s o n = r := ⟨_, rfl⟩
  rw [hr]
  by_cases hok : okAt s o
  · obtain ⟨k, rfl, hk, hs⟩ := okAt_nat hok
    have hj : okE s (k : Int) = 0 := by unfold okE; rw [if_pos hok]
    have HJ := Lib.hid hj
    by_cases h1 : n < 0
    · have hd : decide (n < 0) = true := decide_eq_true h1
      have e1 : readR s (k : Int) n = none := by unfold readR; rw [if_neg (by omega)]
      rw [e1] at hr
      subst hr
      rw [hS] at hz
      clear hj h1 e1
      go_enter Tryd.func24, Tryd.ntmps24
      go_wp2
      refine wp_scope_jumps 0 (OutRd w) (fun _ _ => 0) rfl ?first ?pass
      case first =>
        go_wp2_with (go_at_call 28; refine (judge_any s _ w).mono ?_)
        rintro e w1 ⟨v, hv, rfl, rfl⟩
        rw [HJ.out] at hv
        cases hv
        go_wp2
        apply wp_goto
        exact ⟨rfl, _, _, _, _, _, _, _, _, _, _, _, _, _, _, _, _, _, _, _, _, _, _, _, _, _, _, _, _, _, _, _, _, _, rfl, ⟨_, rfl⟩, Below.refl _ _⟩
      case pass =>
        rintro a W ⟨v, u0, u1, u2, u3, u4, u5, u6, u7, u9, u10, u11, u12, u13, u14, u15, u16, u17, u18, u19, u20, u21, u22, u23, u24, u25, u26, u27, u28, u29, u30, u31, u32, rfl, ⟨q, rfl⟩, hb⟩
        go_wp2
        refine bodyPost_ret (results_tmp2 rfl _ _ _) rfl ?_
        exact TwoP.none q hb
    · have hd : decide (n < 0) = false := decide_eq_false h1
      obtain ⟨m, rfl⟩ := Int.eq_ofNat_of_zero_le (by omega : 0 ≤ n)
      obtain ⟨D, hD⟩ : ∃ D, S - k = D := ⟨_, rfl⟩
      have hw : IntKind.i64.wrap ((S : Int) - (k : Int)) = (D : Int) := by rw [IntKind.wrap_i64]; omega
      obtain ⟨N, hN⟩ : ∃ N, min m D = N := ⟨_, rfl⟩
      have hNd : N ≤ D := by omega
      have hm : min (m : Int) (D : Int) = (N : Int) := by omega
      obtain ⟨q, hq⟩ : ∃ q, k + N = q := ⟨_, rfl⟩
      have hw2 : IntKind.i64.wrap ((k : Int) + (N : Int)) = (q : Int) := by rw [IntKind.wrap_i64]; omega
      have s1 := str_mid s k q (by omega) (by omega)
      obtain ⟨X, hX⟩ : ∃ X, (s.drop k).take (q - k) = X := ⟨_, rfl⟩
      rw [hX] at s1
      have hXl : X.length ≤ 1000 := by rw [← hX, List.length_take, List.length_drop]; omega
      have hj2 : joinR X = r := by
        unfold joinR
        rw [if_pos hXl, ← hr, readR_of hk hs, ← hX]
        congr 1
        rw [show q - k = N by omega, ← hN]
        rcases Nat.le_total m D with h | h
        · rw [show min m D = m from Nat.min_eq_left h]
        · rw [show min m D = D from Nat.min_eq_right h, List.take_of_length_le (by rw [List.length_drop]; omega), List.take_of_length_le (by rw [List.length_drop]; omega)]
      have HC := Lib.hid (fun W => join1 W X r (by omega) hj2)
      rw [hS] at hz
      clear hj h1 hD hN hNd hq hX hXl hj2 hr hok
      go_enter Tryd.func24, Tryd.ntmps24
      go_wp2
      refine wp_scope_jumps 0 (fun _ _ => False) (fun _ _ => 0) rfl ?first ?pass
      case pass => exact fun _ _ h => h.elim
      case first =>
        go_wp2_with (go_at_call 28; refine (judge_any s _ w).mono ?_)
        rintro e w1 ⟨v, hv, rfl, rfl⟩
        rw [HJ.out] at hv
        cases hv
        go_wp2_with (go_at_call 29; refine (HC.out w).mono ?_)
        rintro e w2 ⟨v, hv, rfl, hb⟩
        have HV := Lib.hid (And.intro hv hb)
        clear hv hb
        go_wp2
        refine bodyPost_ret (results_tmp2 rfl _ _ _) rfl ?_
        exact ⟨v, HV.out.1, rfl, below_more (Below.new w _) HV.out.2⟩
  · have hj : okE s o = 90 := by unfold okE; rw [if_neg hok]
    have HJ := Lib.hid hj
    have e1 : readR s o n = none := by unfold readR; rw [if_neg (fun h => hok h.1)]
    rw [e1] at hr
    subst hr
    clear hj hok e1
    go_enter Tryd.func24, Tryd.ntmps24
    go_wp2
    refine wp_scope_jumps 0 (OutRd w) (fun _ _ => 0) rfl ?first ?pass
    case first =>
      go_wp2_with (go_at_call 28; refine (judge_any s o w).mono ?_)
      rintro e w1 ⟨v, hv, rfl, rfl⟩
      rw [HJ.out] at hv
      cases hv
      go_wp2
      apply wp_goto
      exact ⟨rfl, _, _, _, _, _, _, _, _, _, _, _, _, _, _, _, _, _, _, _, _, _, _, _, _, _, _, _, _, _, _, _, _, _, rfl, ⟨_, rfl⟩, Below.refl _ _⟩
    case pass =>
      rintro a W ⟨v, u0, u1, u2, u3, u4, u5, u6, u7, u9, u10, u11, u12, u13, u14, u15, u16, u17, u18, u19, u20, u21, u22, u23, u24, u25, u26, u27, u28, u29, u30, u31, u32, rfl, ⟨q, rfl⟩, hb⟩
      go_wp2
      refine bodyPost_ret (results_tmp2 rfl _ _ _) rfl ?_
      exact TwoP.none q hb
end Go.Proofs.YtmaolhaddgecpaaDoor
