/- splice, write: by a goto out of each. -/
import Derived.Test.YtmaolhaddgecpaaDoorFlTop
namespace Go.Proofs.YtmaolhaddgecpaaDoor
open Go.RowKit Go.Proofs.Fld Go.Proofs.Fil Go.Shelf Go.Sort

/-- What holds at the way out. -/
def OutSpl (w : World) (a : Act) (W : World) : Prop := ∃ (v : Value) (u0 u1 u2 u3 u4 u5 u6 u7 u8 u9 u11 u12 u13 u14 u15 u16 u17 u18 u19 u20 u21 u22 u23 u24 u25 u26 u27 u28 u29 u30 u31 u32 u33 u34 u35 u36 u37 u38 u39 u40 : Value), a = { tmps := #[u0, u1, u2, u3, u4, u5, u6, u7, u8, u9, v, u11, u12, u13, u14, u15, u16, u17, u18, u19, u20, u21, u22, u23, u24, u25, u26, u27, u28, u29, u30, u31, u32, u33, u34, u35, u36, u37, u38, u39, u40], defers := [] } ∧ (∃ s, v = .iface 45 (.string s)) ∧ Below w.heap.size w W

theorem splR_bad {s t : It} {o n : Int} (h : ¬ okAt s o) : splR s o n t = none := by
  unfold splR
  rw [if_neg (fun hc => h hc.1)]
theorem splR_num {s t : It} {o n : Int} (h : n < 0 ∨ (s.length : Int) - o < n) : splR s o n t = none := by
  unfold splR
  rw [if_neg (by omega)]
set_option maxRecDepth 100000 in
set_option maxHeartbeats 4000000 in
theorem splice_any (s t : It) (o n : Int) (ht : t.length ≤ 1000000000000000000) (w : World) :
    Calls Tryd.prog 26 #[.string (bs s), .int .i64 o, .int .i64 n, .string (bs t)] w (TwoP (splR s o n t) w) := by
  have hz := bs_size s
  obtain ⟨S, hS⟩ : ∃ S, s.length = S := ⟨_, rfl⟩
  obtain ⟨r, hr⟩ : ∃ r, splR s o n t = r := ⟨_, rfl⟩
  rw [hr]
  by_cases hok : okAt s o
  · obtain ⟨k, rfl, hk, hs⟩ := okAt_nat hok
    have hj : okE s (k : Int) = 0 := by unfold okE; rw [if_pos hok]
    have HJ := Lib.hid hj
    have hw : IntKind.i64.wrap ((S : Int) - (k : Int)) = (S : Int) - (k : Int) := by rw [IntKind.wrap_i64]; omega
    by_cases h1 : n < 0
    · have hd : decide (n < 0) = true := decide_eq_true h1
      rw [splR_num (.inl h1)] at hr
      subst hr
      rw [hS] at hz
      clear hw hj h1
      go_enter Tryd.func26, Tryd.ntmps26
      go_wp2
      refine wp_scope_jumps 0 (OutSpl w) (fun _ _ => 0) rfl ?first ?pass
      case first =>
        go_wp2_with (go_at_call 28; refine (judge_any s _ w).mono ?_)
        rintro e w1 ⟨v, hv, rfl, rfl⟩
        rw [HJ.out] at hv
        cases hv
        go_wp2
        apply wp_goto
        exact ⟨rfl, _, _, _, _, _, _, _, _, _, _, _, _, _, _, _, _, _, _, _, _, _, _, _, _, _, _, _, _, _, _, _, _, _, _, _, _, _, _, _, _, _, rfl, ⟨_, rfl⟩, Below.refl _ _⟩
      case pass =>
        rintro a W ⟨v, u0, u1, u2, u3, u4, u5, u6, u7, u8, u9, u11, u12, u13, u14, u15, u16, u17, u18, u19, u20, u21, u22, u23, u24, u25, u26, u27, u28, u29, u30, u31, u32, u33, u34, u35, u36, u37, u38, u39, u40, rfl, ⟨q, rfl⟩, hb⟩
        go_wp2
        refine bodyPost_ret (results_tmp2 rfl _ _ _) rfl ?_
        exact TwoP.none q hb
    · have hd : decide (n < 0) = false := decide_eq_false h1
      obtain ⟨m, rfl⟩ := Int.eq_ofNat_of_zero_le (by omega : 0 ≤ n)
      by_cases h2 : (S : Int) - (k : Int) < (m : Int)
      · have hd2 : decide ((m : Int) > (S : Int) - (k : Int)) = true := decide_eq_true h2
        rw [splR_num (.inr (by rw [hS]; exact h2))] at hr
        subst hr
        rw [hS] at hz
        clear hj h1 h2
        go_enter Tryd.func26, Tryd.ntmps26
        go_wp2
        refine wp_scope_jumps 0 (OutSpl w) (fun _ _ => 0) rfl ?first ?pass
        case first =>
          go_wp2_with (go_at_call 28; refine (judge_any s _ w).mono ?_)
          rintro e w1 ⟨v, hv, rfl, rfl⟩
          rw [HJ.out] at hv
          cases hv
          go_wp2
          apply wp_goto
          exact ⟨rfl, _, _, _, _, _, _, _, _, _, _, _, _, _, _, _, _, _, _, _, _, _, _, _, _, _, _, _, _, _, _, _, _, _, _, _, _, _, _, _, _, _, rfl, ⟨_, rfl⟩, Below.refl _ _⟩
        case pass =>
          rintro a W ⟨v, u0, u1, u2, u3, u4, u5, u6, u7, u8, u9, u11, u12, u13, u14, u15, u16, u17, u18, u19, u20, u21, u22, u23, u24, u25, u26, u27, u28, u29, u30, u31, u32, u33, u34, u35, u36, u37, u38, u39, u40, rfl, ⟨q, rfl⟩, hb⟩
          go_wp2
          refine bodyPost_ret (results_tmp2 rfl _ _ _) rfl ?_
          exact TwoP.none q hb
      · have hd2 : decide ((m : Int) > (S : Int) - (k : Int)) = false := decide_eq_false h2
        obtain ⟨q, hq⟩ : ∃ q, k + m = q := ⟨_, rfl⟩
        have hw2 : IntKind.i64.wrap ((k : Int) + (m : Int)) = (q : Int) := by rw [IntKind.wrap_i64]; omega
        have hqs : q ≤ s.length := by omega
        have s1 := str_upto s k hk
        have s2 := str_from s q hqs
        obtain ⟨X, hX⟩ : ∃ X, s.take k = X := ⟨_, rfl⟩
        obtain ⟨Y, hY⟩ : ∃ Y, s.drop q = Y := ⟨_, rfl⟩
        rw [hX] at s1
        rw [hY] at s2
        have hXl : X.length ≤ 1000 := by rw [← hX, List.length_take]; omega
        have hYl : Y.length ≤ 1000 := by rw [← hY, List.length_drop]; omega
        have hj2 : joinR (X ++ t ++ Y) = r := by
          rw [← hr]
          unfold splR
          rw [if_pos ⟨hok, by omega, by omega⟩, Int.toNat_natCast, Int.toNat_natCast, hX, hq, hY]
        have HC := Lib.hid (show Calls Tryd.prog 29 #[.slice (some ⟨w.heap.size, 0, none⟩) 3 3] (w.alloc (.cells #[.string (bs X), .string (bs t), .string (bs Y)] 9)).drew (TwoP r (w.alloc (.cells #[.string (bs X), .string (bs t), .string (bs Y)] 9)).drew) from join3 w.drew X t Y r (by omega) hj2)
        rw [hS] at hz
        clear hj h1 h2 hq hqs hX hY hXl hYl hj2 hr hok
        go_enter Tryd.func26, Tryd.ntmps26
        go_wp2
        refine wp_scope_jumps 0 (fun _ _ => False) (fun _ _ => 0) rfl ?first ?pass
        case pass => exact fun _ _ h => h.elim
        case first =>
          go_wp2_with (go_at_call 28; refine (judge_any s _ w).mono ?_)
          rintro e w1 ⟨v, hv, rfl, rfl⟩
          rw [HJ.out] at hv
          cases hv
          go_wp2
          go_region_held3 (fun _ => True) (trivial) (first | (go_at_call 29; ((with_reducible refine HC.out.mono ?_); rintro e w2 ⟨v, hv, rfl, hb⟩)))
          go_wp2
          refine bodyPost_ret (results_tmp2 rfl _ _ _) rfl ?_
          exact ⟨v, hv, rfl, below_more (Below.new w _).drew hb⟩
  · have hj : okE s o = 90 := by unfold okE; rw [if_neg hok]
    have HJ := Lib.hid hj
    rw [splR_bad hok] at hr
    subst hr
    clear hj hok
    go_enter Tryd.func26, Tryd.ntmps26
    go_wp2
    refine wp_scope_jumps 0 (OutSpl w) (fun _ _ => 0) rfl ?first ?pass
    case first =>
      go_wp2_with (go_at_call 28; refine (judge_any s o w).mono ?_)
      rintro e w1 ⟨v, hv, rfl, rfl⟩
      rw [HJ.out] at hv
      cases hv
      go_wp2
      apply wp_goto
      exact ⟨rfl, _, _, _, _, _, _, _, _, _, _, _, _, _, _, _, _, _, _, _, _, _, _, _, _, _, _, _, _, _, _, _, _, _, _, _, _, _, _, _, _, _, rfl, ⟨_, rfl⟩, Below.refl _ _⟩
    case pass =>
      rintro a W ⟨v, u0, u1, u2, u3, u4, u5, u6, u7, u8, u9, u11, u12, u13, u14, u15, u16, u17, u18, u19, u20, u21, u22, u23, u24, u25, u26, u27, u28, u29, u30, u31, u32, u33, u34, u35, u36, u37, u38, u39, u40, rfl, ⟨q, rfl⟩, hb⟩
      go_wp2
      refine bodyPost_ret (results_tmp2 rfl _ _ _) rfl ?_
      exact TwoP.none q hb

set_option maxHeartbeats 1000000 in
theorem write_any (s t : It) (o : Int) (ht : t.length ≤ 1000000000000000000) (w : World) :
    Calls Tryd.prog 22 #[.string (bs s), .int .i64 o, .string (bs t)] w (TwoP (writeR s o t) w) := by
  have hz := bs_size s
  have hzt := bs_size t
  obtain ⟨D, hD⟩ : ∃ D, IntKind.i64.wrap ((s.length : Int) - o) = D := ⟨_, rfl⟩
  obtain ⟨N, hN⟩ : ∃ N, (if D < (t.length : Int) then D else (t.length : Int)) = N := ⟨_, rfl⟩
  have hr : splR s o N t = writeR s o t := by
    unfold writeR
    by_cases hok : okAt s o
    · have e : D = (s.length : Int) - o := by
        obtain ⟨h1, h2, h3⟩ := hok
        rw [← hD, IntKind.wrap_i64]
        omega
      rw [← hN, e]
      rfl
    · rw [splR_bad hok, splR_bad hok]
  rw [← hr]
  have HC := Lib.hid (splice_any s t o N ht w)
  clear hr
  obtain ⟨S, hS⟩ : ∃ S, s.length = S := ⟨_, rfl⟩
  obtain ⟨T, hT⟩ : ∃ T, t.length = T := ⟨_, rfl⟩
  rw [hS] at hz hD
  rw [hT] at hzt hN
  have hN2 : min (T : Int) D = N := by rw [← hN]; split <;> omega
  go_enter Tryd.func22, Tryd.ntmps22
  go_wp2_with (go_at_call 26; refine HC.out.mono ?_)
  rintro e w1 ⟨v, hv, rfl, hb⟩
  have HV := Lib.hid (And.intro hv hb)
  clear hv hb
  go_wp2
  refine bodyPost_ret (results_tmp2 rfl _ _ _) rfl ?_
  exact ⟨v, HV.out.1, rfl, HV.out.2⟩
end Go.Proofs.YtmaolhaddgecpaaDoor
