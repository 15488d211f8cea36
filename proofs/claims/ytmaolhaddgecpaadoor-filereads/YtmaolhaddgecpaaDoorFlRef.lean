/- The document's answers. -/
import Derived.Test.YtmaolhaddgecpaaDoorFlShown
import Derived.BigQuiet
import Derived.Deep.OwnRows
namespace Go.Proofs.YtmaolhaddgecpaaDoor
open Go.RowKit Go.Proofs.Fld Go.Proofs.Fil Go.Shelf Go.Sort

theorem bs_append (l m : List UInt8) : bs l ++ bs m = bs (l ++ m) := by
  apply ByteArray.ext
  simp [bs]
theorem str_add (l m : List UInt8) (h : l.length + m.length ≤ 9223372036854775807) (w : World) : (Op.stringOp .add (bs l) (bs m)).run Tryd.prog w = .ok (.string (bs (l ++ m))) w := by
  rw [run_string_add_sum w (bs l) (bs m) (by rw [bs_size, bs_size]; exact h), bs_append]
theorem AnsV.none (w : World) : AnsV [] 90 w (.returned (.tuple #[.string { data := #[] }, .int .i64 90])) w := ⟨rfl, Below.refl _ _⟩
set_option maxRecDepth 100000 in
set_option maxHeartbeats 4000000 in
theorem refWrite_p {s t : It} {o : Int} {r : Option It} {x : It} {c : Int} (hr : writeR s o t = r) (hx : txt r = x) (hc : errR r = c) (ht : t.length ≤ 1000000) {w : World} :
    Calls Tryd.prog 13 #[.string (bs s), .int .i64 o, .string (bs t)] w (AnsV x c w) := by
  have hz := bs_size s
  have hzt := bs_size t
  rw [writeR_doc] at hr
  obtain ⟨S, hS⟩ : ∃ S, s.length = S := ⟨_, rfl⟩
  obtain ⟨T, hT⟩ : ∃ T, t.length = T := ⟨_, rfl⟩
  have hok := show okAt s o ↔ (S ≤ 1000 ∧ 0 ≤ o ∧ o ≤ (S : Int)) from hS ▸ Iff.rfl
  rw [hS] at hz
  rw [hT] at hzt hr ht
  by_cases h1 : 1000 < S
  · have hd : decide ((S : Int) > 1000) = true := decide_eq_true (by omega)
    rw [if_neg (by rw [hok]; omega)] at hr
    subst hr hx hc
    clear hok hS hT
    go_enter Tryd.func13, Tryd.ntmps13
    go_wp2
    refine bodyPost_ret (results_tmp2 rfl _ _ _) rfl ?_
    exact AnsV.none w
  · have hd : decide ((S : Int) > 1000) = false := decide_eq_false (by omega)
    by_cases h2 : o < 0
    · have hd2 : decide (o < 0) = true := decide_eq_true h2
      rw [if_neg (by rw [hok]; omega)] at hr
      subst hr hx hc
      clear hok hS hT
      go_enter Tryd.func13, Tryd.ntmps13
      go_wp2
      refine bodyPost_ret (results_tmp2 rfl _ _ _) rfl ?_
      exact AnsV.none w
    · have hd2 : decide (o < 0) = false := decide_eq_false h2
      by_cases h3 : (S : Int) < o
      · have hd3 : decide (o > (S : Int)) = true := decide_eq_true h3
        rw [if_neg (by rw [hok]; omega)] at hr
        subst hr hx hc
        clear hok hS hT
        go_enter Tryd.func13, Tryd.ntmps13
        go_wp2
        refine bodyPost_ret (results_tmp2 rfl _ _ _) rfl ?_
        exact AnsV.none w
      · have hd3 : decide (o > (S : Int)) = false := decide_eq_false h3
        have hw : IntKind.i64.wrap (1000 - o) = 1000 - o := by rw [IntKind.wrap_i64]; omega
        by_cases h4 : 1000 - o < (T : Int)
        · have hd4 : decide ((T : Int) > 1000 - o) = true := decide_eq_true h4
          rw [if_neg (by rw [hok]; omega)] at hr
          subst hr hx hc
          clear hok hS hT
          go_enter Tryd.func13, Tryd.ntmps13
          go_wp2
          refine bodyPost_ret (results_tmp2 rfl _ _ _) rfl ?_
          exact AnsV.none w
        · have hd4 : decide ((T : Int) > 1000 - o) = false := decide_eq_false h4
          rw [if_pos (by rw [hok]; omega)] at hr
          obtain ⟨k, rfl⟩ := Int.eq_ofNat_of_zero_le (by omega : 0 ≤ o)
          have hd7 : decide (S < k) = false := decide_eq_false (by omega)
          obtain ⟨e, he⟩ : ∃ e, k + T = e := ⟨_, rfl⟩
          have hw2 : IntKind.i64.wrap ((k : Int) + (T : Int)) = (e : Int) := by rw [IntKind.wrap_i64]; omega
          obtain ⟨q, hq⟩ : ∃ q, min S e = q := ⟨_, rfl⟩
          have hm : min (S : Int) (e : Int) = (q : Int) := by omega
          have s1 := str_upto s k (by omega)
          have s2 := str_from s q (by omega)
          obtain ⟨X, hX⟩ : ∃ X, s.take k = X := ⟨_, rfl⟩
          obtain ⟨Y, hY⟩ : ∃ Y, s.drop q = Y := ⟨_, rfl⟩
          have a1 := str_add X t (by rw [← hX, List.length_take]; omega)
          have a2 := str_add (X ++ t) Y (by rw [← hX, ← hY, List.length_append, List.length_take, List.length_drop]; omega)
          obtain ⟨Z, hZ⟩ : ∃ Z, X ++ t = Z := ⟨_, rfl⟩
          obtain ⟨V, hV⟩ : ∃ V, Z ++ Y = V := ⟨_, rfl⟩
          rw [hX] at s1
          rw [hY] at s2
          rw [hZ] at a1 a2
          rw [hV] at a2
          have hv : r = some V := by
            rw [← hr, ← hV, ← hZ, ← hX, ← hY, Int.toNat_natCast, he]
            congr 2
            rcases Nat.le_total S e with h | h
            · rw [List.drop_eq_nil_of_le (by omega), List.drop_eq_nil_of_le (by omega)]
            · rw [show q = e by omega]
          subst hv hx hc
          clear hok hS hT hr he hq hX hY hZ hV h4 h3 h2 h1
          go_enter Tryd.func13, Tryd.ntmps13
          go_wp2
          go_region_held3 (fun _ => True) (trivial) (fail)
          go_wp2
          refine bodyPost_ret (results_tmp2 rfl _ _ _) rfl ?_
          exact ⟨rfl, (Below.refl _ w).drew⟩
set_option maxRecDepth 100000 in
set_option maxHeartbeats 4000000 in
theorem refRead_p {s : It} {o n : Int} {r : Option It} {x : It} {c : Int} (hr : readR s o n = r) (hx : txt r = x) (hc : errR r = c) {w : World} :
    Calls Tryd.prog 15 #[.string (bs s), .int .i64 o, .int .i64 n] w (AnsV x c w) := by
  have hz := bs_size s
  unfold readR at hr
  obtain ⟨S, hS⟩ : ∃ S, s.length = S := ⟨_, rfl⟩
  have hok := show okAt s o ↔ (S ≤ 1000 ∧ 0 ≤ o ∧ o ≤ (S : Int)) from hS ▸ Iff.rfl
  rw [hS] at hz
  by_cases h1 : 1000 < S
  · have hd : decide ((S : Int) > 1000) = true := decide_eq_true (by omega)
    rw [if_neg (by rw [hok]; omega)] at hr
    subst hr hx hc
    clear hok hS
    go_enter Tryd.func15, Tryd.ntmps15
    go_wp2
    refine bodyPost_ret (results_tmp2 rfl _ _ _) rfl ?_
    exact AnsV.none w
  · have hd : decide ((S : Int) > 1000) = false := decide_eq_false (by omega)
    by_cases h2 : o < 0
    · have hd2 : decide (o < 0) = true := decide_eq_true h2
      rw [if_neg (by rw [hok]; omega)] at hr
      subst hr hx hc
      clear hok hS
      go_enter Tryd.func15, Tryd.ntmps15
      go_wp2
      refine bodyPost_ret (results_tmp2 rfl _ _ _) rfl ?_
      exact AnsV.none w
    · have hd2 : decide (o < 0) = false := decide_eq_false h2
      by_cases h3 : (S : Int) < o
      · have hd3 : decide (o > (S : Int)) = true := decide_eq_true h3
        rw [if_neg (by rw [hok]; omega)] at hr
        subst hr hx hc
        clear hok hS
        go_enter Tryd.func15, Tryd.ntmps15
        go_wp2
        refine bodyPost_ret (results_tmp2 rfl _ _ _) rfl ?_
        exact AnsV.none w
      · have hd3 : decide (o > (S : Int)) = false := decide_eq_false h3
        by_cases h4 : n < 0
        · have hd4 : decide (n < 0) = true := decide_eq_true h4
          rw [if_neg (by rw [hok]; omega)] at hr
          subst hr hx hc
          clear hok hS
          go_enter Tryd.func15, Tryd.ntmps15
          go_wp2
          refine bodyPost_ret (results_tmp2 rfl _ _ _) rfl ?_
          exact AnsV.none w
        · have hd4 : decide (n < 0) = false := decide_eq_false h4
          rw [if_pos (by rw [hok]; omega)] at hr
          obtain ⟨k, rfl⟩ := Int.eq_ofNat_of_zero_le (by omega : 0 ≤ o)
          have hd7 : decide (S < k) = false := decide_eq_false (by omega)
          obtain ⟨m, rfl⟩ := Int.eq_ofNat_of_zero_le (by omega : 0 ≤ n)
          obtain ⟨D, hD⟩ : ∃ D, S - k = D := ⟨_, rfl⟩
          have hw : IntKind.i64.wrap ((S : Int) - (k : Int)) = (D : Int) := by rw [IntKind.wrap_i64]; omega
          obtain ⟨N, hN⟩ : ∃ N, min m D = N := ⟨_, rfl⟩
          have hm : min (m : Int) (D : Int) = (N : Int) := by omega
          obtain ⟨q, hq⟩ : ∃ q, k + N = q := ⟨_, rfl⟩
          have hw2 : IntKind.i64.wrap ((k : Int) + (N : Int)) = (q : Int) := by rw [IntKind.wrap_i64]; omega
          have s1 := str_mid s k q (by omega) (by omega)
          obtain ⟨X, hX⟩ : ∃ X, (s.drop k).take (q - k) = X := ⟨_, rfl⟩
          rw [hX] at s1
          have hv : r = some X := by
            rw [← hr, ← hX, Int.toNat_natCast, Int.toNat_natCast, show q - k = N by omega]
            rcases Nat.le_total m D with h | h
            · rw [show N = m by omega]
            · rw [show N = D by omega, List.take_of_length_le (i := m) (by rw [List.length_drop]; omega), List.take_of_length_le (by rw [List.length_drop]; omega)]
          subst hv hx hc
          clear hok hS hr hD hN hq hX h4 h3 h2 h1
          go_enter Tryd.func15, Tryd.ntmps15
          go_wp2
          refine bodyPost_ret (results_tmp2 rfl _ _ _) rfl ?_
          exact ⟨rfl, Below.refl _ w⟩
set_option maxHeartbeats 1000000 in
theorem refAppend_p {s t : It} {r : Option It} {x : It} {c : Int} (hr : writeR s (s.length : Int) t = r) (hx : txt r = x) (hc : errR r = c) (ht : t.length ≤ 1000000) {w : World} :
    Calls Tryd.prog 17 #[.string (bs s), .string (bs t)] w (AnsV x c w) := by
  have hz := bs_size s
  have HC := Lib.hid (refWrite_p hr hx hc ht (w := w))
  clear hr hx hc
  go_enter Tryd.func17, Tryd.ntmps17
  go_wp2_with (go_at_call 13; refine HC.out.mono ?_)
  rintro e w1 ⟨rfl, hb⟩
  have HV := Lib.hid hb
  clear hb
  go_wp2
  refine bodyPost_ret (results_tmp2 rfl _ _ _) rfl ?_
  exact ⟨rfl, HV.out⟩
end Go.Proofs.YtmaolhaddgecpaaDoor
