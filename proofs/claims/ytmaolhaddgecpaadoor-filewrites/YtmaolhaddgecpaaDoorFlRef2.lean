/- The document's answers: cut, splice. -/
import Derived.Test.YtmaolhaddgecpaaDoorFlRef
namespace Go.Proofs.YtmaolhaddgecpaaDoor
open Go.RowKit Go.Proofs.Fld Go.Proofs.Fil Go.Shelf Go.Sort

set_option maxRecDepth 100000 in
set_option maxHeartbeats 4000000 in
theorem refSplice_p {s t : It} {o n : Int} {r : Option It} {x : It} {c : Int} (hr : splR s o n t = r) (hx : txt r = x) (hc : errR r = c) (ht : t.length ≤ 1000000) {w : World} :
    Calls Tryd.prog 21 #[.string (bs s), .int .i64 o, .int .i64 n, .string (bs t)] w (AnsV x c w) := by
  have hz := bs_size s
  have hzt := bs_size t
  rw [splR_doc] at hr
  obtain ⟨S, hS⟩ : ∃ S, s.length = S := ⟨_, rfl⟩
  obtain ⟨T, hT⟩ : ∃ T, t.length = T := ⟨_, rfl⟩
  have hok := show okAt s o ↔ (S ≤ 1000 ∧ 0 ≤ o ∧ o ≤ (S : Int)) from hS ▸ Iff.rfl
  rw [hS] at hz hr
  rw [hT] at hzt hr ht
  by_cases h1 : 1000 < S
  · have hd : decide ((S : Int) > 1000) = true := decide_eq_true (by omega)
    rw [if_neg (by rw [hok]; omega)] at hr
    subst hr hx hc
    clear hok hS hT
    go_enter Tryd.func21, Tryd.ntmps21
    go_wp2
    refine bodyPost_ret (results_tmp2 rfl _ _ _) rfl ?_
    exact AnsV.none w
  · have hd : decide ((S : Int) > 1000) = false := decide_eq_false (by omega)
    by_cases h2 : o < 0
    · have hd2 : decide (o < 0) = true := decide_eq_true h2
      rw [if_neg (by rw [hok]; omega)] at hr
      subst hr hx hc
      clear hok hS hT
      go_enter Tryd.func21, Tryd.ntmps21
      go_wp2
      refine bodyPost_ret (results_tmp2 rfl _ _ _) rfl ?_
      exact AnsV.none w
    · have hd2 : decide (o < 0) = false := decide_eq_false h2
      by_cases h3 : (S : Int) < o
      · have hd3 : decide (o > (S : Int)) = true := decide_eq_true h3
        rw [if_neg (by rw [hok]; omega)] at hr
        subst hr hx hc
        clear hok hS hT
        go_enter Tryd.func21, Tryd.ntmps21
        go_wp2
        refine bodyPost_ret (results_tmp2 rfl _ _ _) rfl ?_
        exact AnsV.none w
      · have hd3 : decide (o > (S : Int)) = false := decide_eq_false h3
        by_cases h4 : n < 0
        · have hd4 : decide (n < 0) = true := decide_eq_true h4
          rw [if_neg (by rw [hok]; omega)] at hr
          subst hr hx hc
          clear hok hS hT
          go_enter Tryd.func21, Tryd.ntmps21
          go_wp2
          refine bodyPost_ret (results_tmp2 rfl _ _ _) rfl ?_
          exact AnsV.none w
        · have hd4 : decide (n < 0) = false := decide_eq_false h4
          have hw : IntKind.i64.wrap ((S : Int) - o) = (S : Int) - o := by rw [IntKind.wrap_i64]; omega
          by_cases h5 : (S : Int) - o < n
          · have hd5 : decide (n > (S : Int) - o) = true := decide_eq_true h5
            rw [if_neg (by rw [hok]; omega)] at hr
            subst hr hx hc
            clear hok hS hT
            go_enter Tryd.func21, Tryd.ntmps21
            go_wp2
            refine bodyPost_ret (results_tmp2 rfl _ _ _) rfl ?_
            exact AnsV.none w
          · have hd5 : decide (n > (S : Int) - o) = false := decide_eq_false h5
            obtain ⟨k, rfl⟩ := Int.eq_ofNat_of_zero_le (by omega : 0 ≤ o)
            have hd7 : decide (S < k) = false := decide_eq_false (by omega)
            obtain ⟨m, rfl⟩ := Int.eq_ofNat_of_zero_le (by omega : 0 ≤ n)
            obtain ⟨D, hD⟩ : ∃ D, S - m = D := ⟨_, rfl⟩
            have hw1 : IntKind.i64.wrap ((S : Int) - (m : Int)) = (D : Int) := by rw [IntKind.wrap_i64]; omega
            obtain ⟨E, hE⟩ : ∃ E, D + T = E := ⟨_, rfl⟩
            have hw2 : IntKind.i64.wrap ((D : Int) + (T : Int)) = (E : Int) := by rw [IntKind.wrap_i64]; omega
            by_cases h6 : 1000 < E
            · have hd6 : decide ((E : Int) > 1000) = true := decide_eq_true (by omega)
              rw [if_neg (by rw [hok]; omega)] at hr
              subst hr hx hc
              clear hok hS hT hD hE
              go_enter Tryd.func21, Tryd.ntmps21
              go_wp2
              refine bodyPost_ret (results_tmp2 rfl _ _ _) rfl ?_
              exact AnsV.none w
            · have hd6 : decide ((E : Int) > 1000) = false := decide_eq_false (by omega)
              rw [if_pos (by rw [hok]; omega)] at hr
              obtain ⟨q, hq⟩ : ∃ q, k + m = q := ⟨_, rfl⟩
              have hw3 : IntKind.i64.wrap ((k : Int) + (m : Int)) = (q : Int) := by rw [IntKind.wrap_i64]; omega
              have s1 := str_upto s k (by omega)
              have s2 := str_from s q (by omega)
              obtain ⟨X, hX⟩ : ∃ X, s.take k = X := ⟨_, rfl⟩
              obtain ⟨Y, hY⟩ : ∃ Y, s.drop q = Y := ⟨_, rfl⟩
              have a1 := str_add X t (by rw [← hX, List.length_take]; omega)
              have a2 := str_add (X ++ t) Y (by rw [← hX, ← hY, List.length_append, List.length_take, List.length_drop]; omega)
              obtain ⟨Z, hZ⟩ : ∃ Z, X ++ t = Z := ⟨_, rfl⟩
              obtain ⟨V, hV⟩ : ∃ V, Z ++ Y = V := ⟨_, rfl⟩
              rw [hX] at s1
              rw [hY] at s2
              rw [hZ] at a1 a2
              rw [hV] at a2
              have hv : r = some V := by rw [← hr, ← hV, ← hZ, ← hX, ← hY, Int.toNat_natCast, Int.toNat_natCast, hq]
              subst hv hx hc
              clear hok hS hT hr hq hX hY hZ hV h5 h4 h3 h2 h1 hD hE h6
              go_enter Tryd.func21, Tryd.ntmps21
              go_wp2
              go_region_held3 (fun _ => True) (trivial) (fail)
              go_wp2
              refine bodyPost_ret (results_tmp2 rfl _ _ _) rfl ?_
              exact ⟨rfl, (Below.refl _ w).drew⟩
theorem infoU : (Tryd.prog.info? 5).map (fun i => (i.zero, i.size, i.bytes)) = some (some (.int .u8 0), 1, 1) := by kernel_rfl
theorem made_zeros (c j : Nat) (h : j < c) : (madeCells #[Value.int .u8 0] c)[j]? = some (.int .u8 0) := by
  simp [madeCells, h, Nat.mod_one]
theorem conv_zeros (w : World) (c : Nat) : (convert 43 9 (.slice (some ⟨w.heap.size, 0, none⟩) c c)).run Tryd.prog ((w.alloc (.cells (madeCells #[.int .u8 0] c) 5)).drew) = .ok (.string (bs (zerosR c))) ((w.alloc (.cells (madeCells #[.int .u8 0] c) 5)).drew) := by
  have h := run_convert_bytes_back (P := Tryd.prog) ((w.alloc (.cells (madeCells #[.int .u8 0] c) 5)).drew) 43 9 5 ⟨w.heap.size, 0, none⟩ c (zerosR c) Tryd.underlying43 Tryd.underlying5 Tryd.underlying9 (fun j hj => by
    have hj2 : j < c := by simpa [zerosR] using hj
    rw [add_at, Nat.zero_add, World.cell?_drew, World.cell?_alloc_at _ _ _ _ rfl, made_zeros c j hj2]
    simp [zerosR])
  rw [show (zerosR c).length = c by simp [zerosR]] at h
  exact h
set_option maxRecDepth 100000 in
set_option maxHeartbeats 4000000 in
theorem refCut_p {s : It} {n : Int} {r : Option It} {x : It} {c : Int} (hr : cutR s n = r) (hx : txt r = x) (hc : errR r = c) {w : World} :
    Calls Tryd.prog 19 #[.string (bs s), .int .i64 n] w (AnsV x c w) := by
  have hz := bs_size s
  unfold cutR at hr
  obtain ⟨S, hS⟩ : ∃ S, s.length = S := ⟨_, rfl⟩
  rw [hS] at hz hr
  by_cases h1 : 1000 < S
  · have hd : decide ((S : Int) > 1000) = true := decide_eq_true (by omega)
    rw [if_neg (by omega)] at hr
    subst hr hx hc
    clear hS
    go_enter Tryd.func19, Tryd.ntmps19
    go_wp2
    refine bodyPost_ret (results_tmp2 rfl _ _ _) rfl ?_
    exact AnsV.none w
  · have hd : decide ((S : Int) > 1000) = false := decide_eq_false (by omega)
    by_cases h2 : n < 0
    · have hd2 : decide (n < 0) = true := decide_eq_true h2
      rw [if_neg (by omega)] at hr
      subst hr hx hc
      clear hS
      go_enter Tryd.func19, Tryd.ntmps19
      go_wp2
      refine bodyPost_ret (results_tmp2 rfl _ _ _) rfl ?_
      exact AnsV.none w
    · have hd2 : decide (n < 0) = false := decide_eq_false h2
      by_cases h3 : 1000 < n
      · have hd3 : decide (n > 1000) = true := decide_eq_true h3
        rw [if_neg (by omega)] at hr
        subst hr hx hc
        clear hS
        go_enter Tryd.func19, Tryd.ntmps19
        go_wp2
        refine bodyPost_ret (results_tmp2 rfl _ _ _) rfl ?_
        exact AnsV.none w
      · have hd3 : decide (n > 1000) = false := decide_eq_false h3
        rw [if_pos (by omega)] at hr
        obtain ⟨m, rfl⟩ := Int.eq_ofNat_of_zero_le (by omega : 0 ≤ n)
        obtain ⟨K, hK⟩ : ∃ K, min m S = K := ⟨_, rfl⟩
        have hm : min (m : Int) (S : Int) = (K : Int) := by omega
        obtain ⟨D, hD⟩ : ∃ D : Int, (m : Int) - (S : Int) = D := ⟨_, rfl⟩
        have hw : IntKind.i64.wrap ((m : Int) - (S : Int)) = D := by rw [IntKind.wrap_i64]; omega
        obtain ⟨C, hC⟩ : ∃ C, m - S = C := ⟨_, rfl⟩
        have hm2 : max 0 D = (C : Int) := by omega
        have s1 := str_upto s K (by omega)
        have mk := run_make_row' (P := Tryd.prog) 43 5 (.int .u8 0) 1 Tryd.underlying43 infoU rfl .i64 .i64 C (by omega) (by omega)
        have cv := conv_zeros w C
        obtain ⟨Q, hQ⟩ : ∃ Q, madeCells #[Value.int .u8 0] C = Q := ⟨_, rfl⟩
        rw [hQ] at mk cv
        obtain ⟨X, hX⟩ : ∃ X, s.take K = X := ⟨_, rfl⟩
        obtain ⟨Y, hY⟩ : ∃ Y, zerosR C = Y := ⟨_, rfl⟩
        rw [hX] at s1
        rw [hY] at cv
        have a1 := str_add X Y (by rw [← hX, ← hY, List.length_take]; simp only [zerosR, List.length_replicate]; omega)
        obtain ⟨V, hV⟩ : ∃ V, X ++ Y = V := ⟨_, rfl⟩
        rw [hV] at a1
        have hv : r = some V := by
          rw [← hr, ← hV, ← hX, ← hY, Int.toNat_natCast, hC]
          congr 2
          rcases Nat.le_total m S with h | h
          · rw [show K = m by omega]
          · rw [show K = S by omega, List.take_of_length_le (i := m) (by omega), List.take_of_length_le (by omega)]
        subst hv hx hc
        clear hS hr hK hD hC hX hY hV h3 h2 h1 hQ
        go_enter Tryd.func19, Tryd.ntmps19
        go_wp2
        go_region
        all_goals
          go_wp2
          refine bodyPost_ret (results_tmp2 rfl _ _ _) rfl ?_
          exact ⟨rfl, (Below.new w _).drew⟩
end Go.Proofs.YtmaolhaddgecpaaDoor
