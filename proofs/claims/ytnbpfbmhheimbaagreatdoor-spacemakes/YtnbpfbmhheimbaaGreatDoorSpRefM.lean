/- The document's Make. -/
import Derived.Test.YtnbpfbmhheimbaaGreatDoorSpRefD
namespace Go.Proofs.YtnbpfbmhheimbaaGreatDoor
open Go.RowKit Go.Proofs.Fld Go.Proofs.Rng Go.Proofs.Spc Go.Shelf Go.Sort

theorem new_bd {nm : It} {k m : Int} (h : nm.length ≤ 100000) : Bd (newO nm k m) := ⟨Nat.zero_le _, h, Nat.zero_le _⟩
/-- A new object's row. -/
theorem new_row (W : World) (nm : It) (k m : Int) (va : Option Addr) (vc : Nat) : ∀ j u, (cells5 ⟨newO nm k m, va, vc⟩)[j]? = some u → (W.alloc (.cells #[.string (bs nm), .int .i64 k, .string { data := #[] }, .int .i64 m, .slice va 0 vc] 55)).cell? ((⟨W.heap.size, 0, none⟩ : Addr).add j) = some u := ob_new W ⟨newO nm k m, va, vc⟩ 55
theorem new_cells (nm : It) (k m : Int) (va : Option Addr) (vc : Nat) : cells5 ⟨newO nm k m, va, vc⟩ = [.string (bs nm), .int .i64 k, .string { data := #[] }, .int .i64 m, .slice va 0 vc] := rfl
theorem small_with {l : List Ob} {n : It} {k m : Int} (h : rightB l = true) (hn : n.length ≤ 100000) (s : Nat) : Small (withL l s s [newO n k m]) := by
  obtain ⟨h1, h2⟩ := small_right h
  have h3 := (rightB_iff.1 h).1
  refine ⟨?_, fun x hx => ?_⟩
  · unfold withL
    simp only [List.length_append, List.length_take, List.length_drop, List.length_cons, List.length_nil]
    omega
  · rcases mem_withL hx with q | q
    · exact h2 x q
    · obtain rfl : x = newO n k m := by simpa using q
      exact new_bd hn
section
variable {w : World} {ao : Option Addr} {k0 cap : Nat} {zs : List Ov} {l : List Ob} {c : Int}

set_option maxRecDepth 100000 in
set_option maxHeartbeats 4000000 in
theorem mkd_1 {nm : It} {q k m : Int} (_hnm : nm.length ≤ 100000) (h1 : rightB l = false) (hL : SO w ao k0 cap zs l) : Calls Tryz.prog 29 #[.slice ao k0 cap, .int .i64 q, .string (bs nm), .int .i64 k, .int .i64 m] w (ResS 110 [] 0 w) := by
  have L := Lib.hid hL
  have B := Lib.hid (Below.refl w.heap.size w)

  have H := Lib.hid (And.intro h1 trivial)
  clear h1
  clear hL

  go_enter Tryz.func29, Tryz.ntmps29
  go_wp2_with (go_at_call 18; refine (RRight_w H.out.1 L.out).mono ?_)
  rintro e wn ⟨rfl, hb⟩
  replace B := Lib.hid (below_more B.out hb)
  clear hb
  go_wp2
  refine bodyPost_ret (results_tmp2 rfl _ _ _) rfl ?_
  exact ⟨[], none, 0, rfl, SO.nil _, B.out⟩

set_option maxRecDepth 100000 in
set_option maxHeartbeats 4000000 in
theorem mkd_2 {nm : It} {q k m : Int} (hnm : nm.length ≤ 100000) (h1 : rightB l = true) (h2 : nameB nm = false) (hL : SO w ao k0 cap zs l) : Calls Tryz.prog 29 #[.slice ao k0 cap, .int .i64 q, .string (bs nm), .int .i64 k, .int .i64 m] w (ResS 100 [] 0 w) := by
  have L := Lib.hid hL
  have B := Lib.hid (Below.refl w.heap.size w)

  have H := Lib.hid (And.intro h1 h2)
  have HN := Lib.hid (fun W => refName_any nm (Nat.le_trans hnm (by omega)) W)
  rw [h2] at HN
  clear h1 h2
  clear hL

  go_enter Tryz.func29, Tryz.ntmps29
  go_wp2_with (go_at_call 18; refine (RRight_w H.out.1 L.out).mono ?_)
  rintro e wn ⟨rfl, hb⟩
  replace B := Lib.hid (below_more B.out hb)
  replace L := Lib.hid (L.out.more hb)
  clear hb
  go_wp2_with (go_at_call 16; refine (HN.out _).mono ?_)
  rintro e wn ⟨rfl, hb⟩
  replace B := Lib.hid (below_more B.out hb)
  clear hb
  go_wp2
  refine bodyPost_ret (results_tmp2 rfl _ _ _) rfl ?_
  exact ⟨[], none, 0, rfl, SO.nil _, B.out⟩

set_option maxRecDepth 100000 in
set_option maxHeartbeats 4000000 in
theorem mkd_3 {nm : It} {q k m : Int} (hnm : nm.length ≤ 100000) (h1 : rightB l = true) (h2 : nameB nm = true) (h3 : k ≠ 1 ∧ k ≠ 2) (hL : SO w ao k0 cap zs l) : Calls Tryz.prog 29 #[.slice ao k0 cap, .int .i64 q, .string (bs nm), .int .i64 k, .int .i64 m] w (ResS 103 [] 0 w) := by
  have L := Lib.hid hL
  have B := Lib.hid (Below.refl w.heap.size w)

  have H := Lib.hid (And.intro h1 h2)
  have HN := Lib.hid (fun W => refName_any nm (Nat.le_trans hnm (by omega)) W)
  rw [h2] at HN
  have d1 : (k != 1) = true := by simp [h3.1]
  have d2 : (k != 2) = true := by simp [h3.2]
  clear h1 h2 h3
  clear hL

  go_enter Tryz.func29, Tryz.ntmps29
  go_wp2_with (go_at_call 18; refine (RRight_w H.out.1 L.out).mono ?_)
  rintro e wn ⟨rfl, hb⟩
  replace B := Lib.hid (below_more B.out hb)
  replace L := Lib.hid (L.out.more hb)
  clear hb
  go_wp2_with (go_at_call 16; refine (HN.out _).mono ?_)
  rintro e wn ⟨rfl, hb⟩
  replace B := Lib.hid (below_more B.out hb)
  replace L := Lib.hid (L.out.more hb)
  clear hb
  go_wp2
  refine bodyPost_ret (results_tmp2 rfl _ _ _) rfl ?_
  exact ⟨[], none, 0, rfl, SO.nil _, B.out⟩

set_option maxRecDepth 100000 in
set_option maxHeartbeats 4000000 in
theorem mkd_41 {nm : It} {q _k m : Int} (hnm : nm.length ≤ 100000) {o : Ob} (h1 : rightB l = true) (h2 : nameB nm = true) (h4 : getO l nm = some o) (hL : SO w ao k0 cap zs l) : Calls Tryz.prog 29 #[.slice ao k0 cap, .int .i64 q, .string (bs nm), .int .i64 1, .int .i64 m] w (ResS 101 [] 0 w) := by
  have L := Lib.hid hL
  have B := Lib.hid (Below.refl w.heap.size w)

  obtain ⟨j, hj, hjl, _⟩ := findI_of h4
  have H := Lib.hid (And.intro h1 hj)
  have HN := Lib.hid (fun W => refName_any nm (Nat.le_trans hnm (by omega)) W)
  rw [h2] at HN
  have d1 : decide ((j : Int) ≥ 0) = true := decide_eq_true (by omega)
  clear h1 h2 h4 hj hjl
  clear hL

  go_enter Tryz.func29, Tryz.ntmps29
  go_wp2_with (go_at_call 18; refine (RRight_w H.out.1 L.out).mono ?_)
  rintro e wn ⟨rfl, hb⟩
  replace B := Lib.hid (below_more B.out hb)
  replace L := Lib.hid (L.out.more hb)
  clear hb
  go_wp2_with (go_at_call 16; refine (HN.out _).mono ?_)
  rintro e wn ⟨rfl, hb⟩
  replace B := Lib.hid (below_more B.out hb)
  replace L := Lib.hid (L.out.more hb)
  clear hb
  go_wp2_with (go_at_call 22; refine (RFind_w H.out.2 L.out).mono ?_)
  rintro e wn ⟨rfl, hb⟩
  replace B := Lib.hid (below_more B.out hb)
  clear hb
  go_wp2
  refine bodyPost_ret (results_tmp2 rfl _ _ _) rfl ?_
  exact ⟨[], none, 0, rfl, SO.nil _, B.out⟩

set_option maxRecDepth 100000 in
set_option maxHeartbeats 4000000 in
theorem mkd_42 {nm : It} {q _k m : Int} (hnm : nm.length ≤ 100000) {o : Ob} (h1 : rightB l = true) (h2 : nameB nm = true) (h4 : getO l nm = some o) (hL : SO w ao k0 cap zs l) : Calls Tryz.prog 29 #[.slice ao k0 cap, .int .i64 q, .string (bs nm), .int .i64 2, .int .i64 m] w (ResS 101 [] 0 w) := by
  have L := Lib.hid hL
  have B := Lib.hid (Below.refl w.heap.size w)

  obtain ⟨j, hj, hjl, _⟩ := findI_of h4
  have H := Lib.hid (And.intro h1 hj)
  have HN := Lib.hid (fun W => refName_any nm (Nat.le_trans hnm (by omega)) W)
  rw [h2] at HN
  have d1 : decide ((j : Int) ≥ 0) = true := decide_eq_true (by omega)
  clear h1 h2 h4 hj hjl
  clear hL

  go_enter Tryz.func29, Tryz.ntmps29
  go_wp2_with (go_at_call 18; refine (RRight_w H.out.1 L.out).mono ?_)
  rintro e wn ⟨rfl, hb⟩
  replace B := Lib.hid (below_more B.out hb)
  replace L := Lib.hid (L.out.more hb)
  clear hb
  go_wp2_with (go_at_call 16; refine (HN.out _).mono ?_)
  rintro e wn ⟨rfl, hb⟩
  replace B := Lib.hid (below_more B.out hb)
  replace L := Lib.hid (L.out.more hb)
  clear hb
  go_wp2_with (go_at_call 22; refine (RFind_w H.out.2 L.out).mono ?_)
  rintro e wn ⟨rfl, hb⟩
  replace B := Lib.hid (below_more B.out hb)
  clear hb
  go_wp2
  refine bodyPost_ret (results_tmp2 rfl _ _ _) rfl ?_
  exact ⟨[], none, 0, rfl, SO.nil _, B.out⟩

set_option maxRecDepth 100000 in
set_option maxHeartbeats 4000000 in
theorem mkd_51 {nm : It} {q _k m : Int} (hnm : nm.length ≤ 100000) (h1 : rightB l = true) (h2 : nameB nm = true) (h4 : getO l nm = none) (h5 : m < 0 ∨ 2000 < m) (hL : SO w ao k0 cap zs l) : Calls Tryz.prog 29 #[.slice ao k0 cap, .int .i64 q, .string (bs nm), .int .i64 1, .int .i64 m] w (ResS 2 [] 0 w) := by
  have L := Lib.hid hL
  have B := Lib.hid (Below.refl w.heap.size w)

  have H := Lib.hid (And.intro h1 (findI_no h4))
  have HN := Lib.hid (fun W => refName_any nm (Nat.le_trans hnm (by omega)) W)
  rw [h2] at HN
  obtain ⟨pm, hpm⟩ : ∃ pm, newM m = pm := ⟨_, rfl⟩
  have HNW := Lib.hid (fun W => RNew_p (m := m) (pm := pm) (c := 2) hpm (by rw [new_e, if_pos h5]) W)
  clear h1 h2 h4 h5 hpm
  clear hL

  go_enter Tryz.func29, Tryz.ntmps29
  go_wp2_with (go_at_call 18; refine (RRight_w H.out.1 L.out).mono ?_)
  rintro e wn ⟨rfl, hb⟩
  replace B := Lib.hid (below_more B.out hb)
  replace L := Lib.hid (L.out.more hb)
  clear hb
  go_wp2_with (go_at_call 16; refine (HN.out _).mono ?_)
  rintro e wn ⟨rfl, hb⟩
  replace B := Lib.hid (below_more B.out hb)
  replace L := Lib.hid (L.out.more hb)
  clear hb
  go_wp2_with (go_at_call 22; refine (RFind_w H.out.2 L.out).mono ?_)
  rintro e wn ⟨rfl, hb⟩
  replace B := Lib.hid (below_more B.out hb)
  replace L := Lib.hid (L.out.more hb)
  clear hb
  go_wp2_with (go_at_call 56; refine (HNW.out _).mono ?_)
  rintro e w2 ⟨va, vc, rfl, ⟨hT, _⟩, hb⟩
  have hN := Below.new w2 (.cells #[.int .i64 pm, .slice va 0 vc] 53)
  replace B := Lib.hid (below_more (below_more B.out hb) hN)
  replace L := Lib.hid ((L.out.more hb).more hN)
  have T := Lib.hid (hT.more hN)
  obtain ⟨r0, r1, _, _⟩ := R2.new w2 (.int .i64 pm) (.slice va 0 vc) 53
  obtain ⟨W3, hW3⟩ : ∃ W3, w2.alloc (.cells #[.int .i64 pm, .slice va 0 vc] 53) = W3 := ⟨_, rfl⟩
  rw [hW3] at B L T r0 r1
  clear hT hb hN
  go_wp2
  refine bodyPost_ret (results_tmp2 rfl _ _ _) rfl ?_
  exact ⟨[], none, 0, rfl, SO.nil _, B.out⟩

set_option maxRecDepth 100000 in
set_option maxHeartbeats 4000000 in
theorem mkd_52 {nm : It} {q _k m : Int} (hnm : nm.length ≤ 100000) (h1 : rightB l = true) (h2 : nameB nm = true) (h4 : getO l nm = none) (h5 : m < 0 ∨ 2000 < m) (hL : SO w ao k0 cap zs l) : Calls Tryz.prog 29 #[.slice ao k0 cap, .int .i64 q, .string (bs nm), .int .i64 2, .int .i64 m] w (ResS 2 [] 0 w) := by
  have L := Lib.hid hL
  have B := Lib.hid (Below.refl w.heap.size w)

  have H := Lib.hid (And.intro h1 (findI_no h4))
  have HN := Lib.hid (fun W => refName_any nm (Nat.le_trans hnm (by omega)) W)
  rw [h2] at HN
  obtain ⟨pm, hpm⟩ : ∃ pm, newM m = pm := ⟨_, rfl⟩
  have HNW := Lib.hid (fun W => RNew_p (m := m) (pm := pm) (c := 2) hpm (by rw [new_e, if_pos h5]) W)
  clear h1 h2 h4 h5 hpm
  clear hL

  go_enter Tryz.func29, Tryz.ntmps29
  go_wp2_with (go_at_call 18; refine (RRight_w H.out.1 L.out).mono ?_)
  rintro e wn ⟨rfl, hb⟩
  replace B := Lib.hid (below_more B.out hb)
  replace L := Lib.hid (L.out.more hb)
  clear hb
  go_wp2_with (go_at_call 16; refine (HN.out _).mono ?_)
  rintro e wn ⟨rfl, hb⟩
  replace B := Lib.hid (below_more B.out hb)
  replace L := Lib.hid (L.out.more hb)
  clear hb
  go_wp2_with (go_at_call 22; refine (RFind_w H.out.2 L.out).mono ?_)
  rintro e wn ⟨rfl, hb⟩
  replace B := Lib.hid (below_more B.out hb)
  replace L := Lib.hid (L.out.more hb)
  clear hb
  go_wp2_with (go_at_call 56; refine (HNW.out _).mono ?_)
  rintro e w2 ⟨va, vc, rfl, ⟨hT, _⟩, hb⟩
  have hN := Below.new w2 (.cells #[.int .i64 pm, .slice va 0 vc] 53)
  replace B := Lib.hid (below_more (below_more B.out hb) hN)
  replace L := Lib.hid ((L.out.more hb).more hN)
  have T := Lib.hid (hT.more hN)
  obtain ⟨r0, r1, _, _⟩ := R2.new w2 (.int .i64 pm) (.slice va 0 vc) 53
  obtain ⟨W3, hW3⟩ : ∃ W3, w2.alloc (.cells #[.int .i64 pm, .slice va 0 vc] 53) = W3 := ⟨_, rfl⟩
  rw [hW3] at B L T r0 r1
  clear hT hb hN
  go_wp2
  refine bodyPost_ret (results_tmp2 rfl _ _ _) rfl ?_
  exact ⟨[], none, 0, rfl, SO.nil _, B.out⟩

set_option maxRecDepth 100000 in
set_option maxHeartbeats 4000000 in
theorem mkd_6 {nm : It} {q _k m : Int} (hnm : nm.length ≤ 100000) (h1 : rightB l = true) (h2 : nameB nm = true) (h4 : getO l nm = none) (h5 : ¬ (m < 0 ∨ 2000 < m)) (h6 : m ≠ 0) (hL : SO w ao k0 cap zs l) : Calls Tryz.prog 29 #[.slice ao k0 cap, .int .i64 q, .string (bs nm), .int .i64 1, .int .i64 m] w (ResS 2 [] 0 w) := by
  have L := Lib.hid hL
  have B := Lib.hid (Below.refl w.heap.size w)

  have H := Lib.hid (And.intro h1 (findI_no h4))
  have HN := Lib.hid (fun W => refName_any nm (Nat.le_trans hnm (by omega)) W)
  rw [h2] at HN
  have HNW := Lib.hid (fun W => RNew_p (m := m) (pm := m) (c := 0) (new_m h5) (by rw [new_e, if_neg h5]) W)
  have d6 : (m != 0) = true := by simp [h6]
  clear h1 h2 h4 h5 h6
  clear hL

  go_enter Tryz.func29, Tryz.ntmps29
  go_wp2_with (go_at_call 18; refine (RRight_w H.out.1 L.out).mono ?_)
  rintro e wn ⟨rfl, hb⟩
  replace B := Lib.hid (below_more B.out hb)
  replace L := Lib.hid (L.out.more hb)
  clear hb
  go_wp2_with (go_at_call 16; refine (HN.out _).mono ?_)
  rintro e wn ⟨rfl, hb⟩
  replace B := Lib.hid (below_more B.out hb)
  replace L := Lib.hid (L.out.more hb)
  clear hb
  go_wp2_with (go_at_call 22; refine (RFind_w H.out.2 L.out).mono ?_)
  rintro e wn ⟨rfl, hb⟩
  replace B := Lib.hid (below_more B.out hb)
  replace L := Lib.hid (L.out.more hb)
  clear hb
  go_wp2_with (go_at_call 56; refine (HNW.out _).mono ?_)
  rintro e w2 ⟨va, vc, rfl, ⟨hT, _⟩, hb⟩
  have hN := Below.new w2 (.cells #[.int .i64 m, .slice va 0 vc] 53)
  replace B := Lib.hid (below_more (below_more B.out hb) hN)
  replace L := Lib.hid ((L.out.more hb).more hN)
  have T := Lib.hid (hT.more hN)
  obtain ⟨r0, r1, _, _⟩ := R2.new w2 (.int .i64 m) (.slice va 0 vc) 53
  obtain ⟨W3, hW3⟩ : ∃ W3, w2.alloc (.cells #[.int .i64 m, .slice va 0 vc] 53) = W3 := ⟨_, rfl⟩
  rw [hW3] at B L T r0 r1
  clear hT hb hN
  go_wp2
  refine bodyPost_ret (results_tmp2 rfl _ _ _) rfl ?_
  exact ⟨[], none, 0, rfl, SO.nil _, B.out⟩

set_option maxRecDepth 100000 in
set_option maxHeartbeats 8000000 in
theorem mkd_ok1 {nm : It} {q : Int} {a lo : List Ob} {kr : Nat} (hnm : nm.length ≤ 100000) (h1 : rightB l = true) (h2 : nameB nm = true) (h4 : getO l nm = none) (hlo : withL l (befN l nm) (befN l nm) [newO nm 1 0] = lo) (hr : roomR q lo = (c, a)) (hkr : a.length = kr) (hL : SO w ao k0 cap zs l) : Calls Tryz.prog 29 #[.slice ao k0 cap, .int .i64 q, .string (bs nm), .int .i64 1, .int .i64 0] w (ResS c a kr w) := by
  obtain ⟨i0, hin, hz0, hz1, hz2⟩ := info_parts infoO
  have L := Lib.hid hL
  have B := Lib.hid (Below.refl w.heap.size w)
  obtain ⟨p, hp⟩ : ∃ p, befN l nm = p := ⟨_, rfl⟩
  have hpk : p ≤ k0 := by rw [← hL.len, ← hp]; exact bef_le l nm
  have hsm := small_with (k := 1) (m := 0) h1 hnm (befN l nm)
  rw [hlo] at hsm
  rw [hp] at hlo
  have HLO := Lib.hid (And.intro hlo (And.intro hsm hr))
  have HKR := Lib.hid hkr
  have HP := Lib.hid hp
  have HSZ := Lib.hid (bs_size nm)
  have hkc := hL.o.hle
  have hk22 := hL.le

  have H := Lib.hid (And.intro h1 (findI_no h4))
  have HN := Lib.hid (fun W => refName_any nm (Nat.le_trans hnm (by omega)) W)
  rw [h2] at HN
  have HNW := Lib.hid (fun W => RNew_p (m := 0) (pm := 0) (c := 0) (new_m (by omega)) (by rw [new_e, if_neg (by omega)]) W)
  clear h1 h2 h4 hlo hsm hr hkr hp hL

  go_enter Tryz.func29, Tryz.ntmps29
  go_wp2_with (go_at_call 18; refine (RRight_w H.out.1 L.out).mono ?_)
  rintro e wn ⟨rfl, hb⟩
  replace B := Lib.hid (below_more B.out hb)
  replace L := Lib.hid (L.out.more hb)
  clear hb
  go_wp2_with (go_at_call 16; refine (HN.out _).mono ?_)
  rintro e wn ⟨rfl, hb⟩
  replace B := Lib.hid (below_more B.out hb)
  replace L := Lib.hid (L.out.more hb)
  clear hb
  go_wp2_with (go_at_call 22; refine (RFind_w H.out.2 L.out).mono ?_)
  rintro e wn ⟨rfl, hb⟩
  replace B := Lib.hid (below_more B.out hb)
  replace L := Lib.hid (L.out.more hb)
  clear hb
  go_wp2_with (go_at_call 56; refine (HNW.out _).mono ?_)
  rintro e w2 ⟨va, vc, rfl, ⟨hT, _⟩, hb⟩
  have hN := Below.new w2 (.cells #[.int .i64 0, .slice va 0 vc] 53)
  replace B := Lib.hid (below_more (below_more B.out hb) hN)
  replace L := Lib.hid ((L.out.more hb).more hN)
  have T := Lib.hid (hT.more hN)
  obtain ⟨r0, r1, _, _⟩ := R2.new w2 (.int .i64 0) (.slice va 0 vc) 53
  obtain ⟨W3, hW3⟩ : ∃ W3, w2.alloc (.cells #[.int .i64 0, .slice va 0 vc] 53) = W3 := ⟨_, rfl⟩
  rw [hW3] at B L T r0 r1
  clear hT hb hN

  obtain ⟨m2, hm2⟩ : ∃ m2, k0 - p = m2 := ⟨_, rfl⟩
  obtain ⟨a2, ha2⟩ : ∃ a2, fromO ao p cap = a2 := ⟨_, rfl⟩
  obtain ⟨c2, hc2⟩ : ∃ c2, cap - p = c2 := ⟨_, rfl⟩
  have hm22 : m2 ≤ 22 := by omega
  have u1 := slice_uptoO2 ao k0 cap p (by omega)
  have u2 := slice_fromO2 ao k0 cap p hpk
  rw [ha2, hm2, hc2] at u2
  have HEQ := Lib.hid (And.intro ha2 (And.intro hm2 hc2))
  clear ha2 hm2 hc2
  have R3 := Lib.hid (And.intro r0 r1)
  clear r0 r1
  go_wp2
  go_loopw [14] (fun v wr => ∃ i : Nat, i ≤ p ∧ v = .int .i64 i ∧ Below W3.heap.size W3 wr) (fun v _ => p + 1 - (intOf v).toNat)
  case atStart => exact ⟨0, Nat.zero_le _, rfl, Below.refl _ _⟩
  case round =>
    obtain ⟨i, hi, rfl, hB⟩ := hrel
    have HB := Lib.hid hB
    clear hB
    by_cases hip : i < p
    · obtain ⟨y, hy, hlt⟩ := bef_lt (l := l) (n := nm) (k := i) (by rw [HP.out]; exact hip)
      obtain ⟨b, off, x, rfl, hx, _, hc⟩ := (L.out.more HB.out).cell hy
      obtain ⟨q0, _, _, _, _⟩ := hc
      rw [hx] at q0
      have hbl : Op.bytesLess (bs y.n).toList (bs nm).toList = true := by rw [bs_toList, bs_toList]; exact hlt
      have hd1 : decide ((i : Int) < (k0 : Int)) = true := decide_eq_true (by omega)
      have i2 : (i : Int) < (k0 : Int) := by omega
      clear hx hy hlt
      go_wp2
      go_roundw
      case rel => exact ⟨i + 1, by omega, by simp, HB.out⟩
      case measure => simp [intOf]; omega
    · obtain rfl : i = p := by omega
      clear hip hi
      replace L := Lib.hid (L.out.more HB.out)
      replace B := Lib.hid (below_more B.out HB.out)
      replace T := Lib.hid (T.out.more HB.out)
      have r0 := cell_later HB.out R3.out.1
      have r1 := cell_later HB.out R3.out.2
      obtain ⟨ha2, hm2, hc2⟩ := HEQ.out
      have HE3 := Lib.hid (And.intro ha2 (And.intro hm2 hc2))
      clear ha2 hm2 hc2 HB
      by_cases hik : i < k0
      · obtain ⟨y, hy, hlt⟩ := bef_at (l := l) (n := nm) (by rw [HP.out, L.out.len]; exact hik)
        rw [HP.out] at hy
        obtain ⟨b, off, x, rfl, hx, _, hc⟩ := L.out.cell hy
        obtain ⟨q0, _, _, _, _⟩ := hc
        rw [hx] at q0
        have hbl : Op.bytesLess (bs y.n).toList (bs nm).toList = false := by rw [bs_toList, bs_toList]; exact hlt
        have hd1 : decide ((i : Int) < (k0 : Int)) = true := decide_eq_true (by omega)
        have i2 : (i : Int) < (k0 : Int) := by omega
        clear hx hy hlt
        go_wp2_with fail
        clear q0 hbl hd1
        obtain ⟨ha2, hm2, hc2⟩ := HE3.out
        have hT1 := L.out.o.take i cap (by omega) (by omega) (Nat.le_refl _)
        have hF1 := L.out.o.from i (by omega)
        rw [ha2, hm2, hc2] at hF1
        have HT := Lib.hid (And.intro hT1 hF1)
        have hlt1 : (ocl (zs.take i)).length = i * 5 := by rw [ocl_length, hT1.hlen]
        have hlf1 : (ocl (zs.drop i)).length = m2 * 5 := by rw [ocl_length, hF1.hlen]
        have HLL := Lib.hid (And.intro hlt1 hlf1)
        have hV0 : Below wr.heap.size wr wr.drew := (Below.refl _ wr).drew
        have hV1 : Below wr.heap.size wr (wr.alloc (.cells #[.string (bs nm), .int .i64 1, .string { data := #[] }, .int .i64 0, .slice va 0 vc] 55)).drew := (Below.new _ _).drew
        have HVV := Lib.hid (And.intro hV0 (And.intro hV1 hV1.size))
        have c0a : ∀ o, (wr.alloc o).cell? ⟨w2.heap.size, 0, none⟩ = some (.int .i64 0) := fun o => cell_later (Below.new _ _) r0
        have c1a : ∀ o, (wr.alloc o).cell? ⟨w2.heap.size, 1, none⟩ = some (.slice va 0 vc) := fun o => cell_later (Below.new _ _) r1
        have HI1 := Lib.hid (new_row wr nm 1 0 va vc)
        have hsz := HSZ.out
        clear hT1 hF1 hlt1 hlf1 hV0 hV1 ha2 hm2 hc2
        go_region_law (first
          | (refine step_append_some rfl (.tmp 62) (.tmp 65) 22 rfl wr.heap.size 55 i0 (.agg #[.string { data := #[] }, .int .i64 0, .string { data := #[] }, .int .i64 0, .slice none 0 0]) 5 72 Tryz.underlying22 hin hz0 hz1 hz2 rfl (by decide) (.slice none 0 0) 0 [] (by simp [Act.eval, Act.put]) (World.ownsRow_nil _ _ _ _) (some ⟨b, off, none⟩) i cap (ocl (zs.take i)) (by simp [Act.eval, Act.put]) HLL.out.1 (HT.out.1.more (by first | exact HVV.out.1 | exact HVV.out.2.1)).nones (HT.out.1.more (by first | exact HVV.out.1 | exact HVV.out.2.1)).news (ocl_cells _) (by unfold maxLen; omega) (by omega) (by first | exact HVV.out.1.size | exact HVV.out.2.2) ?_; rintro v1 w5 hA1; have hB5 := app_below (by first | exact HVV.out.1 | exact HVV.out.2.1) (World.ownsRow_nil _ _ _ _) hA1; obtain ⟨va1, vc1, rfl⟩ := row_slice hA1.1; have k0' := cell_later hB5 r0; have k1' := cell_later hB5 r1; have k0a := fun o => cell_later (Below.new w5 o) k0'; have k1a := fun o => cell_later (Below.new w5 o) k1')
          | (refine step_append_some rfl (.tmp 66) (.tmp 71) 22 rfl wr.heap.size 55 i0 (.agg #[.string { data := #[] }, .int .i64 0, .string { data := #[] }, .int .i64 0, .slice none 0 0]) 5 72 Tryz.underlying22 hin hz0 hz1 hz2 rfl (by decide) (.slice va1 (0 + i) vc1) (0 + i) ([] ++ ocl (zs.take i)) (by simp [Act.eval]) (row_more hA1.1 (Below.new _ _)) (some ⟨w5.heap.size, 0, none⟩) 1 1 (cells5 (⟨newO nm 1 0, va, vc⟩ : Ov)) (by simp [Act.eval]) rfl (fun h => by cases h) (fun ad e => by cases e; exact new_row w5 nm 1 0 va vc) (fun u hu => ocl_cells [(⟨newO nm 1 0, va, vc⟩ : Ov)] u (by rw [ocl_one]; exact hu)) (by unfold maxLen; omega) (by omega) (Nat.le_trans hB5.size (Below.new _ _).size) ?_; rintro v2 w6 hA2; have hB6 := app_below (below_more hB5 (Below.new _ _)) (row_more hA1.1 (Below.new _ _)) hA2; obtain ⟨va2, vc2, rfl⟩ := row_slice hA2.1)
          | (refine step_append_some rfl (.tmp 66) (.tmp 71) 22 rfl wr.heap.size 55 i0 (.agg #[.string { data := #[] }, .int .i64 0, .string { data := #[] }, .int .i64 0, .slice none 0 0]) 5 72 Tryz.underlying22 hin hz0 hz1 hz2 rfl (by decide) (.slice va1 (0 + i) vc1) (0 + i) ([] ++ ocl (zs.take i)) (by simp [Act.eval]) hA1.1 (some ⟨wr.heap.size, 0, none⟩) 1 1 (cells5 (⟨newO nm 1 0, va, vc⟩ : Ov)) (by simp [Act.eval]) rfl (fun h => by cases h) (fun ad e => by cases e; exact fun j u hj => (World.cell?_of_block (hA1.2.block _ (by simp [add_at]) (by simp [Value.ownBlock]))).trans (HI1.out j u hj)) (fun u hu => ocl_cells [(⟨newO nm 1 0, va, vc⟩ : Ov)] u (by rw [ocl_one]; exact hu)) (by unfold maxLen; omega) (by omega) hB5.size ?_; rintro v2 w6 hA2; have hB6 := app_below hB5 hA1.1 hA2; obtain ⟨va2, vc2, rfl⟩ := row_slice hA2.1)
          | (refine step_append_some rfl (.tmp 72) (.tmp 75) 22 rfl wr.heap.size 55 i0 (.agg #[.string { data := #[] }, .int .i64 0, .string { data := #[] }, .int .i64 0, .slice none 0 0]) 5 72 Tryz.underlying22 hin hz0 hz1 hz2 rfl (by decide) (.slice va2 (0 + i + 1) vc2) (0 + i + 1) ([] ++ ocl (zs.take i) ++ cells5 (⟨newO nm 1 0, va, vc⟩ : Ov)) (by simp [Act.eval]) hA2.1 a2 m2 c2 (ocl (zs.drop i)) (by simp [Act.eval]) HLL.out.2 (HT.out.2.more hB6).nones (HT.out.2.more hB6).news (ocl_cells _) (by unfold maxLen; omega) (by omega) hB6.size ?_; rintro v3 w7 hA3; have hB7 := app_below hB6 hA2.1 hA3; obtain ⟨va3, vc3, rfl⟩ := row_slice hA3.1))
        all_goals
          have hh := hA3.1
          rw [Nat.zero_add, List.nil_append, ← ocl_one, ← ocl_append, ← ocl_append] at hh
          have hlen : (zs.take i ++ [(⟨newO nm 1 0, va, vc⟩ : Ov)] ++ zs.drop i).length = i + 1 + m2 := by rw [List.length_append, List.length_append, HT.out.1.hlen, HT.out.2.hlen]; rfl
          have hO := (app_objs hh hlen).objs hlen (fun x hx => by
            rcases List.mem_append.1 hx with h | h
            · rcases List.mem_append.1 h with h | h
              · exact (HT.out.1.hrows x h).more hB7
              · obtain rfl : x = (⟨newO nm 1 0, va, vc⟩ : Ov) := by simpa using h
                exact ⟨T.out.more hB7, Nat.le_trans hnm (by omega), Nat.zero_le _⟩
            · exact (HT.out.2.hrows x h).more hB7)
          have A := Lib.hid (show SO w7 va3 (i + 1 + m2) vc3 (zs.take i ++ [(⟨newO nm 1 0, va, vc⟩ : Ov)] ++ zs.drop i) lo from ⟨by rw [withL_obs, L.out.e]; exact HLO.out.1, hO, HLO.out.2.1⟩)
          replace B := Lib.hid (below_more B.out hB7)
          clear hh hlen hO hA1 hA2 hA3 hB5 hB6 hB7 k0' k1' k0a k1a c0a c1a r0 r1
          by_cases g1 : 20 < i + 1 + m2
          · have e1 : decide (((i + 1 + m2 : Nat) : Int) > 20) = true := decide_eq_true (by omega)
            have e2 : decide ((i : Int) + 1 + (m2 : Int) > 20) = true := decide_eq_true (by omega)
            have HX := Lib.hid (show c = 104 ∧ a = [] by
              have h3 := HLO.out.2.2
              unfold roomR at h3
              rw [if_pos (.inl (by rw [A.out.len]; exact g1))] at h3
              exact ⟨(Prod.mk.inj h3).1.symm, (Prod.mk.inj h3).2.symm⟩)
            have HY := Lib.hid (show kr = 0 by rw [← HKR.out, HX.out.2]; rfl)
            clear g1
            go_wp2
            refine bodyPost_ret (results_tmp2 rfl _ _ _) rfl ?_
            obtain ⟨rfl, rfl⟩ := HX.out
            obtain rfl := HY.out
            exact ⟨[], none, 0, rfl, SO.nil _, B.out⟩
          · have e1 : decide (((i + 1 + m2 : Nat) : Int) > 20) = false := decide_eq_false (by omega)
            have e2 : decide ((i : Int) + 1 + (m2 : Int) > 20) = false := decide_eq_false (by omega)
            obtain ⟨cb, hcb⟩ : ∃ cb, costR lo = cb := ⟨_, rfl⟩
            have HC := Lib.hid hcb
            by_cases g2 : q < cb
            · have e3 : decide (cb > q) = true := decide_eq_true g2
              have HX := Lib.hid (show c = 104 ∧ a = [] by
                have h3 := HLO.out.2.2
                unfold roomR at h3
                rw [if_pos (.inr (by rw [hcb]; exact g2))] at h3
                exact ⟨(Prod.mk.inj h3).1.symm, (Prod.mk.inj h3).2.symm⟩)
              have HY := Lib.hid (show kr = 0 by rw [← HKR.out, HX.out.2]; rfl)
              clear g1 g2 hcb
              go_wp2_with (go_at_call 20; refine (RCost_w HC.out A.out).mono ?_)
              rintro e wn ⟨rfl, hb⟩
              replace B := Lib.hid (below_more B.out hb)
              clear hb
              go_wp2
              refine bodyPost_ret (results_tmp2 rfl _ _ _) rfl ?_
              obtain ⟨rfl, rfl⟩ := HX.out
              obtain rfl := HY.out
              exact ⟨[], none, 0, rfl, SO.nil _, B.out⟩
            · have e3 : decide (cb > q) = false := decide_eq_false g2
              have HX := Lib.hid (show c = 0 ∧ a = lo by
                have h3 := HLO.out.2.2
                unfold roomR at h3
                rw [if_neg (by rw [A.out.len, hcb]; omega)] at h3
                exact ⟨(Prod.mk.inj h3).1.symm, (Prod.mk.inj h3).2.symm⟩)
              have HY := Lib.hid (show kr = i + 1 + m2 by rw [← HKR.out, HX.out.2, A.out.len])
              clear g1 g2 hcb
              go_wp2_with (go_at_call 20; refine (RCost_w HC.out A.out).mono ?_)
              rintro e wn ⟨rfl, hb⟩
              replace B := Lib.hid (below_more B.out hb)
              replace A := Lib.hid (A.out.more hb)
              clear hb
              go_wp2
              refine bodyPost_ret (results_tmp2 rfl _ _ _) rfl ?_
              obtain ⟨rfl, rfl⟩ := HX.out
              obtain rfl := HY.out
              exact ⟨_, va3, vc3, rfl, A.out, B.out⟩
      · have hd1 : decide ((i : Int) < (k0 : Int)) = false := decide_eq_false (by omega)
        go_wp2_with fail
        clear hd1
        obtain ⟨ha2, hm2, hc2⟩ := HE3.out
        have hT1 := L.out.o.take i cap (by omega) (by omega) (Nat.le_refl _)
        have hF1 := L.out.o.from i (by omega)
        rw [ha2, hm2, hc2] at hF1
        have HT := Lib.hid (And.intro hT1 hF1)
        have hlt1 : (ocl (zs.take i)).length = i * 5 := by rw [ocl_length, hT1.hlen]
        have hlf1 : (ocl (zs.drop i)).length = m2 * 5 := by rw [ocl_length, hF1.hlen]
        have HLL := Lib.hid (And.intro hlt1 hlf1)
        have hV0 : Below wr.heap.size wr wr.drew := (Below.refl _ wr).drew
        have hV1 : Below wr.heap.size wr (wr.alloc (.cells #[.string (bs nm), .int .i64 1, .string { data := #[] }, .int .i64 0, .slice va 0 vc] 55)).drew := (Below.new _ _).drew
        have HVV := Lib.hid (And.intro hV0 (And.intro hV1 hV1.size))
        have c0a : ∀ o, (wr.alloc o).cell? ⟨w2.heap.size, 0, none⟩ = some (.int .i64 0) := fun o => cell_later (Below.new _ _) r0
        have c1a : ∀ o, (wr.alloc o).cell? ⟨w2.heap.size, 1, none⟩ = some (.slice va 0 vc) := fun o => cell_later (Below.new _ _) r1
        have HI1 := Lib.hid (new_row wr nm 1 0 va vc)
        have hsz := HSZ.out
        clear hT1 hF1 hlt1 hlf1 hV0 hV1 ha2 hm2 hc2
        go_region_law (first
          | (refine step_append_some rfl (.tmp 62) (.tmp 65) 22 rfl wr.heap.size 55 i0 (.agg #[.string { data := #[] }, .int .i64 0, .string { data := #[] }, .int .i64 0, .slice none 0 0]) 5 72 Tryz.underlying22 hin hz0 hz1 hz2 rfl (by decide) (.slice none 0 0) 0 [] (by simp [Act.eval, Act.put]) (World.ownsRow_nil _ _ _ _) ao i cap (ocl (zs.take i)) (by simp [Act.eval, Act.put]) HLL.out.1 (HT.out.1.more (by first | exact HVV.out.1 | exact HVV.out.2.1)).nones (HT.out.1.more (by first | exact HVV.out.1 | exact HVV.out.2.1)).news (ocl_cells _) (by unfold maxLen; omega) (by omega) (by first | exact HVV.out.1.size | exact HVV.out.2.2) ?_; rintro v1 w5 hA1; have hB5 := app_below (by first | exact HVV.out.1 | exact HVV.out.2.1) (World.ownsRow_nil _ _ _ _) hA1; obtain ⟨va1, vc1, rfl⟩ := row_slice hA1.1; have k0' := cell_later hB5 r0; have k1' := cell_later hB5 r1; have k0a := fun o => cell_later (Below.new w5 o) k0'; have k1a := fun o => cell_later (Below.new w5 o) k1')
          | (refine step_append_some rfl (.tmp 66) (.tmp 71) 22 rfl wr.heap.size 55 i0 (.agg #[.string { data := #[] }, .int .i64 0, .string { data := #[] }, .int .i64 0, .slice none 0 0]) 5 72 Tryz.underlying22 hin hz0 hz1 hz2 rfl (by decide) (.slice va1 (0 + i) vc1) (0 + i) ([] ++ ocl (zs.take i)) (by simp [Act.eval]) (row_more hA1.1 (Below.new _ _)) (some ⟨w5.heap.size, 0, none⟩) 1 1 (cells5 (⟨newO nm 1 0, va, vc⟩ : Ov)) (by simp [Act.eval]) rfl (fun h => by cases h) (fun ad e => by cases e; exact new_row w5 nm 1 0 va vc) (fun u hu => ocl_cells [(⟨newO nm 1 0, va, vc⟩ : Ov)] u (by rw [ocl_one]; exact hu)) (by unfold maxLen; omega) (by omega) (Nat.le_trans hB5.size (Below.new _ _).size) ?_; rintro v2 w6 hA2; have hB6 := app_below (below_more hB5 (Below.new _ _)) (row_more hA1.1 (Below.new _ _)) hA2; obtain ⟨va2, vc2, rfl⟩ := row_slice hA2.1)
          | (refine step_append_some rfl (.tmp 66) (.tmp 71) 22 rfl wr.heap.size 55 i0 (.agg #[.string { data := #[] }, .int .i64 0, .string { data := #[] }, .int .i64 0, .slice none 0 0]) 5 72 Tryz.underlying22 hin hz0 hz1 hz2 rfl (by decide) (.slice va1 (0 + i) vc1) (0 + i) ([] ++ ocl (zs.take i)) (by simp [Act.eval]) hA1.1 (some ⟨wr.heap.size, 0, none⟩) 1 1 (cells5 (⟨newO nm 1 0, va, vc⟩ : Ov)) (by simp [Act.eval]) rfl (fun h => by cases h) (fun ad e => by cases e; exact fun j u hj => (World.cell?_of_block (hA1.2.block _ (by simp [add_at]) (by simp [Value.ownBlock]))).trans (HI1.out j u hj)) (fun u hu => ocl_cells [(⟨newO nm 1 0, va, vc⟩ : Ov)] u (by rw [ocl_one]; exact hu)) (by unfold maxLen; omega) (by omega) hB5.size ?_; rintro v2 w6 hA2; have hB6 := app_below hB5 hA1.1 hA2; obtain ⟨va2, vc2, rfl⟩ := row_slice hA2.1)
          | (refine step_append_some rfl (.tmp 72) (.tmp 75) 22 rfl wr.heap.size 55 i0 (.agg #[.string { data := #[] }, .int .i64 0, .string { data := #[] }, .int .i64 0, .slice none 0 0]) 5 72 Tryz.underlying22 hin hz0 hz1 hz2 rfl (by decide) (.slice va2 (0 + i + 1) vc2) (0 + i + 1) ([] ++ ocl (zs.take i) ++ cells5 (⟨newO nm 1 0, va, vc⟩ : Ov)) (by simp [Act.eval]) hA2.1 a2 m2 c2 (ocl (zs.drop i)) (by simp [Act.eval]) HLL.out.2 (HT.out.2.more hB6).nones (HT.out.2.more hB6).news (ocl_cells _) (by unfold maxLen; omega) (by omega) hB6.size ?_; rintro v3 w7 hA3; have hB7 := app_below hB6 hA2.1 hA3; obtain ⟨va3, vc3, rfl⟩ := row_slice hA3.1))
        all_goals
          have hh := hA3.1
          rw [Nat.zero_add, List.nil_append, ← ocl_one, ← ocl_append, ← ocl_append] at hh
          have hlen : (zs.take i ++ [(⟨newO nm 1 0, va, vc⟩ : Ov)] ++ zs.drop i).length = i + 1 + m2 := by rw [List.length_append, List.length_append, HT.out.1.hlen, HT.out.2.hlen]; rfl
          have hO := (app_objs hh hlen).objs hlen (fun x hx => by
            rcases List.mem_append.1 hx with h | h
            · rcases List.mem_append.1 h with h | h
              · exact (HT.out.1.hrows x h).more hB7
              · obtain rfl : x = (⟨newO nm 1 0, va, vc⟩ : Ov) := by simpa using h
                exact ⟨T.out.more hB7, Nat.le_trans hnm (by omega), Nat.zero_le _⟩
            · exact (HT.out.2.hrows x h).more hB7)
          have A := Lib.hid (show SO w7 va3 (i + 1 + m2) vc3 (zs.take i ++ [(⟨newO nm 1 0, va, vc⟩ : Ov)] ++ zs.drop i) lo from ⟨by rw [withL_obs, L.out.e]; exact HLO.out.1, hO, HLO.out.2.1⟩)
          replace B := Lib.hid (below_more B.out hB7)
          clear hh hlen hO hA1 hA2 hA3 hB5 hB6 hB7 k0' k1' k0a k1a c0a c1a r0 r1
          by_cases g1 : 20 < i + 1 + m2
          · have e1 : decide (((i + 1 + m2 : Nat) : Int) > 20) = true := decide_eq_true (by omega)
            have e2 : decide ((i : Int) + 1 + (m2 : Int) > 20) = true := decide_eq_true (by omega)
            have HX := Lib.hid (show c = 104 ∧ a = [] by
              have h3 := HLO.out.2.2
              unfold roomR at h3
              rw [if_pos (.inl (by rw [A.out.len]; exact g1))] at h3
              exact ⟨(Prod.mk.inj h3).1.symm, (Prod.mk.inj h3).2.symm⟩)
            have HY := Lib.hid (show kr = 0 by rw [← HKR.out, HX.out.2]; rfl)
            clear g1
            go_wp2
            refine bodyPost_ret (results_tmp2 rfl _ _ _) rfl ?_
            obtain ⟨rfl, rfl⟩ := HX.out
            obtain rfl := HY.out
            exact ⟨[], none, 0, rfl, SO.nil _, B.out⟩
          · have e1 : decide (((i + 1 + m2 : Nat) : Int) > 20) = false := decide_eq_false (by omega)
            have e2 : decide ((i : Int) + 1 + (m2 : Int) > 20) = false := decide_eq_false (by omega)
            obtain ⟨cb, hcb⟩ : ∃ cb, costR lo = cb := ⟨_, rfl⟩
            have HC := Lib.hid hcb
            by_cases g2 : q < cb
            · have e3 : decide (cb > q) = true := decide_eq_true g2
              have HX := Lib.hid (show c = 104 ∧ a = [] by
                have h3 := HLO.out.2.2
                unfold roomR at h3
                rw [if_pos (.inr (by rw [hcb]; exact g2))] at h3
                exact ⟨(Prod.mk.inj h3).1.symm, (Prod.mk.inj h3).2.symm⟩)
              have HY := Lib.hid (show kr = 0 by rw [← HKR.out, HX.out.2]; rfl)
              clear g1 g2 hcb
              go_wp2_with (go_at_call 20; refine (RCost_w HC.out A.out).mono ?_)
              rintro e wn ⟨rfl, hb⟩
              replace B := Lib.hid (below_more B.out hb)
              clear hb
              go_wp2
              refine bodyPost_ret (results_tmp2 rfl _ _ _) rfl ?_
              obtain ⟨rfl, rfl⟩ := HX.out
              obtain rfl := HY.out
              exact ⟨[], none, 0, rfl, SO.nil _, B.out⟩
            · have e3 : decide (cb > q) = false := decide_eq_false g2
              have HX := Lib.hid (show c = 0 ∧ a = lo by
                have h3 := HLO.out.2.2
                unfold roomR at h3
                rw [if_neg (by rw [A.out.len, hcb]; omega)] at h3
                exact ⟨(Prod.mk.inj h3).1.symm, (Prod.mk.inj h3).2.symm⟩)
              have HY := Lib.hid (show kr = i + 1 + m2 by rw [← HKR.out, HX.out.2, A.out.len])
              clear g1 g2 hcb
              go_wp2_with (go_at_call 20; refine (RCost_w HC.out A.out).mono ?_)
              rintro e wn ⟨rfl, hb⟩
              replace B := Lib.hid (below_more B.out hb)
              replace A := Lib.hid (A.out.more hb)
              clear hb
              go_wp2
              refine bodyPost_ret (results_tmp2 rfl _ _ _) rfl ?_
              obtain ⟨rfl, rfl⟩ := HX.out
              obtain rfl := HY.out
              exact ⟨_, va3, vc3, rfl, A.out, B.out⟩

set_option maxRecDepth 100000 in
set_option maxHeartbeats 8000000 in
theorem mkd_ok2 {nm : It} {q m : Int} {a lo : List Ob} {kr : Nat} (hnm : nm.length ≤ 100000) (h1 : rightB l = true) (h2 : nameB nm = true) (h4 : getO l nm = none) (h5 : ¬ (m < 0 ∨ 2000 < m)) (hlo : withL l (befN l nm) (befN l nm) [newO nm 2 m] = lo) (hr : roomR q lo = (c, a)) (hkr : a.length = kr) (hL : SO w ao k0 cap zs l) : Calls Tryz.prog 29 #[.slice ao k0 cap, .int .i64 q, .string (bs nm), .int .i64 2, .int .i64 m] w (ResS c a kr w) := by
  obtain ⟨i0, hin, hz0, hz1, hz2⟩ := info_parts infoO
  have L := Lib.hid hL
  have B := Lib.hid (Below.refl w.heap.size w)
  obtain ⟨p, hp⟩ : ∃ p, befN l nm = p := ⟨_, rfl⟩
  have hpk : p ≤ k0 := by rw [← hL.len, ← hp]; exact bef_le l nm
  have hsm := small_with (k := 2) (m := m) h1 hnm (befN l nm)
  rw [hlo] at hsm
  rw [hp] at hlo
  have HLO := Lib.hid (And.intro hlo (And.intro hsm hr))
  have HKR := Lib.hid hkr
  have HP := Lib.hid hp
  have HSZ := Lib.hid (bs_size nm)
  have hkc := hL.o.hle
  have hk22 := hL.le

  have H := Lib.hid (And.intro h1 (findI_no h4))
  have HN := Lib.hid (fun W => refName_any nm (Nat.le_trans hnm (by omega)) W)
  rw [h2] at HN
  have HNW := Lib.hid (fun W => RNew_p (m := m) (pm := m) (c := 0) (new_m h5) (by rw [new_e, if_neg h5]) W)
  clear h1 h2 h4 hlo hsm hr hkr hp hL h5

  go_enter Tryz.func29, Tryz.ntmps29
  go_wp2_with (go_at_call 18; refine (RRight_w H.out.1 L.out).mono ?_)
  rintro e wn ⟨rfl, hb⟩
  replace B := Lib.hid (below_more B.out hb)
  replace L := Lib.hid (L.out.more hb)
  clear hb
  go_wp2_with (go_at_call 16; refine (HN.out _).mono ?_)
  rintro e wn ⟨rfl, hb⟩
  replace B := Lib.hid (below_more B.out hb)
  replace L := Lib.hid (L.out.more hb)
  clear hb
  go_wp2_with (go_at_call 22; refine (RFind_w H.out.2 L.out).mono ?_)
  rintro e wn ⟨rfl, hb⟩
  replace B := Lib.hid (below_more B.out hb)
  replace L := Lib.hid (L.out.more hb)
  clear hb
  go_wp2_with (go_at_call 56; refine (HNW.out _).mono ?_)
  rintro e w2 ⟨va, vc, rfl, ⟨hT, _⟩, hb⟩
  have hN := Below.new w2 (.cells #[.int .i64 m, .slice va 0 vc] 53)
  replace B := Lib.hid (below_more (below_more B.out hb) hN)
  replace L := Lib.hid ((L.out.more hb).more hN)
  have T := Lib.hid (hT.more hN)
  obtain ⟨r0, r1, _, _⟩ := R2.new w2 (.int .i64 m) (.slice va 0 vc) 53
  obtain ⟨W3, hW3⟩ : ∃ W3, w2.alloc (.cells #[.int .i64 m, .slice va 0 vc] 53) = W3 := ⟨_, rfl⟩
  rw [hW3] at B L T r0 r1
  clear hT hb hN

  obtain ⟨m2, hm2⟩ : ∃ m2, k0 - p = m2 := ⟨_, rfl⟩
  obtain ⟨a2, ha2⟩ : ∃ a2, fromO ao p cap = a2 := ⟨_, rfl⟩
  obtain ⟨c2, hc2⟩ : ∃ c2, cap - p = c2 := ⟨_, rfl⟩
  have hm22 : m2 ≤ 22 := by omega
  have u1 := slice_uptoO2 ao k0 cap p (by omega)
  have u2 := slice_fromO2 ao k0 cap p hpk
  rw [ha2, hm2, hc2] at u2
  have HEQ := Lib.hid (And.intro ha2 (And.intro hm2 hc2))
  clear ha2 hm2 hc2
  have R3 := Lib.hid (And.intro r0 r1)
  clear r0 r1
  go_wp2
  go_loopw [14] (fun v wr => ∃ i : Nat, i ≤ p ∧ v = .int .i64 i ∧ Below W3.heap.size W3 wr) (fun v _ => p + 1 - (intOf v).toNat)
  case atStart => exact ⟨0, Nat.zero_le _, rfl, Below.refl _ _⟩
  case round =>
    obtain ⟨i, hi, rfl, hB⟩ := hrel
    have HB := Lib.hid hB
    clear hB
    by_cases hip : i < p
    · obtain ⟨y, hy, hlt⟩ := bef_lt (l := l) (n := nm) (k := i) (by rw [HP.out]; exact hip)
      obtain ⟨b, off, x, rfl, hx, _, hc⟩ := (L.out.more HB.out).cell hy
      obtain ⟨q0, _, _, _, _⟩ := hc
      rw [hx] at q0
      have hbl : Op.bytesLess (bs y.n).toList (bs nm).toList = true := by rw [bs_toList, bs_toList]; exact hlt
      have hd1 : decide ((i : Int) < (k0 : Int)) = true := decide_eq_true (by omega)
      have i2 : (i : Int) < (k0 : Int) := by omega
      clear hx hy hlt
      go_wp2
      go_roundw
      case rel => exact ⟨i + 1, by omega, by simp, HB.out⟩
      case measure => simp [intOf]; omega
    · obtain rfl : i = p := by omega
      clear hip hi
      replace L := Lib.hid (L.out.more HB.out)
      replace B := Lib.hid (below_more B.out HB.out)
      replace T := Lib.hid (T.out.more HB.out)
      have r0 := cell_later HB.out R3.out.1
      have r1 := cell_later HB.out R3.out.2
      obtain ⟨ha2, hm2, hc2⟩ := HEQ.out
      have HE3 := Lib.hid (And.intro ha2 (And.intro hm2 hc2))
      clear ha2 hm2 hc2 HB
      by_cases hik : i < k0
      · obtain ⟨y, hy, hlt⟩ := bef_at (l := l) (n := nm) (by rw [HP.out, L.out.len]; exact hik)
        rw [HP.out] at hy
        obtain ⟨b, off, x, rfl, hx, _, hc⟩ := L.out.cell hy
        obtain ⟨q0, _, _, _, _⟩ := hc
        rw [hx] at q0
        have hbl : Op.bytesLess (bs y.n).toList (bs nm).toList = false := by rw [bs_toList, bs_toList]; exact hlt
        have hd1 : decide ((i : Int) < (k0 : Int)) = true := decide_eq_true (by omega)
        have i2 : (i : Int) < (k0 : Int) := by omega
        clear hx hy hlt
        go_wp2_with fail
        clear q0 hbl hd1
        obtain ⟨ha2, hm2, hc2⟩ := HE3.out
        have hT1 := L.out.o.take i cap (by omega) (by omega) (Nat.le_refl _)
        have hF1 := L.out.o.from i (by omega)
        rw [ha2, hm2, hc2] at hF1
        have HT := Lib.hid (And.intro hT1 hF1)
        have hlt1 : (ocl (zs.take i)).length = i * 5 := by rw [ocl_length, hT1.hlen]
        have hlf1 : (ocl (zs.drop i)).length = m2 * 5 := by rw [ocl_length, hF1.hlen]
        have HLL := Lib.hid (And.intro hlt1 hlf1)
        have hV0 : Below wr.heap.size wr wr.drew := (Below.refl _ wr).drew
        have hV1 : Below wr.heap.size wr (wr.alloc (.cells #[.string (bs nm), .int .i64 2, .string { data := #[] }, .int .i64 m, .slice va 0 vc] 55)).drew := (Below.new _ _).drew
        have HVV := Lib.hid (And.intro hV0 (And.intro hV1 hV1.size))
        have c0a : ∀ o, (wr.alloc o).cell? ⟨w2.heap.size, 0, none⟩ = some (.int .i64 m) := fun o => cell_later (Below.new _ _) r0
        have c1a : ∀ o, (wr.alloc o).cell? ⟨w2.heap.size, 1, none⟩ = some (.slice va 0 vc) := fun o => cell_later (Below.new _ _) r1
        have HI1 := Lib.hid (new_row wr nm 2 m va vc)
        have hsz := HSZ.out
        clear hT1 hF1 hlt1 hlf1 hV0 hV1 ha2 hm2 hc2
        go_region_law (first
          | (refine step_append_some rfl (.tmp 62) (.tmp 65) 22 rfl wr.heap.size 55 i0 (.agg #[.string { data := #[] }, .int .i64 0, .string { data := #[] }, .int .i64 0, .slice none 0 0]) 5 72 Tryz.underlying22 hin hz0 hz1 hz2 rfl (by decide) (.slice none 0 0) 0 [] (by simp [Act.eval, Act.put]) (World.ownsRow_nil _ _ _ _) (some ⟨b, off, none⟩) i cap (ocl (zs.take i)) (by simp [Act.eval, Act.put]) HLL.out.1 (HT.out.1.more (by first | exact HVV.out.1 | exact HVV.out.2.1)).nones (HT.out.1.more (by first | exact HVV.out.1 | exact HVV.out.2.1)).news (ocl_cells _) (by unfold maxLen; omega) (by omega) (by first | exact HVV.out.1.size | exact HVV.out.2.2) ?_; rintro v1 w5 hA1; have hB5 := app_below (by first | exact HVV.out.1 | exact HVV.out.2.1) (World.ownsRow_nil _ _ _ _) hA1; obtain ⟨va1, vc1, rfl⟩ := row_slice hA1.1; have k0' := cell_later hB5 r0; have k1' := cell_later hB5 r1; have k0a := fun o => cell_later (Below.new w5 o) k0'; have k1a := fun o => cell_later (Below.new w5 o) k1')
          | (refine step_append_some rfl (.tmp 66) (.tmp 71) 22 rfl wr.heap.size 55 i0 (.agg #[.string { data := #[] }, .int .i64 0, .string { data := #[] }, .int .i64 0, .slice none 0 0]) 5 72 Tryz.underlying22 hin hz0 hz1 hz2 rfl (by decide) (.slice va1 (0 + i) vc1) (0 + i) ([] ++ ocl (zs.take i)) (by simp [Act.eval]) (row_more hA1.1 (Below.new _ _)) (some ⟨w5.heap.size, 0, none⟩) 1 1 (cells5 (⟨newO nm 2 m, va, vc⟩ : Ov)) (by simp [Act.eval]) rfl (fun h => by cases h) (fun ad e => by cases e; exact new_row w5 nm 2 m va vc) (fun u hu => ocl_cells [(⟨newO nm 2 m, va, vc⟩ : Ov)] u (by rw [ocl_one]; exact hu)) (by unfold maxLen; omega) (by omega) (Nat.le_trans hB5.size (Below.new _ _).size) ?_; rintro v2 w6 hA2; have hB6 := app_below (below_more hB5 (Below.new _ _)) (row_more hA1.1 (Below.new _ _)) hA2; obtain ⟨va2, vc2, rfl⟩ := row_slice hA2.1)
          | (refine step_append_some rfl (.tmp 66) (.tmp 71) 22 rfl wr.heap.size 55 i0 (.agg #[.string { data := #[] }, .int .i64 0, .string { data := #[] }, .int .i64 0, .slice none 0 0]) 5 72 Tryz.underlying22 hin hz0 hz1 hz2 rfl (by decide) (.slice va1 (0 + i) vc1) (0 + i) ([] ++ ocl (zs.take i)) (by simp [Act.eval]) hA1.1 (some ⟨wr.heap.size, 0, none⟩) 1 1 (cells5 (⟨newO nm 2 m, va, vc⟩ : Ov)) (by simp [Act.eval]) rfl (fun h => by cases h) (fun ad e => by cases e; exact fun j u hj => (World.cell?_of_block (hA1.2.block _ (by simp [add_at]) (by simp [Value.ownBlock]))).trans (HI1.out j u hj)) (fun u hu => ocl_cells [(⟨newO nm 2 m, va, vc⟩ : Ov)] u (by rw [ocl_one]; exact hu)) (by unfold maxLen; omega) (by omega) hB5.size ?_; rintro v2 w6 hA2; have hB6 := app_below hB5 hA1.1 hA2; obtain ⟨va2, vc2, rfl⟩ := row_slice hA2.1)
          | (refine step_append_some rfl (.tmp 72) (.tmp 75) 22 rfl wr.heap.size 55 i0 (.agg #[.string { data := #[] }, .int .i64 0, .string { data := #[] }, .int .i64 0, .slice none 0 0]) 5 72 Tryz.underlying22 hin hz0 hz1 hz2 rfl (by decide) (.slice va2 (0 + i + 1) vc2) (0 + i + 1) ([] ++ ocl (zs.take i) ++ cells5 (⟨newO nm 2 m, va, vc⟩ : Ov)) (by simp [Act.eval]) hA2.1 a2 m2 c2 (ocl (zs.drop i)) (by simp [Act.eval]) HLL.out.2 (HT.out.2.more hB6).nones (HT.out.2.more hB6).news (ocl_cells _) (by unfold maxLen; omega) (by omega) hB6.size ?_; rintro v3 w7 hA3; have hB7 := app_below hB6 hA2.1 hA3; obtain ⟨va3, vc3, rfl⟩ := row_slice hA3.1))
        all_goals
          have hh := hA3.1
          rw [Nat.zero_add, List.nil_append, ← ocl_one, ← ocl_append, ← ocl_append] at hh
          have hlen : (zs.take i ++ [(⟨newO nm 2 m, va, vc⟩ : Ov)] ++ zs.drop i).length = i + 1 + m2 := by rw [List.length_append, List.length_append, HT.out.1.hlen, HT.out.2.hlen]; rfl
          have hO := (app_objs hh hlen).objs hlen (fun x hx => by
            rcases List.mem_append.1 hx with h | h
            · rcases List.mem_append.1 h with h | h
              · exact (HT.out.1.hrows x h).more hB7
              · obtain rfl : x = (⟨newO nm 2 m, va, vc⟩ : Ov) := by simpa using h
                exact ⟨T.out.more hB7, Nat.le_trans hnm (by omega), Nat.zero_le _⟩
            · exact (HT.out.2.hrows x h).more hB7)
          have A := Lib.hid (show SO w7 va3 (i + 1 + m2) vc3 (zs.take i ++ [(⟨newO nm 2 m, va, vc⟩ : Ov)] ++ zs.drop i) lo from ⟨by rw [withL_obs, L.out.e]; exact HLO.out.1, hO, HLO.out.2.1⟩)
          replace B := Lib.hid (below_more B.out hB7)
          clear hh hlen hO hA1 hA2 hA3 hB5 hB6 hB7 k0' k1' k0a k1a c0a c1a r0 r1
          by_cases g1 : 20 < i + 1 + m2
          · have e1 : decide (((i + 1 + m2 : Nat) : Int) > 20) = true := decide_eq_true (by omega)
            have e2 : decide ((i : Int) + 1 + (m2 : Int) > 20) = true := decide_eq_true (by omega)
            have HX := Lib.hid (show c = 104 ∧ a = [] by
              have h3 := HLO.out.2.2
              unfold roomR at h3
              rw [if_pos (.inl (by rw [A.out.len]; exact g1))] at h3
              exact ⟨(Prod.mk.inj h3).1.symm, (Prod.mk.inj h3).2.symm⟩)
            have HY := Lib.hid (show kr = 0 by rw [← HKR.out, HX.out.2]; rfl)
            clear g1
            go_wp2
            refine bodyPost_ret (results_tmp2 rfl _ _ _) rfl ?_
            obtain ⟨rfl, rfl⟩ := HX.out
            obtain rfl := HY.out
            exact ⟨[], none, 0, rfl, SO.nil _, B.out⟩
          · have e1 : decide (((i + 1 + m2 : Nat) : Int) > 20) = false := decide_eq_false (by omega)
            have e2 : decide ((i : Int) + 1 + (m2 : Int) > 20) = false := decide_eq_false (by omega)
            obtain ⟨cb, hcb⟩ : ∃ cb, costR lo = cb := ⟨_, rfl⟩
            have HC := Lib.hid hcb
            by_cases g2 : q < cb
            · have e3 : decide (cb > q) = true := decide_eq_true g2
              have HX := Lib.hid (show c = 104 ∧ a = [] by
                have h3 := HLO.out.2.2
                unfold roomR at h3
                rw [if_pos (.inr (by rw [hcb]; exact g2))] at h3
                exact ⟨(Prod.mk.inj h3).1.symm, (Prod.mk.inj h3).2.symm⟩)
              have HY := Lib.hid (show kr = 0 by rw [← HKR.out, HX.out.2]; rfl)
              clear g1 g2 hcb
              go_wp2_with (go_at_call 20; refine (RCost_w HC.out A.out).mono ?_)
              rintro e wn ⟨rfl, hb⟩
              replace B := Lib.hid (below_more B.out hb)
              clear hb
              go_wp2
              refine bodyPost_ret (results_tmp2 rfl _ _ _) rfl ?_
              obtain ⟨rfl, rfl⟩ := HX.out
              obtain rfl := HY.out
              exact ⟨[], none, 0, rfl, SO.nil _, B.out⟩
            · have e3 : decide (cb > q) = false := decide_eq_false g2
              have HX := Lib.hid (show c = 0 ∧ a = lo by
                have h3 := HLO.out.2.2
                unfold roomR at h3
                rw [if_neg (by rw [A.out.len, hcb]; omega)] at h3
                exact ⟨(Prod.mk.inj h3).1.symm, (Prod.mk.inj h3).2.symm⟩)
              have HY := Lib.hid (show kr = i + 1 + m2 by rw [← HKR.out, HX.out.2, A.out.len])
              clear g1 g2 hcb
              go_wp2_with (go_at_call 20; refine (RCost_w HC.out A.out).mono ?_)
              rintro e wn ⟨rfl, hb⟩
              replace B := Lib.hid (below_more B.out hb)
              replace A := Lib.hid (A.out.more hb)
              clear hb
              go_wp2
              refine bodyPost_ret (results_tmp2 rfl _ _ _) rfl ?_
              obtain ⟨rfl, rfl⟩ := HX.out
              obtain rfl := HY.out
              exact ⟨_, va3, vc3, rfl, A.out, B.out⟩
      · have hd1 : decide ((i : Int) < (k0 : Int)) = false := decide_eq_false (by omega)
        go_wp2_with fail
        clear hd1
        obtain ⟨ha2, hm2, hc2⟩ := HE3.out
        have hT1 := L.out.o.take i cap (by omega) (by omega) (Nat.le_refl _)
        have hF1 := L.out.o.from i (by omega)
        rw [ha2, hm2, hc2] at hF1
        have HT := Lib.hid (And.intro hT1 hF1)
        have hlt1 : (ocl (zs.take i)).length = i * 5 := by rw [ocl_length, hT1.hlen]
        have hlf1 : (ocl (zs.drop i)).length = m2 * 5 := by rw [ocl_length, hF1.hlen]
        have HLL := Lib.hid (And.intro hlt1 hlf1)
        have hV0 : Below wr.heap.size wr wr.drew := (Below.refl _ wr).drew
        have hV1 : Below wr.heap.size wr (wr.alloc (.cells #[.string (bs nm), .int .i64 2, .string { data := #[] }, .int .i64 m, .slice va 0 vc] 55)).drew := (Below.new _ _).drew
        have HVV := Lib.hid (And.intro hV0 (And.intro hV1 hV1.size))
        have c0a : ∀ o, (wr.alloc o).cell? ⟨w2.heap.size, 0, none⟩ = some (.int .i64 m) := fun o => cell_later (Below.new _ _) r0
        have c1a : ∀ o, (wr.alloc o).cell? ⟨w2.heap.size, 1, none⟩ = some (.slice va 0 vc) := fun o => cell_later (Below.new _ _) r1
        have HI1 := Lib.hid (new_row wr nm 2 m va vc)
        have hsz := HSZ.out
        clear hT1 hF1 hlt1 hlf1 hV0 hV1 ha2 hm2 hc2
        go_region_law (first
          | (refine step_append_some rfl (.tmp 62) (.tmp 65) 22 rfl wr.heap.size 55 i0 (.agg #[.string { data := #[] }, .int .i64 0, .string { data := #[] }, .int .i64 0, .slice none 0 0]) 5 72 Tryz.underlying22 hin hz0 hz1 hz2 rfl (by decide) (.slice none 0 0) 0 [] (by simp [Act.eval, Act.put]) (World.ownsRow_nil _ _ _ _) ao i cap (ocl (zs.take i)) (by simp [Act.eval, Act.put]) HLL.out.1 (HT.out.1.more (by first | exact HVV.out.1 | exact HVV.out.2.1)).nones (HT.out.1.more (by first | exact HVV.out.1 | exact HVV.out.2.1)).news (ocl_cells _) (by unfold maxLen; omega) (by omega) (by first | exact HVV.out.1.size | exact HVV.out.2.2) ?_; rintro v1 w5 hA1; have hB5 := app_below (by first | exact HVV.out.1 | exact HVV.out.2.1) (World.ownsRow_nil _ _ _ _) hA1; obtain ⟨va1, vc1, rfl⟩ := row_slice hA1.1; have k0' := cell_later hB5 r0; have k1' := cell_later hB5 r1; have k0a := fun o => cell_later (Below.new w5 o) k0'; have k1a := fun o => cell_later (Below.new w5 o) k1')
          | (refine step_append_some rfl (.tmp 66) (.tmp 71) 22 rfl wr.heap.size 55 i0 (.agg #[.string { data := #[] }, .int .i64 0, .string { data := #[] }, .int .i64 0, .slice none 0 0]) 5 72 Tryz.underlying22 hin hz0 hz1 hz2 rfl (by decide) (.slice va1 (0 + i) vc1) (0 + i) ([] ++ ocl (zs.take i)) (by simp [Act.eval]) (row_more hA1.1 (Below.new _ _)) (some ⟨w5.heap.size, 0, none⟩) 1 1 (cells5 (⟨newO nm 2 m, va, vc⟩ : Ov)) (by simp [Act.eval]) rfl (fun h => by cases h) (fun ad e => by cases e; exact new_row w5 nm 2 m va vc) (fun u hu => ocl_cells [(⟨newO nm 2 m, va, vc⟩ : Ov)] u (by rw [ocl_one]; exact hu)) (by unfold maxLen; omega) (by omega) (Nat.le_trans hB5.size (Below.new _ _).size) ?_; rintro v2 w6 hA2; have hB6 := app_below (below_more hB5 (Below.new _ _)) (row_more hA1.1 (Below.new _ _)) hA2; obtain ⟨va2, vc2, rfl⟩ := row_slice hA2.1)
          | (refine step_append_some rfl (.tmp 66) (.tmp 71) 22 rfl wr.heap.size 55 i0 (.agg #[.string { data := #[] }, .int .i64 0, .string { data := #[] }, .int .i64 0, .slice none 0 0]) 5 72 Tryz.underlying22 hin hz0 hz1 hz2 rfl (by decide) (.slice va1 (0 + i) vc1) (0 + i) ([] ++ ocl (zs.take i)) (by simp [Act.eval]) hA1.1 (some ⟨wr.heap.size, 0, none⟩) 1 1 (cells5 (⟨newO nm 2 m, va, vc⟩ : Ov)) (by simp [Act.eval]) rfl (fun h => by cases h) (fun ad e => by cases e; exact fun j u hj => (World.cell?_of_block (hA1.2.block _ (by simp [add_at]) (by simp [Value.ownBlock]))).trans (HI1.out j u hj)) (fun u hu => ocl_cells [(⟨newO nm 2 m, va, vc⟩ : Ov)] u (by rw [ocl_one]; exact hu)) (by unfold maxLen; omega) (by omega) hB5.size ?_; rintro v2 w6 hA2; have hB6 := app_below hB5 hA1.1 hA2; obtain ⟨va2, vc2, rfl⟩ := row_slice hA2.1)
          | (refine step_append_some rfl (.tmp 72) (.tmp 75) 22 rfl wr.heap.size 55 i0 (.agg #[.string { data := #[] }, .int .i64 0, .string { data := #[] }, .int .i64 0, .slice none 0 0]) 5 72 Tryz.underlying22 hin hz0 hz1 hz2 rfl (by decide) (.slice va2 (0 + i + 1) vc2) (0 + i + 1) ([] ++ ocl (zs.take i) ++ cells5 (⟨newO nm 2 m, va, vc⟩ : Ov)) (by simp [Act.eval]) hA2.1 a2 m2 c2 (ocl (zs.drop i)) (by simp [Act.eval]) HLL.out.2 (HT.out.2.more hB6).nones (HT.out.2.more hB6).news (ocl_cells _) (by unfold maxLen; omega) (by omega) hB6.size ?_; rintro v3 w7 hA3; have hB7 := app_below hB6 hA2.1 hA3; obtain ⟨va3, vc3, rfl⟩ := row_slice hA3.1))
        all_goals
          have hh := hA3.1
          rw [Nat.zero_add, List.nil_append, ← ocl_one, ← ocl_append, ← ocl_append] at hh
          have hlen : (zs.take i ++ [(⟨newO nm 2 m, va, vc⟩ : Ov)] ++ zs.drop i).length = i + 1 + m2 := by rw [List.length_append, List.length_append, HT.out.1.hlen, HT.out.2.hlen]; rfl
          have hO := (app_objs hh hlen).objs hlen (fun x hx => by
            rcases List.mem_append.1 hx with h | h
            · rcases List.mem_append.1 h with h | h
              · exact (HT.out.1.hrows x h).more hB7
              · obtain rfl : x = (⟨newO nm 2 m, va, vc⟩ : Ov) := by simpa using h
                exact ⟨T.out.more hB7, Nat.le_trans hnm (by omega), Nat.zero_le _⟩
            · exact (HT.out.2.hrows x h).more hB7)
          have A := Lib.hid (show SO w7 va3 (i + 1 + m2) vc3 (zs.take i ++ [(⟨newO nm 2 m, va, vc⟩ : Ov)] ++ zs.drop i) lo from ⟨by rw [withL_obs, L.out.e]; exact HLO.out.1, hO, HLO.out.2.1⟩)
          replace B := Lib.hid (below_more B.out hB7)
          clear hh hlen hO hA1 hA2 hA3 hB5 hB6 hB7 k0' k1' k0a k1a c0a c1a r0 r1
          by_cases g1 : 20 < i + 1 + m2
          · have e1 : decide (((i + 1 + m2 : Nat) : Int) > 20) = true := decide_eq_true (by omega)
            have e2 : decide ((i : Int) + 1 + (m2 : Int) > 20) = true := decide_eq_true (by omega)
            have HX := Lib.hid (show c = 104 ∧ a = [] by
              have h3 := HLO.out.2.2
              unfold roomR at h3
              rw [if_pos (.inl (by rw [A.out.len]; exact g1))] at h3
              exact ⟨(Prod.mk.inj h3).1.symm, (Prod.mk.inj h3).2.symm⟩)
            have HY := Lib.hid (show kr = 0 by rw [← HKR.out, HX.out.2]; rfl)
            clear g1
            go_wp2
            refine bodyPost_ret (results_tmp2 rfl _ _ _) rfl ?_
            obtain ⟨rfl, rfl⟩ := HX.out
            obtain rfl := HY.out
            exact ⟨[], none, 0, rfl, SO.nil _, B.out⟩
          · have e1 : decide (((i + 1 + m2 : Nat) : Int) > 20) = false := decide_eq_false (by omega)
            have e2 : decide ((i : Int) + 1 + (m2 : Int) > 20) = false := decide_eq_false (by omega)
            obtain ⟨cb, hcb⟩ : ∃ cb, costR lo = cb := ⟨_, rfl⟩
            have HC := Lib.hid hcb
            by_cases g2 : q < cb
            · have e3 : decide (cb > q) = true := decide_eq_true g2
              have HX := Lib.hid (show c = 104 ∧ a = [] by
                have h3 := HLO.out.2.2
                unfold roomR at h3
                rw [if_pos (.inr (by rw [hcb]; exact g2))] at h3
                exact ⟨(Prod.mk.inj h3).1.symm, (Prod.mk.inj h3).2.symm⟩)
              have HY := Lib.hid (show kr = 0 by rw [← HKR.out, HX.out.2]; rfl)
              clear g1 g2 hcb
              go_wp2_with (go_at_call 20; refine (RCost_w HC.out A.out).mono ?_)
              rintro e wn ⟨rfl, hb⟩
              replace B := Lib.hid (below_more B.out hb)
              clear hb
              go_wp2
              refine bodyPost_ret (results_tmp2 rfl _ _ _) rfl ?_
              obtain ⟨rfl, rfl⟩ := HX.out
              obtain rfl := HY.out
              exact ⟨[], none, 0, rfl, SO.nil _, B.out⟩
            · have e3 : decide (cb > q) = false := decide_eq_false g2
              have HX := Lib.hid (show c = 0 ∧ a = lo by
                have h3 := HLO.out.2.2
                unfold roomR at h3
                rw [if_neg (by rw [A.out.len, hcb]; omega)] at h3
                exact ⟨(Prod.mk.inj h3).1.symm, (Prod.mk.inj h3).2.symm⟩)
              have HY := Lib.hid (show kr = i + 1 + m2 by rw [← HKR.out, HX.out.2, A.out.len])
              clear g1 g2 hcb
              go_wp2_with (go_at_call 20; refine (RCost_w HC.out A.out).mono ?_)
              rintro e wn ⟨rfl, hb⟩
              replace B := Lib.hid (below_more B.out hb)
              replace A := Lib.hid (A.out.more hb)
              clear hb
              go_wp2
              refine bodyPost_ret (results_tmp2 rfl _ _ _) rfl ?_
              obtain ⟨rfl, rfl⟩ := HX.out
              obtain rfl := HY.out
              exact ⟨_, va3, vc3, rfl, A.out, B.out⟩

end

end Go.Proofs.YtnbpfbmhheimbaaGreatDoor
