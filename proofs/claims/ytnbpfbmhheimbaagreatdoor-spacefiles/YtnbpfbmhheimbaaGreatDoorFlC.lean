/- Merged texts: FlCut, FlApi, FlShown, FlRef, FlRef2 -/
import Derived.Test.YtnbpfbmhheimbaaGreatDoorFlB
import Derived.Test.YtnbpfbmhheimbaaGreatDoorFlShelf
import Derived.BigQuiet
import Derived.Deep.OwnRows
/- cut: by a goto out. -/
namespace Go.Proofs.YtnbpfbmhheimbaaGreatDoor.Fi
open Go.RowKit Go.Proofs.Fld Go.Proofs.Fil Go.Shelf Go.Sort

/-- What holds at the way out. -/
def OutCut (w : World) (a : Act) (W : World) : Prop := ∃ (v : Value) (u0 u1 u2 u3 u4 u5 u6 u8 u9 u10 u11 u12 u13 u14 u15 u16 u17 u18 u19 u20 u21 u22 u23 u24 u25 u26 u27 u28 u29 u30 u31 u32 u33 u34 : Value), a = { tmps := #[u0, u1, u2, u3, u4, u5, u6, v, u8, u9, u10, u11, u12, u13, u14, u15, u16, u17, u18, u19, u20, u21, u22, u23, u24, u25, u26, u27, u28, u29, u30, u31, u32, u33, u34], defers := [] } ∧ (∃ s, v = .iface 140 (.string s)) ∧ Below w.heap.size w W
theorem repeat_zeros (c : Nat) : Lib.repeatL [0] c = zerosR c := by
  induction c with
  | zero => rfl
  | succ c ih =>
    unfold Lib.repeatL
    rw [ih]
    rfl
theorem repeat_any (c : Nat) (hc : c ≤ 1000) (w : World) : Calls Tryz.prog 115 #[.string { data := #[0] }, .int .i64 (c : Int)] w fun e w' => e = .returned (.string (bs (zerosR c))) ∧ Below w.heap.size w w' := by
  refine (strings_Repeat { data := #[0] } c w (by omega) ?_).mono ?_
  · show 1 * c ≤ _
    omega
  · rintro e w' ⟨he, hb⟩
    refine ⟨?_, hb⟩
    rw [he, ← repeat_zeros]
    rfl
set_option maxRecDepth 100000 in
set_option maxHeartbeats 4000000 in
theorem cut_any (s : It) (n : Int) (w : World) :
    Calls Tryz.prog 96 #[.string (bs s), .int .i64 n] w (TwoP (cutR s n) w) := by
  have hz := bs_size s
  obtain ⟨S, hS⟩ : ∃ S, s.length = S := ⟨_, rfl⟩
  obtain ⟨r, hr⟩ : ∃ r, cutR s n = r := ⟨_, rfl⟩
  rw [hr]
  by_cases hs : s.length ≤ 1000
  · have hj : okE s 0 = 0 := by unfold okE; rw [if_pos ⟨hs, by omega, by omega⟩]
    have HJ := Lib.hid hj
    by_cases h1 : n < 0
    · have hd : decide (n < 0) = true := decide_eq_true h1
      have e1 : cutR s n = none := by unfold cutR; rw [if_neg (by omega)]
      rw [e1] at hr
      subst hr
      rw [hS] at hz
      obtain ⟨K, hK⟩ : ∃ K, min n (S : Int) = K := ⟨_, rfl⟩
      clear hj h1 e1
      go_enter Tryz.func96, Tryz.ntmps96
      go_wp2
      refine wp_scope_jumps 0 (OutCut w) (fun _ _ => 0) rfl ?first ?pass
      case first =>
        go_wp2_with (go_at_call 113; refine (judge_any s 0 w).mono ?_)
        rintro e w1 ⟨v, hv, rfl, rfl⟩
        rw [HJ.out] at hv
        cases hv
        go_wp2
        apply wp_goto
        exact ⟨rfl, _, _, _, _, _, _, _, _, _, _, _, _, _, _, _, _, _, _, _, _, _, _, _, _, _, _, _, _, _, _, _, _, _, _, _, rfl, ⟨_, rfl⟩, Below.refl _ _⟩
      case pass =>
        rintro a W ⟨v, u0, u1, u2, u3, u4, u5, u6, u8, u9, u10, u11, u12, u13, u14, u15, u16, u17, u18, u19, u20, u21, u22, u23, u24, u25, u26, u27, u28, u29, u30, u31, u32, u33, u34, rfl, ⟨q, rfl⟩, hb⟩
        go_wp2
        refine bodyPost_ret (results_tmp2 rfl _ _ _) rfl ?_
        exact TwoP.none q hb
    · have hd : decide (n < 0) = false := decide_eq_false h1
      obtain ⟨m, rfl⟩ := Int.eq_ofNat_of_zero_le (by omega : 0 ≤ n)
      obtain ⟨K, hK⟩ : ∃ K, min m S = K := ⟨_, rfl⟩
      have hKS : K ≤ S := by omega
      have hKm : K ≤ m := by omega
      have hm : min (m : Int) (S : Int) = (K : Int) := by omega
      by_cases h2 : 1000 < m
      · have hd2 : decide ((m : Int) > 1000) = true := decide_eq_true (by omega)
        have e1 : cutR s (m : Int) = none := by unfold cutR; rw [if_neg (by omega)]
        rw [e1] at hr
        subst hr
        rw [hS] at hz
        clear hj h1 h2 e1 hK hKS hKm
        go_enter Tryz.func96, Tryz.ntmps96
        go_wp2
        refine wp_scope_jumps 0 (OutCut w) (fun _ _ => 0) rfl ?first ?pass
        case first =>
          go_wp2_with (go_at_call 113; refine (judge_any s 0 w).mono ?_)
          rintro e w1 ⟨v, hv, rfl, rfl⟩
          rw [HJ.out] at hv
          cases hv
          go_wp2
          apply wp_goto
          exact ⟨rfl, _, _, _, _, _, _, _, _, _, _, _, _, _, _, _, _, _, _, _, _, _, _, _, _, _, _, _, _, _, _, _, _, _, _, _, rfl, ⟨_, rfl⟩, Below.refl _ _⟩
        case pass =>
          rintro a W ⟨v, u0, u1, u2, u3, u4, u5, u6, u8, u9, u10, u11, u12, u13, u14, u15, u16, u17, u18, u19, u20, u21, u22, u23, u24, u25, u26, u27, u28, u29, u30, u31, u32, u33, u34, rfl, ⟨q, rfl⟩, hb⟩
          go_wp2
          refine bodyPost_ret (results_tmp2 rfl _ _ _) rfl ?_
          exact TwoP.none q hb
      · have hd2 : decide ((m : Int) > 1000) = false := decide_eq_false (by omega)
        obtain ⟨c, hc⟩ : ∃ c, m - K = c := ⟨_, rfl⟩
        have hw : IntKind.i64.wrap ((m : Int) - (K : Int)) = (c : Int) := by rw [IntKind.wrap_i64]; omega
        have s1 := str_upto s K (by omega)
        obtain ⟨X, hX⟩ : ∃ X, s.take K = X := ⟨_, rfl⟩
        rw [hX] at s1
        obtain ⟨Z, hZ⟩ : ∃ Z, zerosR c = Z := ⟨_, rfl⟩
        have hXl : X.length = K := by rw [← hX, List.length_take]; omega
        have hZl : Z.length = c := by rw [← hZ]; simp [zerosR]
        have hj2 : joinR (X ++ Z) = r := by
          unfold joinR
          rw [if_pos (by rw [List.length_append]; omega), ← hr]
          unfold cutR
          rw [if_pos ⟨hs, by omega, by omega⟩, Int.toNat_natCast, ← hX, ← hZ]
          have e1 : s.take K = s.take m := by
            rcases Nat.le_total m S with h | h
            · rw [← hK, show min m S = m from Nat.min_eq_left h]
            · rw [← hK, show min m S = S from Nat.min_eq_right h, List.take_of_length_le (by omega), List.take_of_length_le (by omega)]
          have e2 : c = m - s.length := by
            rw [hS]
            rcases Nat.le_total m S with h | h
            · have : K = m := by rw [← hK]; exact Nat.min_eq_left h
              omega
            · have : K = S := by rw [← hK]; exact Nat.min_eq_right h
              omega
          rw [e1, e2]
        have HC := Lib.hid (fun W => join2 W X Z r (by omega) hj2)
        have HD := Lib.hid (show ∀ W, Calls Tryz.prog 115 #[.string { data := #[0] }, .int .i64 (c : Int)] W fun e w' => e = .returned (.string (bs Z)) ∧ Below W.heap.size W w' from fun W => hZ ▸ repeat_any c (by omega) W)
        rw [hS] at hz
        clear hj h1 h2 hK hKS hKm hc hX hZ hXl hZl hj2 hr
        go_enter Tryz.func96, Tryz.ntmps96
        go_wp2
        refine wp_scope_jumps 0 (fun _ _ => False) (fun _ _ => 0) rfl ?first ?pass
        case pass => exact fun _ _ h => h.elim
        case first =>
          go_wp2_with (go_at_call 113; refine (judge_any s 0 w).mono ?_)
          rintro e w1 ⟨v, hv, rfl, rfl⟩
          rw [HJ.out] at hv
          cases hv
          go_wp2
          go_region_held3 (fun _ => True) (trivial) (first | (go_at_call 115; ((with_reducible refine (HD.out _).mono ?_); rintro e w2 ⟨rfl, hb1⟩)) | (go_at_call 114; ((with_reducible refine (HC.out _).mono ?_); rintro e w3 ⟨v, hv, rfl, hb⟩)))
          go_wp2
          refine bodyPost_ret (results_tmp2 rfl _ _ _) rfl ?_
          exact ⟨v, hv, rfl, below_more (below_more (below_more (Below.refl _ w).drew hb1) (Below.new w2 _)) hb⟩
  · have hj : okE s 0 = 90 := by unfold okE; rw [if_neg (fun h => hs h.1)]
    have HJ := Lib.hid hj
    have e1 : cutR s n = none := by unfold cutR; rw [if_neg (fun h => hs h.1)]
    rw [e1] at hr
    subst hr
    rw [hS] at hz
    obtain ⟨K, hK⟩ : ∃ K, min n (S : Int) = K := ⟨_, rfl⟩
    clear hj hs e1
    go_enter Tryz.func96, Tryz.ntmps96
    go_wp2
    refine wp_scope_jumps 0 (OutCut w) (fun _ _ => 0) rfl ?first ?pass
    case first =>
      go_wp2_with (go_at_call 113; refine (judge_any s 0 w).mono ?_)
      rintro e w1 ⟨v, hv, rfl, rfl⟩
      rw [HJ.out] at hv
      cases hv
      go_wp2
      apply wp_goto
      exact ⟨rfl, _, _, _, _, _, _, _, _, _, _, _, _, _, _, _, _, _, _, _, _, _, _, _, _, _, _, _, _, _, _, _, _, _, _, _, rfl, ⟨_, rfl⟩, Below.refl _ _⟩
    case pass =>
      rintro a W ⟨v, u0, u1, u2, u3, u4, u5, u6, u8, u9, u10, u11, u12, u13, u14, u15, u16, u17, u18, u19, u20, u21, u22, u23, u24, u25, u26, u27, u28, u29, u30, u31, u32, u33, u34, rfl, ⟨q, rfl⟩, hb⟩
      go_wp2
      refine bodyPost_ret (results_tmp2 rfl _ _ _) rfl ?_
      exact TwoP.none q hb
end Go.Proofs.YtnbpfbmhheimbaaGreatDoor.Fi

/- The package's functions. -/
namespace Go.Proofs.YtnbpfbmhheimbaaGreatDoor.Fi
open Go.RowKit Go.Proofs.Fld Go.Proofs.Fil Go.Shelf Go.Sort

/-- It tells the bytes x and the number c. -/
def AnsV (x : It) (c : Int) (w : World) (e : Ending) (w' : World) : Prop := e = .returned (.tuple #[.string (bs x), .int .i64 c]) ∧ Below w.heap.size w w'
set_option maxHeartbeats 1000000 in
theorem Write_p {s t : It} {o : Int} {r : Option It} {x : It} {c : Int} (ht : t.length ≤ 1000000000000000000) (hr : writeR s o t = r) (hx : txt r = x) (hc : errR r = c) {w : World} (hg : ErrT w) :
    Calls Tryz.prog 60 #[.string (bs s), .int .i64 o, .string (bs t)] w (AnsV x c w) := by
  subst hr hx hc
  go_enter Tryz.func60, Tryz.ntmps60
  go_wp2_with (go_at_call 93; refine (write_any s t o ht w).mono ?_)
  rintro e w1 ⟨v, hv, rfl, hb⟩
  have HV := Lib.hid (And.intro hv (And.intro hb (hg.more hb)))
  clear hv hb hg
  go_wp2_with (go_at_call 94; refine (told_any HV.out.1 w1 HV.out.2.2).mono ?_)
  rintro e w2 ⟨rfl, hb2⟩
  have HW := Lib.hid (below_more HV.out.2.1 hb2)
  clear hb2
  go_wp2
  refine bodyPost_ret (results_tmp2 rfl _ _ _) rfl ?_
  exact ⟨rfl, HW.out⟩
set_option maxHeartbeats 1000000 in
theorem Read_p {s : It} {o n : Int} {r : Option It} {x : It} {c : Int} (hr : readR s o n = r) (hx : txt r = x) (hc : errR r = c) {w : World} (hg : ErrT w) :
    Calls Tryz.prog 66 #[.string (bs s), .int .i64 o, .int .i64 n] w (AnsV x c w) := by
  subst hr hx hc
  go_enter Tryz.func66, Tryz.ntmps66
  go_wp2_with (go_at_call 95; refine (read_any s o n w).mono ?_)
  rintro e w1 ⟨v, hv, rfl, hb⟩
  have HV := Lib.hid (And.intro hv (And.intro hb (hg.more hb)))
  clear hv hb hg
  go_wp2_with (go_at_call 94; refine (told_any HV.out.1 w1 HV.out.2.2).mono ?_)
  rintro e w2 ⟨rfl, hb2⟩
  have HW := Lib.hid (below_more HV.out.2.1 hb2)
  clear hb2
  go_wp2
  refine bodyPost_ret (results_tmp2 rfl _ _ _) rfl ?_
  exact ⟨rfl, HW.out⟩
set_option maxHeartbeats 1000000 in
theorem Cut_p {s : It} {n : Int} {r : Option It} {x : It} {c : Int} (hr : cutR s n = r) (hx : txt r = x) (hc : errR r = c) {w : World} (hg : ErrT w) :
    Calls Tryz.prog 69 #[.string (bs s), .int .i64 n] w (AnsV x c w) := by
  subst hr hx hc
  go_enter Tryz.func69, Tryz.ntmps69
  go_wp2_with (go_at_call 96; refine (cut_any s n w).mono ?_)
  rintro e w1 ⟨v, hv, rfl, hb⟩
  have HV := Lib.hid (And.intro hv (And.intro hb (hg.more hb)))
  clear hv hb hg
  go_wp2_with (go_at_call 94; refine (told_any HV.out.1 w1 HV.out.2.2).mono ?_)
  rintro e w2 ⟨rfl, hb2⟩
  have HW := Lib.hid (below_more HV.out.2.1 hb2)
  clear hb2
  go_wp2
  refine bodyPost_ret (results_tmp2 rfl _ _ _) rfl ?_
  exact ⟨rfl, HW.out⟩
end Go.Proofs.YtnbpfbmhheimbaaGreatDoor.Fi

/- cut: the first bytes; what is known: shown. -/
namespace Go.Proofs.YtnbpfbmhheimbaaGreatDoor.Fi
open Go.RowKit Go.Proofs.Fld Go.Proofs.Fil Go.Shelf Go.Sort

/-- It tells a text, and leaves all as it was. -/
def CutP (x : It) (w : World) (e : Ending) (w' : World) : Prop := e = .returned (.string (bs x)) ∧ w = w'
/-- It tells a text that is written out, and a number. -/
def AnsL (x : ByteArray) (c : Int) (w : World) (e : Ending) (w' : World) : Prop := e = .returned (.tuple #[.string x, .int .i64 c]) ∧ Below w.heap.size w w'
theorem shown1 {w : World} (hg : ErrT w) : Calls Tryz.prog 60 #[.string { data := #[97, 98, 99, 100] }, .int .i64 3, .string { data := #[120, 121] }] w (AnsL { data := #[97, 98, 99, 120, 121] } 0 w) :=
  Write_p (s := [97, 98, 99, 100]) (o := 3) (t := [120, 121]) (r := some [97, 98, 99, 120, 121]) (x := [97, 98, 99, 120, 121]) (c := 0) (by decide) (by decide) rfl rfl hg
theorem shown2 {w : World} (hg : ErrT w) : Calls Tryz.prog 66 #[.string { data := #[97, 98, 99, 100] }, .int .i64 1, .int .i64 9] w (AnsL { data := #[98, 99, 100] } 0 w) :=
  Read_p (s := [97, 98, 99, 100]) (o := 1) (n := 9) (r := some [98, 99, 100]) (x := [98, 99, 100]) (c := 0) (by decide) rfl rfl hg
theorem shown3 {w : World} (hg : ErrT w) : Calls Tryz.prog 69 #[.string { data := #[97, 98, 99, 100] }, .int .i64 2] w (AnsL { data := #[97, 98] } 0 w) :=
  Cut_p (s := [97, 98, 99, 100]) (n := 2) (r := some [97, 98]) (x := [97, 98]) (c := 0) (by decide) rfl rfl hg
theorem shown5 {w : World} (hg : ErrT w) : Calls Tryz.prog 60 #[.string { data := #[97, 98, 99, 100] }, .int .i64 5, .string { data := #[120] }] w (AnsL { data := #[] } 90 w) :=
  Write_p (s := [97, 98, 99, 100]) (o := 5) (t := [120]) (r := none) (x := []) (c := 90) (by decide) (by decide) rfl rfl hg
end Go.Proofs.YtnbpfbmhheimbaaGreatDoor.Fi

/- The document's answers. -/
namespace Go.Proofs.YtnbpfbmhheimbaaGreatDoor.Fi
open Go.RowKit Go.Proofs.Fld Go.Proofs.Fil Go.Shelf Go.Sort

theorem bs_append (l m : List UInt8) : bs l ++ bs m = bs (l ++ m) := by
  apply ByteArray.ext
  simp [bs]
theorem str_add (l m : List UInt8) (h : l.length + m.length ≤ 9223372036854775807) (w : World) : (Op.stringOp .add (bs l) (bs m)).run Tryz.prog w = .ok (.string (bs (l ++ m))) w := by
  rw [run_string_add_sum w (bs l) (bs m) (by rw [bs_size, bs_size]; exact h), bs_append]
theorem AnsV.none (w : World) : AnsV [] 90 w (.returned (.tuple #[.string { data := #[] }, .int .i64 90])) w := ⟨rfl, Below.refl _ _⟩
set_option maxRecDepth 100000 in
set_option maxHeartbeats 4000000 in
theorem refWrite_p {s t : It} {o : Int} {r : Option It} {x : It} {c : Int} (hr : writeR s o t = r) (hx : txt r = x) (hc : errR r = c) (ht : t.length ≤ 1000000) {w : World} :
    Calls Tryz.prog 62 #[.string (bs s), .int .i64 o, .string (bs t)] w (AnsV x c w) := by
  have hz := bs_size s
  have hzt := bs_size t
  rw [writeR_doc] at hr
  obtain ⟨S, hS⟩ : ∃ S, s.length = S := ⟨_, rfl⟩
  obtain ⟨T, hT⟩ : ∃ T, t.length = T := ⟨_, rfl⟩
  have hok := show okAt s o ↔ (S ≤ 1000 ∧ 0 ≤ o ∧ o ≤ (S : Int)) from hS ▸ Iff.rfl
  rw [hS] at hz
  rw [hT] at hzt hr ht
  by_cases h1 : 1000 < S
  · have hd : decide ((S : Int) > 1000) = true := decide_eq_true (by omega)
    rw [if_neg (by rw [hok]; omega)] at hr
    subst hr hx hc
    clear hok hS hT
    go_enter Tryz.func62, Tryz.ntmps62
    go_wp2
    refine bodyPost_ret (results_tmp2 rfl _ _ _) rfl ?_
    exact AnsV.none w
  · have hd : decide ((S : Int) > 1000) = false := decide_eq_false (by omega)
    by_cases h2 : o < 0
    · have hd2 : decide (o < 0) = true := decide_eq_true h2
      rw [if_neg (by rw [hok]; omega)] at hr
      subst hr hx hc
      clear hok hS hT
      go_enter Tryz.func62, Tryz.ntmps62
      go_wp2
      refine bodyPost_ret (results_tmp2 rfl _ _ _) rfl ?_
      exact AnsV.none w
    · have hd2 : decide (o < 0) = false := decide_eq_false h2
      by_cases h3 : (S : Int) < o
      · have hd3 : decide (o > (S : Int)) = true := decide_eq_true h3
        rw [if_neg (by rw [hok]; omega)] at hr
        subst hr hx hc
        clear hok hS hT
        go_enter Tryz.func62, Tryz.ntmps62
        go_wp2
        refine bodyPost_ret (results_tmp2 rfl _ _ _) rfl ?_
        exact AnsV.none w
      · have hd3 : decide (o > (S : Int)) = false := decide_eq_false h3
        have hw : IntKind.i64.wrap (1000 - o) = 1000 - o := by rw [IntKind.wrap_i64]; omega
        by_cases h4 : 1000 - o < (T : Int)
        · have hd4 : decide ((T : Int) > 1000 - o) = true := decide_eq_true h4
          rw [if_neg (by rw [hok]; omega)] at hr
          subst hr hx hc
          clear hok hS hT
          go_enter Tryz.func62, Tryz.ntmps62
          go_wp2
          refine bodyPost_ret (results_tmp2 rfl _ _ _) rfl ?_
          exact AnsV.none w
        · have hd4 : decide ((T : Int) > 1000 - o) = false := decide_eq_false h4
          rw [if_pos (by rw [hok]; omega)] at hr
          obtain ⟨k, rfl⟩ := Int.eq_ofNat_of_zero_le (by omega : 0 ≤ o)
          have hd7 : decide (S < k) = false := decide_eq_false (by omega)
          obtain ⟨e, he⟩ : ∃ e, k + T = e := ⟨_, rfl⟩
          have hw2 : IntKind.i64.wrap ((k : Int) + (T : Int)) = (e : Int) := by rw [IntKind.wrap_i64]; omega
          obtain ⟨q, hq⟩ : ∃ q, min S e = q := ⟨_, rfl⟩
          have hm : min (S : Int) (e : Int) = (q : Int) := by omega
          have s1 := str_upto s k (by omega)
          have s2 := str_from s q (by omega)
          obtain ⟨X, hX⟩ : ∃ X, s.take k = X := ⟨_, rfl⟩
          obtain ⟨Y, hY⟩ : ∃ Y, s.drop q = Y := ⟨_, rfl⟩
          have a1 := str_add X t (by rw [← hX, List.length_take]; omega)
          have a2 := str_add (X ++ t) Y (by rw [← hX, ← hY, List.length_append, List.length_take, List.length_drop]; omega)
          obtain ⟨Z, hZ⟩ : ∃ Z, X ++ t = Z := ⟨_, rfl⟩
          obtain ⟨V, hV⟩ : ∃ V, Z ++ Y = V := ⟨_, rfl⟩
          rw [hX] at s1
          rw [hY] at s2
          rw [hZ] at a1 a2
          rw [hV] at a2
          have hv : r = some V := by
            rw [← hr, ← hV, ← hZ, ← hX, ← hY, Int.toNat_natCast, he]
            congr 2
            rcases Nat.le_total S e with h | h
            · rw [List.drop_eq_nil_of_le (by omega), List.drop_eq_nil_of_le (by omega)]
            · rw [show q = e by omega]
          subst hv hx hc
          clear hok hS hT hr he hq hX hY hZ hV h4 h3 h2 h1
          go_enter Tryz.func62, Tryz.ntmps62
          go_wp2
          go_region_held3 (fun _ => True) (trivial) (fail)
          go_wp2
          refine bodyPost_ret (results_tmp2 rfl _ _ _) rfl ?_
          exact ⟨rfl, (Below.refl _ w).drew⟩
set_option maxRecDepth 100000 in
set_option maxHeartbeats 4000000 in
theorem refRead_p {s : It} {o n : Int} {r : Option It} {x : It} {c : Int} (hr : readR s o n = r) (hx : txt r = x) (hc : errR r = c) {w : World} :
    Calls Tryz.prog 67 #[.string (bs s), .int .i64 o, .int .i64 n] w (AnsV x c w) := by
  have hz := bs_size s
  unfold readR at hr
  obtain ⟨S, hS⟩ : ∃ S, s.length = S := ⟨_, rfl⟩
  have hok := show okAt s o ↔ (S ≤ 1000 ∧ 0 ≤ o ∧ o ≤ (S : Int)) from hS ▸ Iff.rfl
  rw [hS] at hz
  by_cases h1 : 1000 < S
  · have hd : decide ((S : Int) > 1000) = true := decide_eq_true (by omega)
    rw [if_neg (by rw [hok]; omega)] at hr
    subst hr hx hc
    clear hok hS
    go_enter Tryz.func67, Tryz.ntmps67
    go_wp2
    refine bodyPost_ret (results_tmp2 rfl _ _ _) rfl ?_
    exact AnsV.none w
  · have hd : decide ((S : Int) > 1000) = false := decide_eq_false (by omega)
    by_cases h2 : o < 0
    · have hd2 : decide (o < 0) = true := decide_eq_true h2
      rw [if_neg (by rw [hok]; omega)] at hr
      subst hr hx hc
      clear hok hS
      go_enter Tryz.func67, Tryz.ntmps67
      go_wp2
      refine bodyPost_ret (results_tmp2 rfl _ _ _) rfl ?_
      exact AnsV.none w
    · have hd2 : decide (o < 0) = false := decide_eq_false h2
      by_cases h3 : (S : Int) < o
      · have hd3 : decide (o > (S : Int)) = true := decide_eq_true h3
        rw [if_neg (by rw [hok]; omega)] at hr
        subst hr hx hc
        clear hok hS
        go_enter Tryz.func67, Tryz.ntmps67
        go_wp2
        refine bodyPost_ret (results_tmp2 rfl _ _ _) rfl ?_
        exact AnsV.none w
      · have hd3 : decide (o > (S : Int)) = false := decide_eq_false h3
        by_cases h4 : n < 0
        · have hd4 : decide (n < 0) = true := decide_eq_true h4
          rw [if_neg (by rw [hok]; omega)] at hr
          subst hr hx hc
          clear hok hS
          go_enter Tryz.func67, Tryz.ntmps67
          go_wp2
          refine bodyPost_ret (results_tmp2 rfl _ _ _) rfl ?_
          exact AnsV.none w
        · have hd4 : decide (n < 0) = false := decide_eq_false h4
          rw [if_pos (by rw [hok]; omega)] at hr
          obtain ⟨k, rfl⟩ := Int.eq_ofNat_of_zero_le (by omega : 0 ≤ o)
          have hd7 : decide (S < k) = false := decide_eq_false (by omega)
          obtain ⟨m, rfl⟩ := Int.eq_ofNat_of_zero_le (by omega : 0 ≤ n)
          obtain ⟨D, hD⟩ : ∃ D, S - k = D := ⟨_, rfl⟩
          have hw : IntKind.i64.wrap ((S : Int) - (k : Int)) = (D : Int) := by rw [IntKind.wrap_i64]; omega
          obtain ⟨N, hN⟩ : ∃ N, min m D = N := ⟨_, rfl⟩
          have hm : min (m : Int) (D : Int) = (N : Int) := by omega
          obtain ⟨q, hq⟩ : ∃ q, k + N = q := ⟨_, rfl⟩
          have hw2 : IntKind.i64.wrap ((k : Int) + (N : Int)) = (q : Int) := by rw [IntKind.wrap_i64]; omega
          have s1 := str_mid s k q (by omega) (by omega)
          obtain ⟨X, hX⟩ : ∃ X, (s.drop k).take (q - k) = X := ⟨_, rfl⟩
          rw [hX] at s1
          have hv : r = some X := by
            rw [← hr, ← hX, Int.toNat_natCast, Int.toNat_natCast, show q - k = N by omega]
            rcases Nat.le_total m D with h | h
            · rw [show N = m by omega]
            · rw [show N = D by omega, List.take_of_length_le (i := m) (by rw [List.length_drop]; omega), List.take_of_length_le (by rw [List.length_drop]; omega)]
          subst hv hx hc
          clear hok hS hr hD hN hq hX h4 h3 h2 h1
          go_enter Tryz.func67, Tryz.ntmps67
          go_wp2
          refine bodyPost_ret (results_tmp2 rfl _ _ _) rfl ?_
          exact ⟨rfl, Below.refl _ w⟩
end Go.Proofs.YtnbpfbmhheimbaaGreatDoor.Fi

/- The document's answers: cut, splice. -/
namespace Go.Proofs.YtnbpfbmhheimbaaGreatDoor.Fi
open Go.RowKit Go.Proofs.Fld Go.Proofs.Fil Go.Shelf Go.Sort

theorem infoU : (Tryz.prog.info? 5).map (fun i => (i.zero, i.size, i.bytes)) = some (some (.int .u8 0), 1, 1) := by kernel_rfl
theorem made_zeros (c j : Nat) (h : j < c) : (madeCells #[Value.int .u8 0] c)[j]? = some (.int .u8 0) := by
  simp [madeCells, h, Nat.mod_one]
theorem conv_zeros (w : World) (c : Nat) : (convert 118 9 (.slice (some ⟨w.heap.size, 0, none⟩) c c)).run Tryz.prog ((w.alloc (.cells (madeCells #[.int .u8 0] c) 5)).drew) = .ok (.string (bs (zerosR c))) ((w.alloc (.cells (madeCells #[.int .u8 0] c) 5)).drew) := by
  have h := run_convert_bytes_back (P := Tryz.prog) ((w.alloc (.cells (madeCells #[.int .u8 0] c) 5)).drew) 118 9 5 ⟨w.heap.size, 0, none⟩ c (zerosR c) Tryz.underlying118 Tryz.underlying5 Tryz.underlying9 (fun j hj => by
    have hj2 : j < c := by simpa [zerosR] using hj
    rw [add_at, Nat.zero_add, World.cell?_drew, World.cell?_alloc_at _ _ _ _ rfl, made_zeros c j hj2]
    simp [zerosR])
  rw [show (zerosR c).length = c by simp [zerosR]] at h
  exact h
set_option maxRecDepth 100000 in
set_option maxHeartbeats 4000000 in
theorem refCut_p {s : It} {n : Int} {r : Option It} {x : It} {c : Int} (hr : cutR s n = r) (hx : txt r = x) (hc : errR r = c) {w : World} :
    Calls Tryz.prog 70 #[.string (bs s), .int .i64 n] w (AnsV x c w) := by
  have hz := bs_size s
  unfold cutR at hr
  obtain ⟨S, hS⟩ : ∃ S, s.length = S := ⟨_, rfl⟩
  rw [hS] at hz hr
  by_cases h1 : 1000 < S
  · have hd : decide ((S : Int) > 1000) = true := decide_eq_true (by omega)
    rw [if_neg (by omega)] at hr
    subst hr hx hc
    clear hS
    go_enter Tryz.func70, Tryz.ntmps70
    go_wp2
    refine bodyPost_ret (results_tmp2 rfl _ _ _) rfl ?_
    exact AnsV.none w
  · have hd : decide ((S : Int) > 1000) = false := decide_eq_false (by omega)
    by_cases h2 : n < 0
    · have hd2 : decide (n < 0) = true := decide_eq_true h2
      rw [if_neg (by omega)] at hr
      subst hr hx hc
      clear hS
      go_enter Tryz.func70, Tryz.ntmps70
      go_wp2
      refine bodyPost_ret (results_tmp2 rfl _ _ _) rfl ?_
      exact AnsV.none w
    · have hd2 : decide (n < 0) = false := decide_eq_false h2
      by_cases h3 : 1000 < n
      · have hd3 : decide (n > 1000) = true := decide_eq_true h3
        rw [if_neg (by omega)] at hr
        subst hr hx hc
        clear hS
        go_enter Tryz.func70, Tryz.ntmps70
        go_wp2
        refine bodyPost_ret (results_tmp2 rfl _ _ _) rfl ?_
        exact AnsV.none w
      · have hd3 : decide (n > 1000) = false := decide_eq_false h3
        rw [if_pos (by omega)] at hr
        obtain ⟨m, rfl⟩ := Int.eq_ofNat_of_zero_le (by omega : 0 ≤ n)
        obtain ⟨K, hK⟩ : ∃ K, min m S = K := ⟨_, rfl⟩
        have hm : min (m : Int) (S : Int) = (K : Int) := by omega
        obtain ⟨D, hD⟩ : ∃ D : Int, (m : Int) - (S : Int) = D := ⟨_, rfl⟩
        have hw : IntKind.i64.wrap ((m : Int) - (S : Int)) = D := by rw [IntKind.wrap_i64]; omega
        obtain ⟨C, hC⟩ : ∃ C, m - S = C := ⟨_, rfl⟩
        have hm2 : max 0 D = (C : Int) := by omega
        have s1 := str_upto s K (by omega)
        have mk := run_make_row' (P := Tryz.prog) 118 5 (.int .u8 0) 1 Tryz.underlying118 infoU rfl .i64 .i64 C (by omega) (by omega)
        have cv := conv_zeros w C
        obtain ⟨Q, hQ⟩ : ∃ Q, madeCells #[Value.int .u8 0] C = Q := ⟨_, rfl⟩
        rw [hQ] at mk cv
        obtain ⟨X, hX⟩ : ∃ X, s.take K = X := ⟨_, rfl⟩
        obtain ⟨Y, hY⟩ : ∃ Y, zerosR C = Y := ⟨_, rfl⟩
        rw [hX] at s1
        rw [hY] at cv
        have a1 := str_add X Y (by rw [← hX, ← hY, List.length_take]; simp only [zerosR, List.length_replicate]; omega)
        obtain ⟨V, hV⟩ : ∃ V, X ++ Y = V := ⟨_, rfl⟩
        rw [hV] at a1
        have hv : r = some V := by
          rw [← hr, ← hV, ← hX, ← hY, Int.toNat_natCast, hC]
          congr 2
          rcases Nat.le_total m S with h | h
          · rw [show K = m by omega]
          · rw [show K = S by omega, List.take_of_length_le (i := m) (by omega), List.take_of_length_le (by omega)]
        subst hv hx hc
        clear hS hr hK hD hC hX hY hV h3 h2 h1 hQ
        go_enter Tryz.func70, Tryz.ntmps70
        go_wp2
        go_region
        all_goals
          go_wp2
          refine bodyPost_ret (results_tmp2 rfl _ _ _) rfl ?_
          exact ⟨rfl, (Below.new w _).drew⟩
end Go.Proofs.YtnbpfbmhheimbaaGreatDoor.Fi
