/- The contracts of Few, of the document's Of, and of the comparison of two lists that are the same. -/
import Derived.Test.YtngacmkgnpgomaaDoorRise
namespace Go.Proofs.YtngacmkgnpgomaaDoor
open Go.RowKit Go.Proofs.Cats

set_option maxHeartbeats 400000 in
theorem few_any (a : Option Addr) (len cap : Nat) (hl : len ≤ cap) (hm : cap ≤ maxLen) (ha : a = none → cap = 0) (w : World) :
    Calls Tryd.prog 11 #[.slice a len cap] w fun e W' => e = .returned (.slice a (min len 100) cap) ∧ w = W' := by
  unfold maxLen at hm
  by_cases h : len ≤ 100
  · rw [Nat.min_eq_left h]
    cases a with
    | none =>
      obtain rfl := ha rfl
      obtain rfl : len = 0 := by omega
      go_enter Tryd.func11, Tryd.ntmps11
      go_wp2
      go_ret
      exact ⟨rfl, rfl⟩
    | some x =>
      have h1 : (len : Int) ≤ 100 := by omega
      clear ha
      go_enter Tryd.func11, Tryd.ntmps11
      go_wp2
      go_ret
      exact ⟨rfl, rfl⟩
  · rw [Nat.min_eq_right (by omega)]
    cases a with
    | none => obtain rfl := ha rfl; omega
    | some x =>
      have h1 : ¬ (len : Int) ≤ 100 := by omega
      have h2 : (100 : Int) < (len : Int) := by omega
      clear ha
      go_enter Tryd.func11, Tryd.ntmps11
      go_wp2
      go_ret
      exact ⟨rfl, rfl⟩


theorem take_succ_getD (zs : List Int) (j : Nat) (h : j < zs.length) : zs.take (j + 1) = zs.take j ++ [zs[j]?.getD 0] := by
  rw [List.take_succ_eq_append_getElem h]
  simp [h]

theorem joinV_bad (zs : List Int) (j : Nat) (h : j < zs.length) (hb : okC (zs[j]?.getD 0) = false) : joinV 0 zs = 0 ∧ joinE zs = 10 := by
  have hz : zs.all okC = false := by
    rw [List.all_eq_false]
    refine ⟨zs[j], List.getElem_mem h, ?_⟩
    simp [h] at hb
    simp [hb]
  simp [joinV, joinE, hz]
theorem joinV_good (zs : List Int) (h : zs.all okC = true) : joinV 0 zs = addAll 0 zs ∧ joinE zs = 0 := by simp [joinV, joinE, h]

set_option maxHeartbeats 1000000 in
theorem refOf_any (n₀ : Nat) (a : Option Addr) (len cap : Nat) (zs : List Int) (hlen : zs.length ≤ 100) (w : World) (hI : Ints n₀ w (.slice a len cap) zs) :
    Calls Tryd.prog 12 #[.slice a len cap] w fun e W' => e = .returned (.tuple #[.int .u64 (joinV 0 zs : Nat), .int .i64 (joinE zs)]) ∧ w = W' := by
  obtain ⟨ao, cp, e, hk⟩ := hI
  injection e with e1 e2 e3
  subst e1 e2 e3
  go_enter Tryd.func12, Tryd.ntmps12
  go_wp2
  go_loop [4, 5] (fun s i => ∃ j : Nat, j ≤ zs.length ∧ i = .int .i64 j ∧ s = .int .u64 (addAll 0 (zs.take j) : Nat) ∧ (zs.take j).all okC = true) (fun _ i => zs.length - (intOf i).toNat)
  case atStart => exact ⟨0, by omega, rfl, rfl, rfl⟩
  case round =>
    obtain ⟨j, hj, rfl, rfl, hall⟩ := hrel
    have hu := addAll_u64 0 (zs.take j) (by unfold U64; omega) hall
    by_cases hlt : j < zs.length
    · obtain ⟨b, off, rfl, _, hc⟩ := hk (fun h => by rw [h] at hlt; simp at hlt)
      have hcj := hc j hlt
      have HA := Lib.hid hall
      have HTk := Lib.hid (take_succ_getD zs j hlt)
      have hbad := Lib.hid (joinV_bad zs j hlt)
      clear hall hc hk
      generalize zs[j]?.getD 0 = x at *
      cases hx : okC x
      · obtain ⟨b1, b2⟩ := hbad.out hx
        have B1 := Lib.hid b1
        have B2 := Lib.hid b2
        have E1 := Lib.hid (show joinE [x] = 10 by simp [joinE_one, hx])
        clear b1 b2 hx
        go_wp2_with (go_at_call 14; refine (refWith_any _ hu _ _).mono ?_; rintro e w' ⟨he, rfl⟩; rw [E1.out] at he; subst he)
        go_ret2
        exact ⟨by rw [B1.out, B2.out]; rfl, rfl⟩
      · have HX := Lib.hid hx
        have E1 := Lib.hid (show joinE [x] = 0 by simp [joinE_one, hx])
        have E2 := Lib.hid (show joinV (addAll 0 (zs.take j)) [x] = addAll 0 (zs.take (j + 1)) by rw [HTk.out, addAll_snoc]; simp [joinV, hx, addAll])
        clear hx
        go_wp2_with (go_at_call 14; refine (refWith_any _ hu _ _).mono ?_; rintro e w' ⟨he, rfl⟩; rw [E1.out, E2.out] at he; subst he)
        go_round
        case rel => exact ⟨j + 1, by omega, by go_num, rfl, by rw [HTk.out, List.all_append, HA.out]; simp [HX.out]⟩
        case measure => simp [intOf]; omega
    · obtain rfl : j = zs.length := by omega
      rw [List.take_length] at hall
      obtain ⟨b1, b2⟩ := joinV_good zs hall
      have B1 := Lib.hid b1
      have B2 := Lib.hid b2
      clear b1 b2 hall hk
      go_wp2
      go_ret2
      refine ⟨?_, rfl⟩
      rw [B1.out, B2.out]
      simp

set_option maxHeartbeats 1000000 in
theorem refInts_same (n₀ : Nat) (a1 a2 : Option Addr) (l1 l2 c1 c2 : Nat) (zs : List Int) (hlen : zs.length ≤ 100) (w : World) (h1 : Ints n₀ w (.slice a1 l1 c1) zs) (h2 : Ints n₀ w (.slice a2 l2 c2) zs) :
    Calls Tryd.prog 17 #[.slice a1 l1 c1, .slice a2 l2 c2] w fun e W' => e = .returned (.bool true) ∧ Below n₀ w W' := by
  obtain ⟨ao, cp, e, hk1⟩ := h1
  injection e with e1 e2 e3
  subst e1 e2 e3
  obtain ⟨ao2, cp2, e, hk2⟩ := h2
  injection e with e1 e2 e3
  subst e1 e2 e3
  have hne : ((zs.length : Int) != (zs.length : Int)) = false := by simp
  go_enter Tryd.func17, Tryd.ntmps17
  go_wp2
  go_loopw [5] (fun i wr => ∃ j : Nat, j ≤ zs.length ∧ i = .int .i64 j ∧ Below n₀ w wr) (fun i _ => zs.length - (intOf i).toNat)
  case atStart => exact ⟨0, by omega, rfl, Below.refl _ _⟩
  case round =>
    obtain ⟨j, hj, rfl, hB⟩ := hrel
    by_cases hlt : j < zs.length
    · have hz : zs ≠ [] := fun h => by rw [h] at hlt; simp at hlt
      obtain ⟨b1, o1, rfl, hb1, hc1⟩ := hk1 hz
      obtain ⟨b2, o2, rfl, hb2, hc2⟩ := hk2 hz
      have k1 := (hB.cell (p := ⟨b1, o1 + j, none⟩) hb1).trans (hc1 j hlt)
      have k2 := (hB.cell (p := ⟨b2, o2 + j, none⟩) hb2).trans (hc2 j hlt)
      have hx : (zs[j]?.getD 0 != zs[j]?.getD 0) = false := by simp
      have i1 : (0 : Int) ≤ (j : Int) := by omega
      have i2 : (j : Int) < (zs.length : Int) := by omega
      clear hc1 hc2 hk1 hk2 hz
      go_wp2
      go_quiet (fail)
      go_wp2
      go_roundw
      case rel => exact ⟨j + 1, by omega, by go_num, below_drewN hB _⟩
      case measure => simp [intOf]; omega
    · obtain rfl : j = zs.length := by omega
      clear hk1 hk2
      go_wp2
      go_ret
      exact ⟨rfl, hB⟩

end Go.Proofs.YtngacmkgnpgomaaDoor
