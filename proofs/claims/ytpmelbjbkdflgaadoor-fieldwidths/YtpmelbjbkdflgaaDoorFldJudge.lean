/- The widths' map, and the judge. -/
import Derived.Test.YtpmelbjbkdflgaaDoorFldSent
import Derived.Maps.OwnSet
import Derived.Maps.OwnOps
import Derived.Maps.Views
namespace Go.Proofs.YtpmelbjbkdflgaaDoor
open Go.RowKit Go.Maps

theorem lawI : Keyed Tryd.prog 3 := int_keyed Tryd.underlying3
theorem zeroU (w : World) : (zeroValue 22).run Tryd.prog w = .ok (.int .u64 0) w := by kernel_rfl

def gD : DataW Unit := ((((DataW.map []).put (.int .i64 1) (.lit (.int .u64 255))).put (.int .i64 2) (.lit (.int .u64 65535))).put (.int .i64 4) (.lit (.int .u64 4294967295))).put (.int .i64 8) (.lit (.int .u64 18446744073709551615))

/-- The widths. -/
def isW (k : Int) : Prop := k = 1 ∨ k = 2 ∨ k = 4 ∨ k = 8
instance (k : Int) : Decidable (isW k) := inferInstanceAs (Decidable (_ ∨ _))

theorem gD_has (k : Int) : Maps.has gD (.int .i64 k) = decide (isW k) := by
  by_cases h1 : k = 1
  · subst h1; decide
  by_cases h2 : k = 2
  · subst h2; decide
  by_cases h4 : k = 4
  · subst h4; decide
  by_cases h8 : k = 8
  · subst h8; decide
  have e : decide (isW k) = false := by simp [isW, h1, h2, h4, h8]
  rw [e]
  unfold gD
  rw [has_put_other (by simp [h8]), has_put_other (by simp [h4]), has_put_other (by simp [h2]), has_put_other (by simp [h1])]
  rfl

set_option maxHeartbeats 1000000 in
theorem greatest_any (w : World) :
    Calls Tryd.prog 41 #[] w fun e w' => e = .returned (.map (some w.heap.size)) ∧ w'.ownsMap Tryd.prog 3 (plainElem (H := Unit) Tryd.prog 22) w.heap.size 4 gD ∧ Below w.heap.size w w' := by
  have hmm := @run_makeMap Tryd.prog
  have o0 := World.ownsMap_made w Tryd.prog 3 (plainElem (H := Unit) Tryd.prog 22)
  obtain ⟨w1, r1, o1, m1⟩ := o0.store lawI Tryd.underlying82 (by unfold maxLen; omega) (keyOf_int_mk Tryd.underlying3 (a := 1) (by decide)) (plainElem_int Tryd.underlying22 (a := 255) (by decide))
  obtain ⟨w2, r2, o2, m2⟩ := o1.store lawI Tryd.underlying82 (by unfold maxLen; omega) (keyOf_int_mk Tryd.underlying3 (a := 2) (by decide)) (plainElem_int Tryd.underlying22 (a := 65535) (by decide))
  obtain ⟨w3, r3, o3, m3⟩ := o2.store lawI Tryd.underlying82 (by unfold maxLen; omega) (keyOf_int_mk Tryd.underlying3 (a := 4) (by decide)) (plainElem_int Tryd.underlying22 (a := 4294967295) (by decide))
  obtain ⟨w4, r4, o4, m4⟩ := o3.store lawI Tryd.underlying82 (by unfold maxLen; omega) (keyOf_int_mk Tryd.underlying3 (a := 8) (by decide)) (plainElem_int Tryd.underlying22 (a := 18446744073709551615) (by decide))
  have hB : Below w.heap.size w w4 := (Below.new w (.map #[] 0)).grown (((m1.trans m2).trans m3).trans m4).grown (by simp) (fun j hj => by cases hj; exact Nat.le_refl _)
  go_enter Tryd.func41, Tryd.ntmps41
  go_wp2
  go_ret
  exact ⟨rfl, o4, hB⟩

theorem look_g {w1 : World} {B : Nat} (o : w1.ownsMap Tryd.prog 3 (plainElem (H := Unit) Tryd.prog 22) B 4 gD) (k : Int) (hk : (Lit.int .i64 k).wf = true) :
    ∃ c : Int, (Instr.lookup 82 (.map (some B)) (.int .i64 k) true).run Tryd.prog w1 = .ok (.tuple #[.int .u64 c, .bool (decide (isW k))]) w1 ∧ (isW k → c = ((256 ^ k.toNat - 1 : Nat) : Int)) := by
  obtain ⟨v, ps, hrun, hv⟩ := o.look_ok lawI Tryd.underlying82 (zeroU _) (plainElem_int Tryd.underlying22 (a := 0) (by decide)) (keyOf_int_mk Tryd.underlying3 hk)
  obtain ⟨c, rfl, hc, _⟩ := plainElem_int_inv Tryd.underlying22 hv
  rw [gD_has] at hrun
  refine ⟨c, hrun, fun h => ?_⟩
  simp only [Prod.mk.injEq] at hc
  have hc1 := hc.1
  rcases h with rfl | rfl | rfl | rfl
  · have e : gD.atKey (.int .i64 1) (.lit (.int .u64 0)) = .lit (.int .u64 255) := rfl
    have e2 : ((256 ^ (1 : Int).toNat - 1 : Nat) : Int) = 255 := by decide
    have e3 := (Lit.int.inj (DataW.lit.inj (e.symm.trans hc1))).2
    rw [e2, ← e3]
  · have e : gD.atKey (.int .i64 2) (.lit (.int .u64 0)) = .lit (.int .u64 65535) := rfl
    have e2 : ((256 ^ (2 : Int).toNat - 1 : Nat) : Int) = 65535 := by decide
    have e3 := (Lit.int.inj (DataW.lit.inj (e.symm.trans hc1))).2
    rw [e2, ← e3]
  · have e : gD.atKey (.int .i64 4) (.lit (.int .u64 0)) = .lit (.int .u64 4294967295) := rfl
    have e2 : ((256 ^ (4 : Int).toNat - 1 : Nat) : Int) = 4294967295 := by decide
    have e3 := (Lit.int.inj (DataW.lit.inj (e.symm.trans hc1))).2
    rw [e2, ← e3]
  · have e : gD.atKey (.int .i64 8) (.lit (.int .u64 0)) = .lit (.int .u64 18446744073709551615) := rfl
    have e2 : ((256 ^ (8 : Int).toNat - 1 : Nat) : Int) = 18446744073709551615 := by decide
    have e3 := (Lit.int.inj (DataW.lit.inj (e.symm.trans hc1))).2
    rw [e2, ← e3]

/-- What the judge answers. -/
def judgeV (s : Sn) (k : Int) (n : Nat) : Value := if isW k then (if n < 256 ^ k.toNat then .nilIface else faultV k s.g) else faultV k s.w

set_option maxHeartbeats 1000000 in
set_option maxRecDepth 100000 in
theorem judge_any (s : Sn) (k : Int) (hk : (Lit.int .i64 k).wf = true) (n : Nat) (w : World) (hs : Sent s w) :
    Calls Tryd.prog 33 #[.int .i64 k, .int .u64 n] w fun e w' => e = .returned (judgeV s k n) ∧ Below w.heap.size w w' := by
  have HK := Lib.hid hk
  clear hk
  have HS := Lib.hid hs
  clear hs
  go_enter Tryd.func33, Tryd.ntmps33
  go_wp2_with (go_at_call 41; refine (greatest_any w).mono ?_)
  rintro e w1 ⟨rfl, o1, b1⟩
  obtain ⟨c, hl, hc⟩ := look_g o1 k HK.out
  have s1 := HS.out.more b1
  have gw := s1.cw
  have gg := s1.cg
  have HC := Lib.hid hc
  clear hc s1 o1
  by_cases h : isW k
  · have hd : decide (isW k) = true := by simp [h]
    rw [hd] at hl
    have hc := HC.out h
    have hp : 1 ≤ 256 ^ k.toNat := Nat.pow_pos (by decide)
    by_cases hn : n < 256 ^ k.toNat
    · have hno : ¬ c < (n : Int) := by rw [hc]; omega
      have ej : judgeV s k n = .nilIface := by simp [judgeV, h, hn]
      have EJ := Lib.hid ej
      clear HC hc hd hp ej hn h
      go_wp2
      go_ret
      exact ⟨by rw [EJ.out]; rfl, b1⟩
    · have hno : c < (n : Int) := by rw [hc]; omega
      have ej : judgeV s k n = faultV k s.g := by simp [judgeV, h, hn]
      have EJ := Lib.hid ej
      clear HC hc hd hp ej hn h
      go_wp2
      go_ret
      exact ⟨by rw [EJ.out]; rfl, b1⟩
  · have hd : decide (isW k) = false := by simp [h]
    rw [hd] at hl
    have ej : judgeV s k n = faultV k s.w := by simp [judgeV, h]
    have EJ := Lib.hid ej
    clear HC hd ej h
    go_wp2
    go_ret
    exact ⟨by rw [EJ.out]; rfl, b1⟩

end Go.Proofs.YtpmelbjbkdflgaaDoor
