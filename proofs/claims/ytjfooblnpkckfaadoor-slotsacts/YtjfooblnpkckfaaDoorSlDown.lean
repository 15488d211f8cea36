/- Package heap over the list: down, Pop, Push. -/
import Derived.Test.YtjfooblnpkckfaaDoorSlHeap
namespace Go.Proofs.YtjfooblnpkckfaaDoor
open Go.RowKit Go.Proofs.Slt

/-- down's word between two rounds. -/
def DnI (n0 S g c n : Nat) (v0 v2 : Value) (l : List Int) (w : World) (i : Nat) (l' : List Int) (wr : World) : Prop := i ≤ n ∧ l'.length = l.length ∧ l'.Perm l ∧ DnOk l' n i ∧ (∀ k, n ≤ k → at_ l' k = at_ l k) ∧ Hv n0 wr S g c v0 v2 l' ∧ Fr S g g w wr

set_option maxRecDepth 100000 in
set_option maxHeartbeats 4000000 in
theorem down_any (n0 S g c n : Nat) (v0 v2 : Value) (l : List Int) (w : World) (h : Hv n0 w S g c v0 v2 l) (hu : DnOk l n 0) (hlen : l.length = n + 1) (hl : n ≤ 1000) :
    Calls Tryd.prog 43 #[.iface 76 (.pointer (some ⟨S, 1, none⟩)), .int .i64 0, .int .i64 n] w fun e w' => (∃ u, e = .returned u) ∧ HpPost n0 S g c v0 v2 l n w w' := by
  have HH := Lib.hid (And.intro h hu)
  have HN := Lib.hid hlen
  clear h hu hlen
  go_enter Tryd.func43, Tryd.ntmps43
  go_wp2
  go_loopw [7] (fun v wr => ∃ (i : Nat) (l' : List Int), v = .int .i64 i ∧ Hid (DnI n0 S g c n v0 v2 l w i l' wr)) (fun v _ => n - (intOf v).toNat)
  case atStart => exact ⟨0, l, rfl, Nat.zero_le _, rfl, List.Perm.refl _, HH.out.2, fun _ _ => rfl, HH.out.1, Fr.refl _ _ _ _⟩
  case round =>
    obtain ⟨i, l', rfl, HX⟩ := hrel
    have hln : Hid (l'.length = n + 1) := HX.out.2.1.trans HN.out
    have hin : i ≤ n := HX.out.1
    obtain ⟨j1, hj1⟩ : ∃ j1 : Nat, 2 * i + 1 = j1 := ⟨_, rfl⟩
    have e1 : 2 * (i : Int) + 1 = (j1 : Int) := by omega
    have HJ1 := Lib.hid hj1
    clear hj1
    by_cases hlt : j1 < n
    · have e2 : (j1 : Int) + 1 = ((j1 + 1 : Nat) : Int) := by omega
      obtain ⟨j2, hj2⟩ : ∃ j2 : Nat, j1 + 1 = j2 := ⟨_, rfl⟩
      rw [hj2] at e2
      have d1 : decide ((j1 : Int) ≥ (n : Int)) = false := by simp; omega
      have d2 : decide ((j1 : Int) < 0) = false := by simp
      have HJ2 := Lib.hid hj2
      have hi1 : i < j1 := by have := HJ1.out; omega
      have b2 : j2 ≤ n := by omega
      have b1 : j1 < j2 := by omega
      have hc1 := HJ1.out
      clear hj2
      by_cases hlt2 : j2 < n
      · have c1 := HX.out.2.2.2.2.2.1.c1 hln.out
        have m1 := mLess S 1 _ wr c1
        obtain ⟨xv, hxv⟩ : ∃ xv, decide (at_ l' j2 < at_ l' j1) = xv := ⟨_, rfl⟩
        have HD := Lib.hid hxv
        have hc2 := Lib.hid hc1
        clear hxv hc1
        go_wp2_with (go_at_call 60; refine (less_n (n + 1) n0 g c j2 j1 l' hln.out wr HX.out.2.2.2.2.2.1.2 (by omega) (by omega)).mono ?_)
        rintro e W1 ⟨he, hb⟩
        rw [HD.out] at he
        subst he
        have HV1 := Lib.hid (HX.out.2.2.2.2.2.1.of_below hb)
        have HF1 := Lib.hid (HX.out.2.2.2.2.2.2.trans (Fr.of_below hb))
        clear m1 c1 hb
        cases xv with
        | true =>
          have HM : Hid (∀ k, 0 < k → k < n → (k - 1) / 2 = i → at_ l' j2 ≤ at_ l' k) := by
            intro k k0 hk hp
            have hd := HD.out
            simp at hd
            have := hc2.out
            have := HJ2.out
            rcases (show k = j1 ∨ k = j2 by omega) with rfl | rfl <;> omega
          have c3 := HV1.out.c1 hln.out
          have m3 := mLess S 1 _ W1 c3
          obtain ⟨yv, hyv⟩ : ∃ yv, decide (at_ l' j2 < at_ l' i) = yv := ⟨_, rfl⟩
          have HE := Lib.hid hyv
          clear hyv
          go_wp2_with (go_at_call 60; refine (less_n (n + 1) n0 g c j2 i l' hln.out _ HV1.out.2 (by omega) (by omega)).mono ?_)
          rintro e w3 ⟨he, hb3⟩
          rw [HE.out] at he
          subst he
          have hv3 := Lib.hid (HV1.out.of_below hb3)
          have hf3 := Lib.hid (HF1.out.trans (Fr.of_below hb3))
          clear m3 c3 hb3
          cases yv with
          | false =>
            go_wp2
            go_ret
            refine ⟨⟨_, rfl⟩, l', HX.out.2.2.1, HX.out.2.2.2.1.done (fun k k0 hk hp => ?_), HX.out.2.2.2.2.1, hv3.out, hf3.out⟩
            have := HM.out k k0 hk hp
            have he := HE.out
            simp at he
            omega
          | true =>
            have c4 := hv3.out.c1 hln.out
            have m4 := mSwap S 1 _ w3 c4
            go_wp2_with (go_at_call 61; refine (swap_n (n + 1) n0 g c i j2 l' hln.out w3 hv3.out.2 (by omega) (by omega)).mono ?_)
            rintro e w4 ⟨⟨v, rfl⟩, hr, hf⟩
            have hv4 := Lib.hid (hv3.out.swapped hr (swp_length _ _ _) hf)
            have hf4 := Lib.hid (hf3.out.trans hf.one)
            clear m4 c4 hr hf
            go_wp2
            go_roundw
            case rel =>
              refine ⟨j2, swp l' i j2, rfl, by omega, (swp_length _ _ _).trans HX.out.2.1, (swp_perm (by rw [hln.out]; omega) (by rw [hln.out]; omega)).trans HX.out.2.2.1, ?_, ?_, hv4.out, hf4.out⟩
              · exact HX.out.2.2.2.1.step (by omega) (by have := hc2.out; have := HJ2.out; omega) (by omega) (by rw [hln.out]; omega) (by simpa using HE.out) HM.out
              · intro k hk
                rw [at_swp (by rw [hln.out]; omega) (by rw [hln.out]; omega), if_neg (by omega), if_neg (by omega)]
                exact HX.out.2.2.2.2.1 k hk
            case measure => simp [intOf]; omega
        | false =>
          have HM : Hid (∀ k, 0 < k → k < n → (k - 1) / 2 = i → at_ l' j1 ≤ at_ l' k) := by
            intro k k0 hk hp
            have hd := HD.out
            simp at hd
            have := hc2.out
            have := HJ2.out
            rcases (show k = j1 ∨ k = j2 by omega) with rfl | rfl <;> omega
          have c3 := HV1.out.c1 hln.out
          have m3 := mLess S 1 _ W1 c3
          obtain ⟨yv, hyv⟩ : ∃ yv, decide (at_ l' j1 < at_ l' i) = yv := ⟨_, rfl⟩
          have HE := Lib.hid hyv
          clear hyv
          go_wp2_with (go_at_call 60; refine (less_n (n + 1) n0 g c j1 i l' hln.out _ HV1.out.2 (by omega) (by omega)).mono ?_)
          rintro e w3 ⟨he, hb3⟩
          rw [HE.out] at he
          subst he
          have hv3 := Lib.hid (HV1.out.of_below hb3)
          have hf3 := Lib.hid (HF1.out.trans (Fr.of_below hb3))
          clear m3 c3 hb3
          cases yv with
          | false =>
            go_wp2
            go_ret
            refine ⟨⟨_, rfl⟩, l', HX.out.2.2.1, HX.out.2.2.2.1.done (fun k k0 hk hp => ?_), HX.out.2.2.2.2.1, hv3.out, hf3.out⟩
            have := HM.out k k0 hk hp
            have he := HE.out
            simp at he
            omega
          | true =>
            have c4 := hv3.out.c1 hln.out
            have m4 := mSwap S 1 _ w3 c4
            go_wp2_with (go_at_call 61; refine (swap_n (n + 1) n0 g c i j1 l' hln.out w3 hv3.out.2 (by omega) (by omega)).mono ?_)
            rintro e w4 ⟨⟨v, rfl⟩, hr, hf⟩
            have hv4 := Lib.hid (hv3.out.swapped hr (swp_length _ _ _) hf)
            have hf4 := Lib.hid (hf3.out.trans hf.one)
            clear m4 c4 hr hf
            go_wp2
            go_roundw
            case rel =>
              refine ⟨j1, swp l' i j1, rfl, by omega, (swp_length _ _ _).trans HX.out.2.1, (swp_perm (by rw [hln.out]; omega) (by rw [hln.out]; omega)).trans HX.out.2.2.1, ?_, ?_, hv4.out, hf4.out⟩
              · exact HX.out.2.2.2.1.step (by omega) (by have := hc2.out; have := HJ2.out; omega) (by omega) (by rw [hln.out]; omega) (by simpa using HE.out) HM.out
              · intro k hk
                rw [at_swp (by rw [hln.out]; omega) (by rw [hln.out]; omega), if_neg (by omega), if_neg (by omega)]
                exact HX.out.2.2.2.2.1 k hk
            case measure => simp [intOf]; omega
      · have HM : Hid (∀ k, 0 < k → k < n → (k - 1) / 2 = i → at_ l' j1 ≤ at_ l' k) := by
          intro k k0 hk hp
          have := HJ2.out
          obtain rfl : k = j1 := by omega
          exact Int.le_refl _
        have hc2 := Lib.hid hc1
        have d3 : decide ((j2 : Int) < (n : Int)) = false := by simp; omega
        clear hc1
        have HV1 := Lib.hid HX.out.2.2.2.2.2.1
        have HF1 := Lib.hid HX.out.2.2.2.2.2.2
        obtain ⟨W1, hW1⟩ : ∃ W1, W1 = wr := ⟨_, rfl⟩
        subst hW1
        have c3 := HV1.out.c1 hln.out
        have m3 := mLess S 1 _ W1 c3
        obtain ⟨yv, hyv⟩ : ∃ yv, decide (at_ l' j1 < at_ l' i) = yv := ⟨_, rfl⟩
        have HE := Lib.hid hyv
        clear hyv
        go_wp2_with (go_at_call 60; refine (less_n (n + 1) n0 g c j1 i l' hln.out _ HV1.out.2 (by omega) (by omega)).mono ?_)
        rintro e w3 ⟨he, hb3⟩
        rw [HE.out] at he
        subst he
        have hv3 := Lib.hid (HV1.out.of_below hb3)
        have hf3 := Lib.hid (HF1.out.trans (Fr.of_below hb3))
        clear m3 c3 hb3
        cases yv with
        | false =>
          go_wp2
          go_ret
          refine ⟨⟨_, rfl⟩, l', HX.out.2.2.1, HX.out.2.2.2.1.done (fun k k0 hk hp => ?_), HX.out.2.2.2.2.1, hv3.out, hf3.out⟩
          have := HM.out k k0 hk hp
          have he := HE.out
          simp at he
          omega
        | true =>
          have c4 := hv3.out.c1 hln.out
          have m4 := mSwap S 1 _ w3 c4
          go_wp2_with (go_at_call 61; refine (swap_n (n + 1) n0 g c i j1 l' hln.out w3 hv3.out.2 (by omega) (by omega)).mono ?_)
          rintro e w4 ⟨⟨v, rfl⟩, hr, hf⟩
          have hv4 := Lib.hid (hv3.out.swapped hr (swp_length _ _ _) hf)
          have hf4 := Lib.hid (hf3.out.trans hf.one)
          clear m4 c4 hr hf
          go_wp2
          go_roundw
          case rel =>
            refine ⟨j1, swp l' i j1, rfl, by omega, (swp_length _ _ _).trans HX.out.2.1, (swp_perm (by rw [hln.out]; omega) (by rw [hln.out]; omega)).trans HX.out.2.2.1, ?_, ?_, hv4.out, hf4.out⟩
            · exact HX.out.2.2.2.1.step (by omega) (by have := hc2.out; have := HJ2.out; omega) (by omega) (by rw [hln.out]; omega) (by simpa using HE.out) HM.out
            · intro k hk
              rw [at_swp (by rw [hln.out]; omega) (by rw [hln.out]; omega), if_neg (by omega), if_neg (by omega)]
              exact HX.out.2.2.2.2.1 k hk
          case measure => simp [intOf]; omega
    · have hcd : ∀ k, 0 < k → k < n → (k - 1) / 2 = i → at_ l' i ≤ at_ l' k := fun k k0 hk hp => absurd HJ1.out (by omega)
      have HC := Lib.hid hcd
      have d1 : decide ((j1 : Int) ≥ (n : Int)) = true := by simp; omega
      clear hcd
      go_wp2
      go_ret
      exact ⟨⟨_, rfl⟩, l', HX.out.2.2.1, HX.out.2.2.2.1.done HC.out, HX.out.2.2.2.2⟩

end Go.Proofs.YtjfooblnpkckfaaDoor
