/- FileBack: the walk. -/
import Derived.Test.YtmaolhaddgecpaaDoorFlShown
import Derived.Test.YtmaolhaddgecpaaDoorLawSplices
import Derived.BigQuiet
import Derived.LoopTactic
namespace Go.Proofs.YtmaolhaddgecpaaDoor
open Go.RowKit Go.Proofs.Fld Go.Proofs.Fil Go.Shelf Go.Sort

theorem str_idx (l : List UInt8) (i : Nat) (b : UInt8) (h : l[i]? = some b) (V : Int) (hV : (b.toNat : Int) = V) (w : World) : (Instr.index 9 (.string (bs l)) (.int .i64 (i : Int))).run Tryd.prog w = .ok (.int .u8 V) w := by
  obtain ⟨hi, hb⟩ := List.getElem?_eq_some_iff.1 h
  rw [run_index_string _ _ _ _ _ Tryd.underlying9, dif_pos (by rw [bs_size]; omega)]
  have e : ∀ (j : Nat) (hj : j < (bs l).size), j = i → (bs l)[j] = b := by
    rintro j hj rfl
    exact hb
  rw [e _ _ (by simp), hV]
set_option maxRecDepth 100000 in
set_option maxHeartbeats 8000000 in
theorem back_walk (s t : It) (o : Int) (hs : s.length ≤ 9223372036854775807) (ht : t.length ≤ 9223372036854775807) (w : World) (hg : ErrT w) :
    Calls Tryd.prog 5 #[.string (bs s), .string (bs t), .int .i64 o] w (TruePost w) := by
  obtain ⟨y, hy⟩ : ∃ v, s.take 1010 = v := ⟨_, rfl⟩
  have ly : y.length ≤ 1010 := by rw [← hy, List.length_take]; omega
  have Cy := Lib.hid (fun W => hy ▸ lcut_any s hs W)
  clear hy
  obtain ⟨z, hz⟩ : ∃ v, t.take 1010 = v := ⟨_, rfl⟩
  have lz : z.length ≤ 1010 := by rw [← hz, List.length_take]; omega
  have Cz := Lib.hid (fun W => hz ▸ lcut_any t ht W)
  clear hz
  have hn := bs_nil
  have zz := bs_size z
  have zy := bs_size y
  have HG := Lib.hid (And.intro hg (Below.refl w.heap.size w))
  clear hg
  cases hr1 : writeR y o z with
  | none =>
    go_enter Tryd.func5, Tryd.ntmps5
    go_wp2_with (go_at_call 10; refine (shown_any _ HG.out.1).mono ?_)
    rintro e w1 ⟨rfl, hb⟩
    replace HG := Lib.hid (And.intro (HG.out.1.more hb) (below_more HG.out.2 hb))
    clear hb
    go_wp2_with (go_at_call 11; refine (Cy.out _).mono ?_)
    rintro e w2 ⟨rfl, rfl⟩
    go_wp2_with (go_at_call 11; refine (Cz.out _).mono ?_)
    rintro e w3 ⟨rfl, rfl⟩
    go_wp2_with (go_at_call 12; refine (Write_p (by omega) hr1 txt_none errR_none HG.out.1).mono ?_)
    rintro e w4 ⟨rfl, hb⟩
    replace HG := Lib.hid (And.intro (HG.out.1.more hb) (below_more HG.out.2 hb))
    clear hb
    go_wp2
    go_ret
    exact ⟨rfl, HG.out.2⟩
  | some a =>
    obtain ⟨e1, e2⟩ := back_read hr1
    obtain ⟨k, rfl, hk, hy1, hkz, he⟩ := writeR_some hr1
    have hsame := fun i hi hx => back_same (i := i) hr1 hi hx
    have za := bs_size a
    obtain ⟨SL, hSL⟩ : ∃ v, y.length = v := ⟨_, rfl⟩
    obtain ⟨TL, hTL⟩ : ∃ v, z.length = v := ⟨_, rfl⟩
    obtain ⟨AL, hAL⟩ : ∃ v, a.length = v := ⟨_, rfl⟩
    obtain ⟨E, hE⟩ : ∃ v, k + TL = v := ⟨_, rfl⟩
    have e3 : (AL : Int) = if (SL : Int) < (E : Int) then (E : Int) else (SL : Int) := by
      rw [hAL, hSL, hTL] at e2
      rw [e2]
      split <;> split <;> omega
    have HMX := Lib.hid (show max (SL : Int) (E : Int) = (AL : Int) by rw [e3]; split <;> omega)
    have hAS : SL ≤ AL := by split at e3 <;> omega
    have HW := Lib.hid (wrap_add k TL E hE (by omega))
    have ly2 : z.length ≤ 1000000000000000000 := by omega
    have HX := Lib.hid (And.intro hr1 (And.intro e1 (And.intro hsame (And.intro hAL (And.intro hSL (And.intro hTL hE))))))
    rw [hSL] at zy
    rw [hTL] at zz HX
    rw [hAL] at za
    have hAS2 := Lib.hid hAS
    clear hr1 e1 e2 e3 hsame hk hy1 hkz he hSL hTL hAL hE hAS
    go_enter Tryd.func5, Tryd.ntmps5
    go_wp2_with (go_at_call 10; refine (shown_any _ HG.out.1).mono ?_)
    rintro e w5 ⟨rfl, hb⟩
    replace HG := Lib.hid (And.intro (HG.out.1.more hb) (below_more HG.out.2 hb))
    clear hb
    go_wp2_with (go_at_call 11; refine (Cy.out _).mono ?_)
    rintro e w6 ⟨rfl, rfl⟩
    go_wp2_with (go_at_call 11; refine (Cz.out _).mono ?_)
    rintro e w7 ⟨rfl, rfl⟩
    go_wp2_with (go_at_call 12; refine (Write_p ly2 HX.out.1 (txt_some a) (errR_some a) HG.out.1).mono ?_)
    rintro e w8 ⟨rfl, hb⟩
    replace HG := Lib.hid (And.intro (HG.out.1.more hb) (below_more HG.out.2 hb))
    clear hb
    go_wp2_with (go_at_call 14; refine (Read_p HX.out.2.1 (txt_some z) (errR_some z) HG.out.1).mono ?_)
    rintro e w9 ⟨rfl, hb⟩
    replace HG := Lib.hid (And.intro (HG.out.1.more hb) (below_more HG.out.2 hb))
    clear hb
    have hw2 := HW.out
    have hmx := HMX.out
    go_wp2
    clear hmx
    go_loopw [12] (fun v wr => ∃ i : Nat, i ≤ SL ∧ v = .int .i64 (i : Int) ∧ Hid (Below w.heap.size w wr)) (fun v _ => SL - (intOf v).toNat)
    case atStart => exact ⟨0, Nat.zero_le _, rfl, HG.out.2⟩
    case round =>
      clear hw2
      obtain ⟨i, hi, rfl, HB⟩ := hrel
      by_cases hlt : i < SL
      · have d1 : decide ((i : Int) < (SL : Int)) = true := decide_eq_true (by omega)
        have d2 : decide (i < SL) = true := decide_eq_true hlt
        have HWI := Lib.hid (show IntKind.i64.wrap ((i : Int) + 1) = ((i + 1 : Nat) : Int) by have := HX.out.2.2.2.2.1; rw [IntKind.wrap_i64]; omega)
        have HI := Lib.hid hlt
        by_cases hik : i < k
        · have d3 : decide ((i : Int) < (k : Int)) = true := decide_eq_true (by omega)
          have d4 : decide (i < k) = true := decide_eq_true hik
          obtain ⟨b, hb⟩ : ∃ b, y[i]? = some b := ⟨_, List.getElem?_eq_getElem (by rw [HX.out.2.2.2.2.1]; exact hlt)⟩
          have hb2 : a[i]? = some b := (HX.out.2.2.1 i (by rw [HX.out.2.2.2.2.1]; exact hlt) (.inl hik)).trans hb
          obtain ⟨V, hV⟩ : ∃ V : Int, (b.toNat : Int) = V := ⟨_, rfl⟩
          have i1 := str_idx y i b hb V hV
          have i2 := str_idx a i b hb2 V hV
          clear hb hb2 hV hik hlt
          have hw2 := HW.out
          have hwi := HWI.out
          go_wp2
          go_quiet (fail)
          go_wp2
          go_roundw
          case rel => exact ⟨i + 1, HI.out, by simp, below_drewN HB.out _⟩
          case measure => have := HI.out; clear hw2 hwi; simp [intOf]; omega
        · have d3 : decide ((i : Int) < (k : Int)) = false := decide_eq_false (by omega)
          have d4 : decide (i < k) = false := decide_eq_false hik
          by_cases hie : E ≤ i
          · have d5 : decide ((i : Int) ≥ (E : Int)) = true := decide_eq_true (by omega)
            have d6 : decide (E ≤ i) = true := decide_eq_true hie
            obtain ⟨b, hb⟩ : ∃ b, y[i]? = some b := ⟨_, List.getElem?_eq_getElem (by rw [HX.out.2.2.2.2.1]; exact hlt)⟩
            have hb2 : a[i]? = some b := (HX.out.2.2.1 i (by rw [HX.out.2.2.2.2.1]; exact hlt) (.inr (by rw [HX.out.2.2.2.2.2.2]; exact hie))).trans hb
            obtain ⟨V, hV⟩ : ∃ V : Int, (b.toNat : Int) = V := ⟨_, rfl⟩
            have i1 := str_idx y i b hb V hV
            have i2 := str_idx a i b hb2 V hV
            clear hb hb2 hV hik hlt hie
            have hw2 := HW.out
            have hwi := HWI.out
            go_wp2
            go_quiet (fail)
            go_wp2
            go_roundw
            case rel => exact ⟨i + 1, HI.out, by simp, below_drewN HB.out _⟩
            case measure => have := HI.out; clear hw2 hwi; simp [intOf]; omega
          · have d5 : decide ((i : Int) ≥ (E : Int)) = false := decide_eq_false (by omega)
            have d6 : decide (E ≤ i) = false := decide_eq_false hie
            clear hik hlt hie
            have hw2 := HW.out
            have hwi := HWI.out
            go_wp2
            go_quiet (fail)
            go_wp2
            go_roundw
            case rel => exact ⟨i + 1, HI.out, by simp, below_drewN HB.out _⟩
            case measure => have := HI.out; clear hw2 hwi; simp [intOf]; omega
      · obtain rfl : i = SL := by omega
        have d1 : decide ((i : Int) < (i : Int)) = false := decide_eq_false (by omega)
        go_wp2
        go_ret
        exact ⟨rfl, HB.out⟩
end Go.Proofs.YtmaolhaddgecpaaDoor
