/- The statement CatsBack, walked. -/
import Derived.Test.YtngacmkgnpgomaaDoorSorted
namespace Go.Proofs.YtngacmkgnpgomaaDoor
open Go.RowKit Go.Proofs.Cats

/-- What has been seen of the numbers' rising when the counter is j. -/
def RoseTo (zs : List Int) (j : Nat) (r : Bool) : Prop := r = true → ∀ i, i + 1 < j → i + 1 < zs.length → zs[i]?.getD 0 < zs[i + 1]?.getD 0

set_option maxHeartbeats 2000000 in
theorem back_any (s : Nat) (a : Option Addr) (len cap : Nat) (zs : List Int) (hs : U64 s) (ga : Addr) (w : World) (hl : IntsIn w a len cap zs) (hg : Glob ga w) :
    Calls Tryd.prog 5 #[.int .u64 s, .slice a len cap] w fun e W' => e = .returned (.bool true) ∧ Below w.heap.size w W' := by
  obtain ⟨hI, hlen, hlc, hcm, hn⟩ := hl
  have hF := Lib.hid (ints_take hI 100)
  have hk : (zs.take 100).length ≤ 100 := List.length_take_le _ _
  have FW := Lib.hid (fun W => few_any a len cap hlc hcm hn W)
  have h0 := hg.lt
  have HI := Lib.hid hI
  have J1 := Lib.hid (join_listTo s hs)
  have LL := listTo_le s 64
  have HS := Lib.hid (steps_of_pairwise _ (listTo_sorted s 64))
  have hlm : len ≤ maxLen := Nat.le_trans hlc hcm
  unfold maxLen at hlm
  clear hI hn hlc hcm
  go_enter Tryd.func5, Tryd.ntmps5
  go_wp2_with fail
  refine (shown_any ga w hg).mono ?_
  rintro e w1 ⟨rfl, hb1⟩
  have g1 := Lib.hid (hg.below hg.lt hb1)
  have z1 := hb1.size
  go_wp2_with fail
  refine (list_any s hs ga w1 g1.out).mono ?_
  rintro e w2 ⟨a2, l2, c2, rfl, hl2, ho2, hb2⟩
  have I2 := ints_of_owns ho2
  have g2 := Lib.hid (g1.out.below g1.out.lt hb2)
  have B2 := hb1.trans (hb2.mono z1)
  have z2 := B2.size
  clear hb2 ho2
  have hcs : Hid (∀ k, k + 1 < l2 → ∃ b off, a2 = some ⟨b, off, none⟩ ∧ b < w2.heap.size ∧ w2.cell? ⟨b, off + k, none⟩ = some (.int .i64 ((listTo s 64)[k]?.getD 0)) ∧ w2.cell? ⟨b, off + (k + 1), none⟩ = some (.int .i64 ((listTo s 64)[k + 1]?.getD 0))) := Lib.hid (fun k hk => by
    obtain ⟨ao, cp, e, hc⟩ := I2
    injection e with e1 e2 e3
    subst e1 e2 e3
    obtain ⟨b, off, rfl, hb, hcc⟩ := hc (fun h => by rw [h] at hk; simp at hk)
    exact ⟨b, off, rfl, hb, hcc k (by omega), hcc (k + 1) hk⟩)
  have HL2 := Lib.hid hl2
  have I2' := Lib.hid I2
  have ll2 : l2 ≤ 64 := by omega
  clear hl2 I2
  go_wp2_with fail
  go_loopw [7] (fun i wr => ∃ k : Nat, (k = 0 ∨ k < l2) ∧ i = .int .i64 ((k : Int) + 1) ∧ Below w2.heap.size w2 wr) (fun i _ => l2 - (intOf i).toNat)
  case atStart => exact ⟨0, .inl rfl, rfl, Below.refl _ _⟩
  case round =>
    obtain ⟨k, hk1, rfl, hB⟩ := hrel
    by_cases hlt : k + 1 < l2
    · obtain ⟨b, off, rfl, hb, k1, k2⟩ := hcs.out k hlt
      have q1 := (hB.cell (p := ⟨b, off + k, none⟩) hb).trans k1
      have q2 := (hB.cell (p := ⟨b, off + (k + 1), none⟩) hb).trans k2
      have hst := HS.out k (by rw [← HL2.out]; exact hlt)
      clear k1 k2 hk1
      generalize (listTo s 64)[k]?.getD 0 = x at *
      generalize (listTo s 64)[k + 1]?.getD 0 = y at *
      have i1 : (0 : Int) ≤ (k : Int) := by omega
      have i2 : (k : Int) < (l2 : Int) := by omega
      have i3 : (k : Int) + 1 < (l2 : Int) := by omega
      have i4 : (0 : Int) ≤ (k : Int) + 1 := by omega
      have hge : decide (y ≤ x) = false := by simp; omega
      have t1 : ((k : Int) + 1).toNat = k + 1 := by omega
      go_wp2
      go_quiet (fail)
      go_wp2
      go_roundw
      case rel => exact ⟨k + 1, .inr hlt, by go_num, below_drewN hB _⟩
      case measure => simp [intOf]; omega
    · have hx1 : ¬ (k : Int) + 1 < (l2 : Int) := by omega
      have g3 := Lib.hid (g2.out.below g2.out.lt hB)
      have B3 := B2.trans (hB.mono z2)
      have z3 := B3.size
      have I3 := Lib.hid ((I2'.out.below hB).mono hB.size)
      clear hk1 hlt hcs hB
      go_wp2_with fail
      refine (of_any a2 l2 c2 (listTo s 64) ga (by omega) wr I3.out g3.out).mono ?_
      rintro e w4 ⟨he, hb4⟩
      rw [J1.out.1, J1.out.2] at he
      subst he
      have g4 := Lib.hid (g3.out.below g3.out.lt hb4)
      have B4 := B3.trans (hb4.mono z3)
      have z4 := B4.size
      clear hb4
      go_wp2_with fail
      refine (FW.out w4).mono ?_
      rintro e w' ⟨rfl, rfl⟩
      go_wp2_with fail
      refine (of_any a (min len 100) cap (zs.take 100) ga (by omega) w4 ((hF.out.below B4).mono z4) g4.out).mono ?_
      rintro e w5 ⟨rfl, hb5⟩
      have g5 := Lib.hid (g4.out.below g4.out.lt hb5)
      have B5 := B4.trans (hb5.mono z4)
      have z5 := B5.size
      clear hb5
      go_wp2_with fail
      refine (list_any (joinV 0 (zs.take 100)) (joinV_u64 0 _ (by unfold U64; omega)) ga w5 g5.out).mono ?_
      rintro e w6 ⟨a6, l6, c6, rfl, hl6, ho6, hb6⟩
      have I6 := Lib.hid (ints_of_owns ho6)
      have g6 := Lib.hid (g5.out.below g5.out.lt hb6)
      have B6 := B5.trans (hb6.mono z5)
      have z6 := B6.size
      clear hb6 ho6 hl6
      have hcz : Hid (∀ k, k + 1 < len → ∃ b off, a = some ⟨b, off, none⟩ ∧ b < w.heap.size ∧ w.cell? ⟨b, off + k, none⟩ = some (.int .i64 (zs[k]?.getD 0)) ∧ w.cell? ⟨b, off + (k + 1), none⟩ = some (.int .i64 (zs[k + 1]?.getD 0))) := Lib.hid (fun k hk => by
        obtain ⟨ao, cp, e, hc⟩ := HI.out
        injection e with e1 e2 e3
        subst e1 e2 e3
        obtain ⟨b, off, rfl, hb, hcc⟩ := hc (fun h => by rw [h] at hk; simp at hk)
        exact ⟨b, off, rfl, hb, hcc k (by omega), hcc (k + 1) hk⟩)
      have HLn := Lib.hid hlen
      clear hlen
      go_wp2_with fail
      go_loopw [13, 14] (fun r i wr => ∃ (k : Nat) (rb : Bool), k + 1 ≤ 100 ∧ (k = 0 ∨ k < len) ∧ i = .int .i64 ((k : Int) + 1) ∧ r = .bool rb ∧ RoseTo zs (k + 1) rb ∧ Below w6.heap.size w6 wr) (fun _ i _ => 100 - (intOf i).toNat)
      case atStart => exact ⟨0, true, by omega, .inl rfl, rfl, rfl, fun _ i h => by omega, Below.refl _ _⟩
      case round =>
        obtain ⟨m, rb, hm, hm1, rfl, rfl, hR, hB⟩ := hrel
        by_cases hlt : m + 1 < len ∧ m + 1 < 100
        · obtain ⟨hl1, hl2⟩ := hlt
          obtain ⟨b, off, rfl, hb, k1, k2⟩ := hcz.out m hl1
          have B7 := B6.trans (hB.mono z6)
          have q1 := (B7.cell (p := ⟨b, off + m, none⟩) hb).trans k1
          have q2 := (B7.cell (p := ⟨b, off + (m + 1), none⟩) hb).trans k2
          have HR := Lib.hid hR
          clear k1 k2 hm1 hR
          have i1 : (0 : Int) ≤ (m : Int) := by omega
          have i2 : (m : Int) < (len : Int) := by omega
          have i3 : (m : Int) + 1 < (len : Int) := by omega
          have i4 : (0 : Int) ≤ (m : Int) + 1 := by omega
          have i5 : (m : Int) + 1 < 100 := by omega
          have t1 : ((m : Int) + 1).toNat = m + 1 := by omega
          cases rb
          · go_wp2
            go_quiet (fail)
            go_wp2
            go_roundw
            case rel => exact ⟨m + 1, false, by omega, .inr hl1, by go_num, rfl, (fun h => by cases h), below_drewN hB _⟩
            case measure => simp [intOf]; omega
          · have hst : Hid (RoseTo zs (m + 1 + 1) (decide (zs[m]?.getD 0 < zs[m + 1]?.getD 0))) := Lib.hid (fun h i hi hz => by
              by_cases e : i = m
              · subst e; simpa using h
              · exact HR.out rfl i (by omega) hz)
            generalize zs[m]?.getD 0 = x at *
            generalize zs[m + 1]?.getD 0 = y at *
            go_wp2
            go_quiet (fail)
            go_wp2
            go_roundw
            case rel => exact ⟨m + 1, _, by omega, .inr hl1, by go_num, rfl, hst.out, below_drewN hB _⟩
            case measure => simp [intOf]; omega
        · have g7 := Lib.hid (g6.out.below g6.out.lt hB)
          have B7 := B6.trans (hB.mono z6)
          have z7 := B7.size
          have I7 := Lib.hid ((I6.out.below hB).mono hB.size)
          have hcn : ((l2 : Int) == (cnt 64 s : Int)) = true := by rw [beq_iff_eq, HL2.out, listTo_length]
          have hfin : Hid (rb = true → (zs.take 100).Pairwise (· < ·)) := Lib.hid (fun h => by
            refine pairwise_of_steps _ fun i hi => ?_
            rw [List.length_take, HLn.out] at hi
            have := hR h i (by omega) (by rw [HLn.out]; omega)
            rw [List.getElem?_take, if_pos (by omega), List.getElem?_take, if_pos (by omega)]
            exact this)
          have LJ := Lib.hid (fun h1 h2 => list_join (zs.take 100) h1 h2)
          have hF7 := Lib.hid ((hF.out.below B7).mono z7)
          have HKl := Lib.hid hk
          clear hR hB hcz hk hm1
          generalize zs.take 100 = ys at *
          generalize hmm : min len 100 = mm at *
          clear hmm
          have hexit : (¬ (m : Int) + 1 < (len : Int)) ∨ ((m : Int) + 1 < (len : Int) ∧ ¬ (m : Int) + 1 < 100) := by omega
          clear hlt hm
          cases hall : ys.all okC
          · have hje : joinE ys = 10 := by simp [joinE, hall]
            clear hall LJ hfin
            rcases hexit with hx | ⟨hx, hx'⟩
            all_goals
              go_wp2_with fail
              refine (count_any s hs _).mono ?_
              rintro e w8 ⟨rfl, rfl⟩
              go_wp2
              go_ret
              exact ⟨rfl, B7⟩
          · have hje : joinE ys = 0 := by simp [joinE, hall]
            cases rb
            · clear hall LJ hfin
              rcases hexit with hx | ⟨hx, hx'⟩
              all_goals
                go_wp2_with fail
                refine (count_any s hs _).mono ?_
                rintro e w8 ⟨rfl, rfl⟩
                go_wp2
                go_ret
                exact ⟨rfl, B7⟩
            · have I8 := I7.out
              rw [LJ.out hall (hfin.out rfl)] at I8
              have HI8 := Lib.hid I8
              clear I8 hall LJ hfin I7
              rcases hexit with hx | ⟨hx, hx'⟩
              all_goals
                go_wp2_with fail
                refine (count_any s hs _).mono ?_
                rintro e w8 ⟨rfl, rfl⟩
                go_wp2_with fail
                refine (FW.out _).mono ?_
                rintro e w8 ⟨rfl, rfl⟩
                go_wp2_with fail
                refine (refInts_same _ a6 a l6 mm c6 cap ys HKl.out _ HI8.out hF7.out).mono ?_
                rintro e w8 ⟨rfl, hb8⟩
                go_wp2
                go_ret
                exact ⟨rfl, B7.trans (hb8.mono z7)⟩

end Go.Proofs.YtngacmkgnpgomaaDoor
