/- SlotsWorn: the walk. -/
import Derived.Test.YtjfooblnpkckfaaDoorSlShown
namespace Go.Proofs.Slt

/-- The generation of slot j, when i have been taken and given back. -/
def wg (i j : Nat) : Nat := if j < i / 1000 then 1000 else if j = i / 1000 then i % 1000 else 0
def worn (n i : Nat) : St := (List.range n).map fun j => (wg i j, false)
theorem worn_length (n i : Nat) : (worn n i).length = n := by simp [worn]
theorem worn_get {n i j : Nat} (h : j < n) : (worn n i)[j]? = some (wg i j, false) := by simp [worn, h]
theorem worn_zero (n : Nat) : worn n 0 = fresh n := by
  apply List.ext_getElem?
  intro j
  by_cases h : j < n
  · rw [worn_get h, fresh_get h]
    simp [wg]
  · rw [List.getElem?_eq_none (by rw [worn_length]; omega), List.getElem?_eq_none (by rw [fresh_length]; omega)]
theorem worn_find {n i : Nat} (h : i < 1000 * n) : (worn n i).findIdx? freeB = some (i / 1000) := by
  have hq : i / 1000 < n := by omega
  rw [List.findIdx?_eq_some_iff_getElem]
  refine ⟨by rw [worn_length]; exact hq, ?_, ?_⟩
  · have e : (worn n i)[i / 1000]'(by rw [worn_length]; exact hq) = (wg i (i / 1000), false) := by simp [worn]
    rw [e]
    simp [freeB, wg]
    omega
  · intro j hj
    have e : (worn n i)[j]'(by rw [worn_length]; omega) = (wg i j, false) := by simp [worn]
    rw [e]
    simp [freeB, wg, hj]
theorem worn_take {n i : Nat} (h : i < 1000 * n) : takeH (worn n i) = (i / 1000, i % 1000 + 1) ∧ takeE (worn n i) = 0 ∧ takeS (worn n i) = (worn n i).set (i / 1000) (i % 1000 + 1, true) := by
  have hq : i / 1000 < n := by omega
  have hg : genOf (worn n i) (i / 1000) = i % 1000 := by rw [genOf_eq (worn_get hq)]; simp [wg]
  simp [takeH, takeE, takeS, worn_find h, hg]
theorem worn_next {n i : Nat} (h : i < 1000 * n) : ((worn n i).set (i / 1000) (i % 1000 + 1, true)).set (i / 1000) (i % 1000 + 1, false) = worn n (i + 1) := by
  have hq : i / 1000 < n := by omega
  rw [List.set_set]
  apply List.ext_getElem?
  intro j
  by_cases hj : j < n
  · rw [worn_get hj]
    by_cases e : i / 1000 = j
    · rw [← e, List.getElem?_set_self (by rw [worn_length]; exact hq)]
      congr 2
      unfold wg
      by_cases h1 : i % 1000 + 1 = 1000
      · rw [if_pos (by omega)]; omega
      · rw [if_neg (by omega), if_pos (by omega)]; omega
    · rw [List.getElem?_set_ne e, worn_get hj]
      congr 2
      unfold wg
      by_cases h1 : j < i / 1000
      · rw [if_pos h1, if_pos (by omega)]
      · rw [if_neg h1, if_neg (fun e' => e e'.symm)]
        by_cases h2 : j < (i + 1) / 1000
        · omega
        · rw [if_neg h2]
          by_cases h3 : j = (i + 1) / 1000
          · rw [if_pos h3]; omega
          · rw [if_neg h3]
  · rw [List.getElem?_eq_none (by rw [List.length_set, worn_length]; omega), List.getElem?_eq_none (by rw [worn_length]; omega)]
theorem worn_all (n i : Nat) : (allR (worn n i)).length = 0 := by
  rw [allR_count, List.countP_eq_zero]
  intro x hx
  simp [worn] at hx
  obtain ⟨j, _, rfl⟩ := hx
  simp
theorem worn_end (n : Nat) : takeH (worn n (1000 * n)) = (0, 0) ∧ takeE (worn n (1000 * n)) = 60 ∧ takeS (worn n (1000 * n)) = worn n (1000 * n) := by
  have h : (worn n (1000 * n)).findIdx? freeB = none := by
    rw [List.findIdx?_eq_none_iff]
    intro x hx
    simp [worn] at hx
    obtain ⟨j, hj, rfl⟩ := hx
    have : wg (1000 * n) j = 1000 := by unfold wg; rw [if_pos (by omega)]
    simp [freeB, this]
  simp [takeH, takeE, takeS, h]

end Go.Proofs.Slt
namespace Go.Proofs.YtjfooblnpkckfaaDoor
open Go.RowKit Go.Proofs.Slt Go.Shelf

theorem worn_give {n i : Nat} (h : i < 1000 * n) : giveE (takeS (worn n i)) (toI (i / 1000, i % 1000 + 1)) = 0 ∧ giveS (takeS (worn n i)) (toI (i / 1000, i % 1000 + 1)) = worn n (i + 1) := by
  have hq : i / 1000 < n := by omega
  have hg : (takeS (worn n i))[i / 1000]? = some (i % 1000 + 1, true) := by rw [(worn_take h).2.2, List.getElem?_set_self (by rw [worn_length]; exact hq)]
  refine ⟨?_, ?_⟩
  · show giveE _ (((i / 1000 : Nat) : Int), ((i % 1000 + 1 : Nat) : Int)) = 0
    unfold giveE
    rw [if_pos ((liveR_iff _ _).2 ⟨_, _, rfl, hg⟩)]
  · show giveS _ (((i / 1000 : Nat) : Int), ((i % 1000 + 1 : Nat) : Int)) = _
    rw [giveS_eq rfl hg, (worn_take h).2.2, worn_next h]

set_option maxRecDepth 100000 in
set_option maxHeartbeats 2000000 in
theorem worn_walk_bad (t : Sn) (n : Int) (hn : n < 1 ∨ 64 < n) (w : World) (hc : Ctx t w.heap.size w) : Calls Tryd.prog 6 #[.int .i64 n] w (TruePost w) := by
  have HC := Lib.hid hc
  have HN := Lib.hid hn
  clear hc hn
  go_enter Tryd.func6, Tryd.ntmps6
  go_wp2_with (go_at_call 9; refine (shown_any t w.heap.size _ HC.out).mono ?_)
  rintro e w1 ⟨rfl, hb1⟩
  have HB1 := Lib.hid hb1
  clear hb1
  go_wp2_with (go_at_call 10; refine (New_bad n _ HN.out).mono ?_; rintro e w2 ⟨rfl, rfl⟩)
  go_ret
  exact ⟨rfl, HB1.out⟩

set_option maxRecDepth 100000 in
set_option maxHeartbeats 2000000 in
theorem worn_walk_more (t : Sn) (n : Nat) (h1 : 4 ≤ n) (h2 : n ≤ 64) (w : World) (hc : Ctx t w.heap.size w) : Calls Tryd.prog 6 #[.int .i64 n] w (TruePost w) := by
  have HC := Lib.hid hc
  clear hc
  go_enter Tryd.func6, Tryd.ntmps6
  go_wp2_with (go_at_call 9; refine (shown_any t w.heap.size _ HC.out).mono ?_)
  rintro e w1 ⟨rfl, hb1⟩
  have HB1 := Lib.hid hb1
  clear hb1
  go_wp2_with (go_at_call 10; refine (New_ok n w1 (by omega) h2).mono ?_)
  rintro e w2 ⟨p, rfl, q1, q2⟩
  have HB2 := Lib.hid (below_more HB1.out q2)
  clear q1 q2
  go_wp2
  go_ret
  exact ⟨rfl, HB2.out⟩

set_option maxRecDepth 100000 in
set_option maxHeartbeats 2000000 in
theorem worn_walk_ok (t : Sn) (n : Nat) (h1 : 1 ≤ n) (h2 : n ≤ 3) (w : World) (hc : Ctx t w.heap.size w) : Calls Tryd.prog 6 #[.int .i64 n] w (TruePost w) := by
  have HC := Lib.hid hc
  clear hc
  go_enter Tryd.func6, Tryd.ntmps6
  go_wp2_with (go_at_call 9; refine (shown_any t w.heap.size _ HC.out).mono ?_)
  rintro e w1 ⟨rfl, hb1⟩
  have HB1 := Lib.hid hb1
  clear hb1
  go_wp2_with (go_at_call 10; refine (New_ok n w1 h1 (by omega)).mono ?_)
  rintro e w2 ⟨p, rfl, q1, q2⟩
  have R0 := Lib.hid (Run.start (HC.out.more HB1.out) HB1.out q1 q2)
  clear q1 q2
  obtain ⟨N, hN⟩ : ∃ N, 1000 * n = N := ⟨_, rfl⟩
  have eN : 1000 * (n : Int) = (N : Int) := by omega
  have hN3 : N ≤ 3000 := by omega
  have HN := Lib.hid hN
  clear hN
  go_wp2
  go_loopw [6] (fun v wr => ∃ k : Nat, k ≤ N ∧ v = .int .i64 k ∧ Hid (Run t w.heap.size w w2.heap.size p (worn n k) wr)) (fun v _ => N - (intOf v).toNat)
  case atStart => exact ⟨0, by omega, rfl, by rw [worn_zero]; exact R0.out⟩
  case round =>
    obtain ⟨k, hk, rfl, HR⟩ := hrel
    by_cases hlt : k < N
    · have h30 : k < 3000 := by omega
      have HL : Hid (k < 1000 * n) := by show k < 1000 * n; rw [HN.out]; exact hlt
      obtain ⟨q, hq⟩ : ∃ q, k / 1000 = q := ⟨_, rfl⟩
      obtain ⟨r, hr⟩ : ∃ r, k % 1000 = r := ⟨_, rfl⟩
      have hr2 : r < 1000 := by omega
      have HT := Lib.hid (worn_take HL.out)
      have HG := Lib.hid (worn_give HL.out)
      rw [hq, hr] at HT HG
      have eq : (k : Int) / 1000 = (q : Int) := by omega
      have er : (k : Int) % 1000 = (r : Int) := by omega
      obtain ⟨r1, hr1⟩ : ∃ r1, r + 1 = r1 := ⟨_, rfl⟩
      rw [hr1] at HT HG
      have e1 : (r : Int) + 1 = (r1 : Int) := by omega
      clear hq hr hr1
      go_wp2_with (go_at_call 12; refine (Take_run HR.out).mono ?_)
      rintro e w3 ⟨he, r3, f3⟩
      rw [HT.out.1, HT.out.2.1] at he
      simp only [ihv, toI] at he
      subst he
      have R3 := Lib.hid (r3.alloc (.cells #[.int .i64 q, .int .i64 r1] 32))
      clear r3 f3
      go_wp2_with (go_at_call 16; refine (Give_run R3.out q r1).mono ?_)
      rintro e w4 ⟨he, r4, f4⟩
      rw [show giveE (takeS (worn n k)) ((q : Int), (r1 : Int)) = 0 from HG.out.1] at he
      rw [show giveS (takeS (worn n k)) ((q : Int), (r1 : Int)) = worn n (k + 1) from HG.out.2] at r4
      subst he
      have R4 := Lib.hid r4
      clear r4 f4
      go_wp2
      go_roundw
      case rel => exact ⟨k + 1, by omega, by simp, R4.out⟩
      case measure => simp [intOf]; omega
    · obtain rfl : k = N := by omega
      have HE := Lib.hid (worn_end n)
      rw [HN.out] at HE
      go_wp2_with (go_at_call 12; refine (Take_run HR.out).mono ?_)
      rintro e w3 ⟨he, r3, f3⟩
      rw [HE.out.1, HE.out.2.1] at he
      rw [HE.out.2.2] at r3
      simp only [ihv, toI] at he
      subst he
      have R3 := Lib.hid (r3.alloc (.cells #[.int .i64 0, .int .i64 0] 32))
      clear r3 f3
      go_wp2_with (go_at_call 21; refine (Used_run R3.out).mono ?_)
      rintro e w4 ⟨he, rfl⟩
      rw [worn_all] at he
      subst he
      go_wp2
      go_ret
      exact ⟨rfl, R3.out.below⟩

theorem worn_walk (t : Sn) (n : Int) (w : World) (hc : Ctx t w.heap.size w) : Calls Tryd.prog 6 #[.int .i64 n] w (TruePost w) := by
  by_cases h : n < 1 ∨ 64 < n
  · exact worn_walk_bad t n h w hc
  · obtain ⟨k, rfl⟩ := Int.eq_ofNat_of_zero_le (show 0 ≤ n by omega)
    by_cases h3 : k ≤ 3
    · exact worn_walk_ok t k (by omega) h3 w hc
    · exact worn_walk_more t k (by omega) (by omega) w hc

end Go.Proofs.YtjfooblnpkckfaaDoor
