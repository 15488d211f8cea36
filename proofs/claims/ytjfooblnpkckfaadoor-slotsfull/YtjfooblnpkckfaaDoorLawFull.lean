/- SlotsFull: the walk. -/
import Derived.Test.YtjfooblnpkckfaaDoorSlShown
namespace Go.Proofs.Slt

/-- n slots, the first k taken once. -/
def taken (n k : Nat) : St := List.replicate k (1, true) ++ List.replicate (n - k) (0, false)
theorem taken_zero (n : Nat) : taken n 0 = fresh n := by simp [taken, fresh]
theorem taken_find {n k : Nat} (h : k < n) : (taken n k).findIdx? freeB = some k ∧ genOf (taken n k) k = 0 ∧ (taken n k).set k (1, true) = taken n (k + 1) := by
  obtain ⟨m, hm⟩ : ∃ m, n - k = m + 1 := ⟨n - k - 1, by omega⟩
  have hm2 : n - (k + 1) = m := by omega
  unfold taken
  rw [hm, hm2, List.replicate_succ (n := m)]
  refine ⟨?_, ?_, ?_⟩
  · rw [List.findIdx?_append, List.findIdx?_replicate]
    simp [freeB, List.findIdx?_cons]
  · simp [genOf]
  · rw [List.set_append_right _ _ (by simp)]
    simp [List.replicate_succ', List.append_assoc]
theorem taken_take {n k : Nat} (h : k < n) : takeS (taken n k) = taken n (k + 1) ∧ takeH (taken n k) = (k, 1) ∧ takeE (taken n k) = 0 := by
  obtain ⟨h1, h2, h3⟩ := taken_find h
  simp [takeS, takeH, takeE, h1, h2, h3]
theorem taken_all {n k : Nat} : (allR (taken n k)).length = k := by
  rw [allR_count]
  simp [taken, List.countP_append, List.countP_replicate]
theorem taken_full (n : Nat) : takeS (taken n n) = taken n n ∧ takeH (taken n n) = (0, 0) ∧ takeE (taken n n) = 60 := by
  have h : (taken n n).findIdx? freeB = none := by
    rw [List.findIdx?_eq_none_iff]
    intro x hx
    simp [taken] at hx
    rw [hx.2]
    rfl
  simp [takeS, takeH, takeE, h]

end Go.Proofs.Slt
namespace Go.Proofs.YtjfooblnpkckfaaDoor
open Go.RowKit Go.Proofs.Slt Go.Shelf

set_option maxRecDepth 100000 in
set_option maxHeartbeats 2000000 in
theorem full_walk_bad (t : Sn) (n : Int) (hn : n < 1 ∨ 64 < n) (w : World) (hc : Ctx t w.heap.size w) : Calls Tryd.prog 5 #[.int .i64 n] w (TruePost w) := by
  have HC := Lib.hid hc
  have HN := Lib.hid hn
  clear hc
  by_cases h1 : n < 1
  · clear hn
    go_enter Tryd.func5, Tryd.ntmps5
    go_wp2_with (go_at_call 9; refine (shown_any t w.heap.size _ HC.out).mono ?_)
    rintro e w1 ⟨rfl, hb1⟩
    have HB1 := Lib.hid hb1
    clear hb1
    go_wp2_with (go_at_call 10; refine (New_bad n _ HN.out).mono ?_; rintro e w2 ⟨rfl, rfl⟩)
    go_ret
    exact ⟨rfl, HB1.out⟩
  · have H2 := Lib.hid (show 64 < n by omega)
    have H1 := Lib.hid h1
    clear hn h1
    go_enter Tryd.func5, Tryd.ntmps5
    go_wp2_with (go_at_call 9; refine (shown_any t w.heap.size _ HC.out).mono ?_)
    rintro e w1 ⟨rfl, hb1⟩
    have HB1 := Lib.hid hb1
    clear hb1
    have h1 := H1.out
    have h2 := H2.out
    go_wp2_with (go_at_call 10; refine (New_bad n _ HN.out).mono ?_; rintro e w2 ⟨rfl, rfl⟩)
    go_ret
    exact ⟨rfl, HB1.out⟩

set_option maxRecDepth 100000 in
set_option maxHeartbeats 2000000 in
theorem full_walk_ok (t : Sn) (n : Nat) (h1 : 1 ≤ n) (h2 : n ≤ 64) (w : World) (hc : Ctx t w.heap.size w) : Calls Tryd.prog 5 #[.int .i64 n] w (TruePost w) := by
  have HC := Lib.hid hc
  clear hc
  go_enter Tryd.func5, Tryd.ntmps5
  go_wp2_with (go_at_call 9; refine (shown_any t w.heap.size _ HC.out).mono ?_)
  rintro e w1 ⟨rfl, hb1⟩
  have HB1 := Lib.hid hb1
  clear hb1
  go_wp2_with (go_at_call 10; refine (New_ok n w1 h1 h2).mono ?_)
  rintro e w2 ⟨p, rfl, q1, q2⟩
  have R0 := Lib.hid (Run.start (HC.out.more HB1.out) HB1.out q1 q2)
  clear q1 q2
  go_wp2
  go_loopw [6] (fun v wr => ∃ k : Nat, k ≤ n ∧ v = .int .i64 k ∧ Hid (Run t w.heap.size w w2.heap.size p (taken n k) wr)) (fun v _ => n - (intOf v).toNat)
  case atStart => exact ⟨0, by omega, rfl, by rw [taken_zero]; exact R0.out⟩
  case round =>
    obtain ⟨k, hk, rfl, HR⟩ := hrel
    by_cases hlt : k < n
    · have h64 : k < 64 := by omega
      go_wp2_with (go_at_call 12; refine (Take_run HR.out).mono ?_)
      rintro e w3 ⟨he, r3, f3⟩
      rw [(taken_take hlt).2.1, (taken_take hlt).2.2] at he
      rw [(taken_take hlt).1] at r3
      simp only [ihv, toI] at he
      subst he
      have R3 := Lib.hid (r3.alloc (.cells #[.int .i64 k, .int .i64 1] 32))
      clear r3 f3
      go_wp2_with (go_at_call 21; refine (Used_run R3.out).mono ?_)
      rintro e w4 ⟨he, rfl⟩
      rw [taken_all] at he
      subst he
      go_wp2
      go_roundw
      case rel => exact ⟨k + 1, by omega, by simp, R3.out⟩
      case measure => simp [intOf]; omega
    · obtain rfl : k = n := by omega
      go_wp2_with (go_at_call 12; refine (Take_run HR.out).mono ?_)
      rintro e w3 ⟨he, r3, f3⟩
      rw [(taken_full k).2.1, (taken_full k).2.2] at he
      rw [(taken_full k).1] at r3
      simp only [ihv, toI] at he
      subst he
      have R3 := Lib.hid (r3.alloc (.cells #[.int .i64 0, .int .i64 0] 32))
      clear r3 f3
      go_wp2_with (go_at_call 20; refine (All_run R3.out).mono ?_)
      rintro e w4 ⟨a, c, he, hs, r4, hb4⟩
      rw [taken_all] at he
      subst he
      have R4 := Lib.hid r4
      clear hs r4 hb4
      go_wp2
      go_ret
      exact ⟨rfl, R4.out.below⟩

theorem full_walk (t : Sn) (n : Int) (w : World) (hc : Ctx t w.heap.size w) : Calls Tryd.prog 5 #[.int .i64 n] w (TruePost w) := by
  by_cases h : n < 1 ∨ 64 < n
  · exact full_walk_bad t n h w hc
  · obtain ⟨k, rfl⟩ := Int.eq_ofNat_of_zero_le (show 0 ≤ n by omega)
    exact full_walk_ok t k (by omega) (by omega) w hc

end Go.Proofs.YtjfooblnpkckfaaDoor
