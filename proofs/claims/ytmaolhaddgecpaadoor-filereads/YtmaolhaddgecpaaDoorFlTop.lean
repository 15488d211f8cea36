/- judge; parts in a row, joined. -/
import Derived.Test.YtmaolhaddgecpaaDoorFlJoin
import Derived.Deep.RegionHeld3
namespace Go.Proofs.Fil
/-- What judge says: 0, or 90. -/
def okE (s : It) (o : Int) : Int := if okAt s o then 0 else 90
end Go.Proofs.Fil
namespace Go.Proofs.YtmaolhaddgecpaaDoor
open Go.RowKit Go.Proofs.Fld Go.Proofs.Fil Go.Shelf Go.Sort

theorem TwoP.more {r : Option It} {w w1 w' : World} {e : Ending} (h : TwoP r w1 e w') (k : Below w.heap.size w w1) : TwoP r w e w' := by
  obtain ⟨v, hv, he, hb⟩ := h
  exact ⟨v, hv, he, below_more k hb⟩
theorem str_from (l : List UInt8) (k : Nat) (h : k ≤ l.length) (w : World) : (Instr.slice 9 (.string (bs l)) (some (.int .i64 (k : Int))) none none).run Tryd.prog w = .ok (.string (bs (l.drop k))) w := by
  simp [go_sem, Tryd.underlying9, bs_size, bs_extract, h]
  rw [List.take_of_length_le (by rw [List.length_drop]; exact Nat.le_refl _)]
theorem str_mid (l : List UInt8) (k m : Nat) (h : k ≤ m) (h2 : m ≤ l.length) (w : World) : (Instr.slice 9 (.string (bs l)) (some (.int .i64 (k : Int))) (some (.int .i64 (m : Int))) none).run Tryd.prog w = .ok (.string (bs ((l.drop k).take (m - k)))) w := by
  simp [go_sem, Tryd.underlying9, bs_size, bs_extract, h, h2]
theorem bs_nil : bs [] = { data := #[] } := rfl
def JudgeP (s : It) (o : Int) (w : World) (e : Ending) (w' : World) : Prop := ∃ v, ErrIs v (okE s o) ∧ e = .returned v ∧ w = w'
set_option maxHeartbeats 1000000 in
theorem judge_any (s : It) (o : Int) (w : World) : Calls Tryd.prog 28 #[.string (bs s), .int .i64 o] w (JudgeP s o w) := by
  have hz := bs_size s
  obtain ⟨k, hk⟩ : ∃ k, okE s o = k := ⟨_, rfl⟩
  unfold JudgeP
  rw [hk]
  unfold okE at hk
  obtain ⟨S, hS⟩ : ∃ S, s.length = S := ⟨_, rfl⟩
  rw [hS] at hz
  by_cases h1 : 1000 < S
  · have hd : decide ((S : Int) > 1000) = true := decide_eq_true (by omega)
    rw [if_neg (by unfold okAt; omega)] at hk
    subst hk
    go_enter Tryd.func28, Tryd.ntmps28
    go_wp2
    go_ret
    exact ⟨_, .flt _, rfl, rfl⟩
  · have hd : decide ((S : Int) > 1000) = false := decide_eq_false (by omega)
    by_cases h2 : o < 0
    · have hd2 : decide (o < 0) = true := decide_eq_true h2
      rw [if_neg (by unfold okAt; omega)] at hk
      subst hk
      go_enter Tryd.func28, Tryd.ntmps28
      go_wp2
      go_ret
      exact ⟨_, .flt _, rfl, rfl⟩
    · have hd2 : decide (o < 0) = false := decide_eq_false h2
      by_cases h3 : (S : Int) < o
      · have hd3 : decide (o > (S : Int)) = true := decide_eq_true h3
        rw [if_neg (by unfold okAt; omega)] at hk
        subst hk
        go_enter Tryd.func28, Tryd.ntmps28
        go_wp2
        go_ret
        exact ⟨_, .flt _, rfl, rfl⟩
      · have hd3 : decide (o > (S : Int)) = false := decide_eq_false h3
        rw [if_pos (by unfold okAt; omega)] at hk
        subst hk
        go_enter Tryd.func28, Tryd.ntmps28
        go_wp2
        go_ret
        exact ⟨_, .ok, rfl, rfl⟩
theorem txs_row (w : World) (zs : List It) (C : Array Value) (hC : C = (zs.map fun x => Value.string (bs x)).toArray) (k : Nat) (hk : zs.length = k) (hm : k ≤ 1000) (hx : ∀ x ∈ zs, x.length ≤ 9223372036854775807) : Txs (w.alloc (.cells C 9)) (some ⟨w.heap.size, 0, none⟩) k k zs := by
  subst hC hk
  refine ⟨rfl, Nat.le_refl _, by unfold maxLen; omega, (fun h => by cases h), hx, fun _ => ⟨w.heap.size, 0, rfl, ?_⟩⟩
  intro j y hj
  rw [World.cell?_alloc_at _ _ _ _ rfl, Nat.zero_add, List.getElem?_toArray, List.getElem?_map, hj]
  rfl
theorem join_row (w : World) (zs : List It) (C : Array Value) (hC : C = (zs.map fun x => Value.string (bs x)).toArray) (k : Nat) (hk : zs.length = k) (hm : k ≤ 1000) (ht : tot zs ≤ 4000000000000000000) (hx : ∀ x ∈ zs, x.length ≤ 9223372036854775807) (r : Option It) (hr : joinR zs.flatten = r) :
    Calls Tryd.prog 29 #[.slice (some ⟨w.heap.size, 0, none⟩) k k] (w.alloc (.cells C 9)) (TwoP r (w.alloc (.cells C 9))) := hr ▸ join_any _ k k zs (by omega) ht _ (txs_row w zs C hC k hk hm hx)
theorem mem_le {zs : List It} (ht : tot zs ≤ 4000000000000000000) : ∀ x ∈ zs, x.length ≤ 9223372036854775807 := by
  intro x hx
  have : x.length ≤ tot zs := by
    clear ht
    induction zs with
    | nil => cases hx
    | cons a r ih =>
      simp only [tot]
      rcases List.mem_cons.1 hx with rfl | h
      · omega
      · have := ih h
        omega
  omega
theorem join3 (w : World) (a b c : It) (r : Option It) (ht : a.length + b.length + c.length ≤ 4000000000000000000) (hr : joinR (a ++ b ++ c) = r) :
    Calls Tryd.prog 29 #[.slice (some ⟨w.heap.size, 0, none⟩) 3 3] (w.alloc (.cells #[.string (bs a), .string (bs b), .string (bs c)] 9)) (TwoP r (w.alloc (.cells #[.string (bs a), .string (bs b), .string (bs c)] 9))) := by
  have h : tot [a, b, c] ≤ 4000000000000000000 := by simp only [tot]; omega
  exact join_row w [a, b, c] _ rfl 3 rfl (by omega) h (mem_le h) r (by rw [← hr]; simp)
theorem join2 (w : World) (a b : It) (r : Option It) (ht : a.length + b.length ≤ 4000000000000000000) (hr : joinR (a ++ b) = r) :
    Calls Tryd.prog 29 #[.slice (some ⟨w.heap.size, 0, none⟩) 2 2] (w.alloc (.cells #[.string (bs a), .string (bs b)] 9)) (TwoP r (w.alloc (.cells #[.string (bs a), .string (bs b)] 9))) := by
  have h : tot [a, b] ≤ 4000000000000000000 := by simp only [tot]; omega
  exact join_row w [a, b] _ rfl 2 rfl (by omega) h (mem_le h) r (by rw [← hr]; simp)
theorem join1 (w : World) (a : It) (r : Option It) (ht : a.length ≤ 4000000000000000000) (hr : joinR a = r) :
    Calls Tryd.prog 29 #[.slice (some ⟨w.heap.size, 0, none⟩) 1 1] (w.alloc (.cells #[.string (bs a)] 9)) (TwoP r (w.alloc (.cells #[.string (bs a)] 9))) := by
  have h : tot [a] ≤ 4000000000000000000 := by simp only [tot]; omega
  exact join_row w [a] _ rfl 1 rfl (by omega) h (mem_le h) r (by rw [← hr]; simp)
end Go.Proofs.YtmaolhaddgecpaaDoor
