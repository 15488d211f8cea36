/- The lists of categories: the document's own, and the program's. -/
import Derived.Test.YtcjokjipgeaikaaDoorRef
import Derived.Maps.AppendAt
namespace Go.Proofs.YtcjokjipgeaikaaDoor.Ct
open Go.RowKit Go.Proofs.Cats Go.Shelf

/-- The categories of s below j, rising. -/
def listTo (s j : Nat) : List Int := ((List.range j).filter fun i => s.testBit i).map fun (i : Nat) => (i : Int)
theorem listTo_hit (s j : Nat) (h : s.testBit j = true) : listTo s (j + 1) = listTo s j ++ [(j : Int)] := by
  simp [listTo, List.range_succ, List.filter_append, h]
theorem listTo_miss (s j : Nat) (h : s.testBit j = false) : listTo s (j + 1) = listTo s j := by
  simp [listTo, List.range_succ, List.filter_append, h]
theorem listTo_length (s j : Nat) : (listTo s j).length = cnt j s := by
  induction j with
  | zero => rfl
  | succ j ih =>
    cases h : s.testBit j
    · rw [listTo_miss s j h]; simp [cnt, h, ih]
    · rw [listTo_hit s j h]; simp [cnt, h, ih]
theorem listTo_le (s j : Nat) : (listTo s j).length ≤ j := by rw [listTo_length]; exact cnt_le j s

theorem info3 : (Tryd.prog.info? 3).map (fun i => (i.zero, i.size, i.bytes)) = some (some (.int .i64 0), 1, 8) := by kernel_rfl

/-- A new slice of the numbers zs. -/
def ListPost (zs : List Int) (w : World) (e : Ending) (W' : World) : Prop :=
  ∃ a len cap, e = .returned (.slice a len cap) ∧ len = zs.length ∧ W'.ownsRow w.heap.size 3 1 (.slice a len cap) zs.length (zs.map (Value.int .i64)) ∧ Below w.heap.size w W'

theorem owns_slice {w : World} {base n : Nat} {v : Value} {xs : List Value} (h : w.ownsRow base 3 1 v n xs) : ∃ a cap, v = .slice a n cap := by
  rcases h.2 with ⟨rfl, rfl⟩ | ⟨g, cap, cur, rfl, _⟩
  · exact ⟨none, 0, rfl⟩
  · exact ⟨_, cap, rfl⟩

theorem ints_of_owns {w : World} {base : Nat} {v : Value} {zs : List Int} (h : w.ownsRow base 3 1 v zs.length (zs.map (Value.int .i64))) : Ints w.heap.size w v zs := by
  rcases h.2 with ⟨rfl, hz⟩ | ⟨g, cap, cur, rfl, hb, hg, h1, h2, h3, h4⟩
  · exact ⟨none, 0, by rw [hz], fun hne => absurd (List.length_eq_zero_iff.1 hz) hne⟩
  · refine ⟨_, cap, rfl, fun _ => ⟨g, 0, rfl, (Array.getElem?_eq_some_iff.1 hg).1, fun j hj => ?_⟩⟩
    have := World.ownsRow.cellAt h j (by omega)
    rw [Nat.zero_add, this]
    simp [hj]

set_option maxRecDepth 100000 in
set_option maxHeartbeats 1000000 in
theorem refList_any (s : Nat) (w : World) : Calls Tryd.prog 20 #[.int .u64 s] w (ListPost (listTo s 64) w) := by
  obtain ⟨i0, hi, hz0, hz1, hz2⟩ := info_parts info3
  go_enter Tryd.func20, Tryd.ntmps20
  go_wp2
  go_loopw [3, 4] (fun v i wr => ∃ j : Nat, j ≤ 64 ∧ i = .int .i64 j ∧ wr.ownsRow w.heap.size 3 1 v (listTo s j).length ((listTo s j).map (Value.int .i64)) ∧ Below w.heap.size w wr) (fun _ i _ => 64 - (intOf i).toNat)
  case atStart => exact ⟨0, by omega, rfl, World.ownsRow_nil _ _ _ _, Below.refl _ _⟩
  case round =>
    obtain ⟨j, hj, rfl, hown, hB⟩ := hrel
    by_cases hlt : j < 64
    · have e2 := Lib.hid (hasB_ok s j hlt)
      have hle := listTo_le s j
      cases ht : s.testBit j
      · have HT := Lib.hid ht
        clear ht
        go_wp2_with (go_at_call 28; refine (refHas_any s j _).mono ?_; rintro e w' ⟨he, rfl⟩; rw [e2.out, HT.out] at he; subst he)
        go_roundw
        case rel => exact ⟨j + 1, by omega, by go_num, by rw [listTo_miss s j HT.out]; exact hown, hB⟩
        case measure => simp [intOf]; omega
      · have HT := Lib.hid ht
        clear ht
        go_wp2_with (first | (go_at_call 28; refine (refHas_any s j _).mono ?_; rintro e w' ⟨he, rfl⟩; rw [e2.out, HT.out] at he; subst he) | (at_builtin; refine wpList_append_own _ rfl _ _ 41 rfl w.heap.size 3 i0 (.int .i64 0) 1 8 Tryd.underlying41 hi hz0 hz1 hz2 rfl (by decide) _ _ _ rfl (hown.alloc _) ⟨wr.heap.size, 0, none⟩ 1 1 [.int .i64 j] rfl rfl (cell_one_new _ _ _) (by simp [Value.oneCell']) (by unfold maxLen; omega) (by omega) (by have := hB.size; simp; omega) ?_; intro v' w1 hown' hgrow _))
        have hB1 := (hB.alloc (by have := hB.size; omega) (.cells #[.int .i64 j] 3)).grown hgrow (by have := hB.size; simp; omega) (fun k hk => (hown.lt k hk).1)
        clear hown hgrow hB
        go_wp2
        go_roundw
        case rel => exact ⟨j + 1, by omega, by go_num, by rw [listTo_hit s j HT.out]; simpa using hown', hB1⟩
        case measure => simp [intOf]; omega
    · obtain rfl : j = 64 := by omega
      obtain ⟨a, cap, rfl⟩ := owns_slice hown
      go_wp2
      go_ret
      exact ⟨_, _, _, rfl, rfl, hown, hB⟩

end Go.Proofs.YtcjokjipgeaikaaDoor.Ct
