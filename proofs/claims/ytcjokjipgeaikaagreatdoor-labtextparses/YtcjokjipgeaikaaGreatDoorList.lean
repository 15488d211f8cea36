/- The lists of categories: the document's own, and the program's. -/
import Derived.Test.YtcjokjipgeaikaaGreatDoorRef
import Derived.Maps.AppendAt
namespace Go.Proofs.YtcjokjipgeaikaaGreatDoor.Ct
open Go.RowKit Go.Proofs.Cats Go.Shelf

/-- The categories of s below j, rising. -/
def listTo (s j : Nat) : List Int := ((List.range j).filter fun i => s.testBit i).map fun (i : Nat) => (i : Int)
theorem listTo_hit (s j : Nat) (h : s.testBit j = true) : listTo s (j + 1) = listTo s j ++ [(j : Int)] := by
  simp [listTo, List.range_succ, List.filter_append, h]
theorem listTo_miss (s j : Nat) (h : s.testBit j = false) : listTo s (j + 1) = listTo s j := by
  simp [listTo, List.range_succ, List.filter_append, h]
theorem listTo_length (s j : Nat) : (listTo s j).length = cnt j s := by
  induction j with
  | zero => rfl
  | succ j ih =>
    cases h : s.testBit j
    · rw [listTo_miss s j h]; simp [cnt, h, ih]
    · rw [listTo_hit s j h]; simp [cnt, h, ih]
theorem listTo_le (s j : Nat) : (listTo s j).length ≤ j := by rw [listTo_length]; exact cnt_le j s

theorem info3 : (Tryz.prog.info? 3).map (fun i => (i.zero, i.size, i.bytes)) = some (some (.int .i64 0), 1, 8) := by kernel_rfl

/-- A new slice of the numbers zs. -/
def ListPost (zs : List Int) (w : World) (e : Ending) (W' : World) : Prop :=
  ∃ a len cap, e = .returned (.slice a len cap) ∧ len = zs.length ∧ W'.ownsRow w.heap.size 3 1 (.slice a len cap) zs.length (zs.map (Value.int .i64)) ∧ Below w.heap.size w W'

theorem owns_slice {w : World} {base n : Nat} {v : Value} {xs : List Value} (h : w.ownsRow base 3 1 v n xs) : ∃ a cap, v = .slice a n cap := by
  rcases h.2 with ⟨rfl, rfl⟩ | ⟨g, cap, cur, rfl, _⟩
  · exact ⟨none, 0, rfl⟩
  · exact ⟨_, cap, rfl⟩

theorem ints_of_owns {w : World} {base : Nat} {v : Value} {zs : List Int} (h : w.ownsRow base 3 1 v zs.length (zs.map (Value.int .i64))) : Ints w.heap.size w v zs := by
  rcases h.2 with ⟨rfl, hz⟩ | ⟨g, cap, cur, rfl, hb, hg, h1, h2, h3, h4⟩
  · exact ⟨none, 0, by rw [hz], fun hne => absurd (List.length_eq_zero_iff.1 hz) hne⟩
  · refine ⟨_, cap, rfl, fun _ => ⟨g, 0, rfl, (Array.getElem?_eq_some_iff.1 hg).1, fun j hj => ?_⟩⟩
    have := World.ownsRow.cellAt h j (by omega)
    rw [Nat.zero_add, this]
    simp [hj]

end Go.Proofs.YtcjokjipgeaikaaGreatDoor.Ct
