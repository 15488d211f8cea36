/- Slices of numbers that come in. -/
import Derived.Test.YtngacmkgnpgomaaDoorFew
import Derived.Test.YtngacmkgnpgomaaDoorLaid
namespace Go.Proofs.YtngacmkgnpgomaaDoor
open Go.RowKit Go.Proofs.Cats

/-- A slice of numbers that came in. -/
def IntsIn (W : World) (a : Option Addr) (len cap : Nat) (zs : List Int) : Prop :=
  Ints W.heap.size W (.slice a len cap) zs ∧ zs.length = len ∧ len ≤ cap ∧ cap ≤ maxLen ∧ (a = none → cap = 0)

theorem ints_take {n₀ : Nat} {W : World} {a : Option Addr} {len cap : Nat} {zs : List Int} (h : Ints n₀ W (.slice a len cap) zs) (k : Nat) : Ints n₀ W (.slice a (min len k) cap) (zs.take k) := by
  obtain ⟨ao, cp, e, hk⟩ := h
  injection e with e1 e2 e3
  subst e1 e2 e3
  refine ⟨_, _, by rw [List.length_take, Nat.min_comm], fun hz => ?_⟩
  obtain ⟨b, off, rfl, hb, hc⟩ := hk (fun h => hz (by rw [h]; simp))
  refine ⟨b, off, rfl, hb, fun j hj => ?_⟩
  rw [List.length_take] at hj
  rw [hc j (by omega), List.getElem?_take, if_pos (by omega)]

theorem intsIn_nil (W : World) : IntsIn W none 0 0 [] :=
  ⟨⟨none, 0, rfl, fun h => absurd rfl h⟩, rfl, Nat.le_refl _, Nat.zero_le _, fun _ => rfl⟩

theorem intsIn_row {W : World} {x : Addr} {len cap : Nat} {zs : List Int} (hl : len ≤ cap) (hm : cap ≤ maxLen) (hz : zs.length = cap) (hc : ∀ i, i < zs.length → W.cell? (x.add i) = some (.int .i64 (zs.getD i 0))) :
    IntsIn W (some x) len cap (zs.take len) := by
  have hlen : (zs.take len).length = len := by rw [List.length_take]; omega
  refine ⟨⟨some x, cap, by rw [hlen], fun hne => ?_⟩, hlen, hl, hm, fun h => by cases h⟩
  have hpos : 0 < zs.length := by
    rcases Nat.eq_zero_or_pos zs.length with h | h
    · exact absurd (by rw [List.length_eq_zero_iff.1 h]; simp) hne
    · exact h
  obtain ⟨b, off, sp⟩ := x
  have h0 := hc 0 hpos
  have hsp : sp = none := World.cell?_spot h0
  subst hsp
  refine ⟨b, off, rfl, World.block_lt_of_cell? W _ h0, fun j hj => ?_⟩
  rw [hlen] at hj
  have := hc j (by omega)
  rw [List.getElem?_take, if_pos hj]
  have e : (⟨b, off, none⟩ : Addr).add j = ⟨b, off + j, none⟩ := by
    unfold Addr.add
    by_cases hj0 : j = 0
    · subst hj0; simp
    · simp [hj0]
  rw [e] at this
  simpa using this

end Go.Proofs.YtngacmkgnpgomaaDoor
