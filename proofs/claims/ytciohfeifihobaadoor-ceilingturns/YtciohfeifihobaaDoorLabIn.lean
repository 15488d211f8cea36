/- Slices of labels that come in. -/
import Derived.Test.YtciohfeifihobaaDoorLabLaid
import Derived.Deep.Slices
import Derived.Deep.Fields
namespace Go.Proofs.YtciohfeifihobaaDoor
open Go.ChangeShapes Go.WideShapes Go.ChangeAt Go.RowKit Go.Proofs.Cats Go.Joins

/-- A slice of labels that came in. -/
def LabsIn (W : World) (a : Option Addr) (len cap : Nat) (zs : List Lab) : Prop :=
  Labs W.heap.size W (.slice a len cap) zs ∧ zs.length = len ∧ len ≤ cap ∧ cap ≤ maxLen ∧ (a = none → cap = 0)

theorem labs_take {n₀ : Nat} {W : World} {a : Option Addr} {len cap : Nat} {zs : List Lab} (h : Labs n₀ W (.slice a len cap) zs) (k : Nat) : Labs n₀ W (.slice a (min len k) cap) (zs.take k) := by
  obtain ⟨ao, cp, e, hk⟩ := h
  injection e with e1 e2 e3
  subst e1 e2 e3
  refine ⟨_, _, by rw [List.length_take, Nat.min_comm], fun hz => ?_⟩
  obtain ⟨b, off, rfl, hb, hc⟩ := hk (fun h => hz (by rw [h]; simp))
  refine ⟨b, off, rfl, hb, fun j x hj => ?_⟩
  rw [List.getElem?_take] at hj
  split at hj
  · exact hc j x hj
  · cases hj

theorem addr_add (b off j : Nat) : (⟨b, off, none⟩ : Addr).add j = ⟨b, off + j, none⟩ := by
  unfold Addr.add
  by_cases hj0 : j = 0
  · subst hj0; simp
  · simp [hj0]
theorem cells3 : Tryd.prog.cellsOf 3 = 1 := by kernel_rfl
theorem cellsU : Tryd.prog.cellsOf 22 = 1 := by kernel_rfl

section
variable {H : Type} {enc : TypeId × Value → H} {W : World} {base : Nat}
set_option maxRecDepth 100000 in
theorem open_elem {spare : Nat → Bool} {held : Bool} {fuel : Nat} {x : Addr} {cs : List Value} {y : DataW H × List MemPlace} (hc : W.cells? base x (Tryd.prog.cellsOf 24) = some cs) (ht : DataW.trod enc Tryd.prog W base spare held fuel 24 cs = some y) :
    ∃ z : Lab, z.fits ∧ W.cell? (x.add 0) = some (.int .i64 z.l) ∧ W.cell? (x.add 1) = some (.int .u64 z.c) ∧ W.cell? (x.add 2) = some (.int .i64 z.i) := by
  obtain ⟨_, hcl, hat⟩ := World.cells?_some hc
  rw [cellsL] at hcl hat
  obtain ⟨ys, n, _, _, _, hyl, hg⟩ := DataW.trod_struct Tryd.underlying24 ht
  match cs, hcl with
  | [c0, c1, c2], _ =>
    match ys, hyl with
    | [y0, y1, y2], _ =>
      have t0 : DataW.trod enc Tryd.prog W base spare held n 3 (([c0, c1, c2].drop 0).take (Tryd.prog.cellsOf 3)) = some y0 := hg 0 _ rfl
      have t1 : DataW.trod enc Tryd.prog W base spare held n 22 (([c0, c1, c2].drop 1).take (Tryd.prog.cellsOf 22)) = some y1 := hg 1 _ rfl
      have t2 : DataW.trod enc Tryd.prog W base spare held n 3 (([c0, c1, c2].drop 2).take (Tryd.prog.cellsOf 3)) = some y2 := hg 2 _ rfl
      rw [cells3] at t0 t2
      rw [cellsU] at t1
      replace t0 : DataW.trod enc Tryd.prog W base spare held n 3 [c0] = some y0 := t0
      replace t1 : DataW.trod enc Tryd.prog W base spare held n 22 [c1] = some y1 := t1
      replace t2 : DataW.trod enc Tryd.prog W base spare held n 3 [c2] = some y2 := t2
      obtain ⟨n0, e0, _, _⟩ := DataW.trod_int Tryd.underlying3 t0
      obtain ⟨n1, e1, _, w1⟩ := DataW.trod_int Tryd.underlying22 t1
      obtain ⟨n2, e2, _, _⟩ := DataW.trod_int Tryd.underlying3 t2
      obtain rfl := List.head_eq_of_cons_eq e0
      obtain rfl := List.head_eq_of_cons_eq e1
      obtain rfl := List.head_eq_of_cons_eq e2
      obtain ⟨c, rfl, hu⟩ := nat_of_u64 w1
      exact ⟨⟨n0, c, n2⟩, hu, hat 0 (by omega), hat 1 (by omega), hat 2 (by omega)⟩

set_option maxRecDepth 100000 in
theorem open_labs {b0 : Nat} {v : Value} {d : DataW H} {p : List MemPlace} {held : Bool} (hv : Value.okWide Tryd.prog W .any b0 34 v) (h : DataW.Trod enc Tryd.prog W base (fun _ => true) held 34 v d p) :
    ∃ a len cap zs, v = .slice a len cap ∧ LabsIn W a len cap zs := by
  obtain ⟨a, len, cap, rfl⟩ := okWide_slice Tryd.underlying34 hv
  obtain ⟨fuel, hf⟩ := h
  rcases Go.Deep.open_slice Tryd.underlying34 hf with ⟨hcs, _⟩ | ⟨x, l, c, m, n, D, Pl, hcs, _, hl, hm, hmm, _, hi⟩
  · simp [Value.cells] at hcs
    obtain ⟨rfl, rfl, rfl⟩ := hcs
    exact ⟨none, 0, 0, [], rfl, ⟨none, 0, rfl, fun h => absurd rfl h⟩, rfl, Nat.le_refl _, Nat.zero_le _, fun _ => rfl⟩
  · simp [Value.cells] at hcs
    obtain ⟨rfl, rfl, rfl⟩ := hcs
    simp only [if_true] at hmm
    subst hmm
    have hel : ∀ i, ∃ z : Lab, i < len → z.fits ∧ W.cell? ((x.add (i * 3)).add 0) = some (.int .i64 z.l) ∧ W.cell? ((x.add (i * 3)).add 1) = some (.int .u64 z.c) ∧ W.cell? ((x.add (i * 3)).add 2) = some (.int .i64 z.i) := fun i => by
      by_cases hlt : i < len
      · obtain ⟨cs, hc, ht⟩ := hi i (by omega)
        obtain ⟨z, hz⟩ := open_elem hc ht
        rw [cellsL] at hz
        exact ⟨z, fun _ => hz⟩
      · exact ⟨Lab.zero, fun h => absurd h hlt⟩
    obtain ⟨f, hfz⟩ := Classical.axiomOfChoice hel
    refine ⟨some x, len, m, (List.range len).map f, rfl, ⟨some x, m, by simp, fun hne => ?_⟩, by simp, hl, hm, fun h => by cases h⟩
    have hpos : 0 < len := by
      rcases Nat.eq_zero_or_pos len with h | h
      · exact absurd (by rw [h]; rfl) hne
      · exact h
    obtain ⟨b, off, sp⟩ := x
    have h0 := (hfz 0 hpos).2.1
    have hsp : sp = none := by
      have := World.cell?_spot h0
      simpa [Addr.add] using this
    subst hsp
    simp only [addr_add] at hfz h0
    refine ⟨b, off, rfl, World.block_lt_of_cell? W _ h0, fun j z hj => ?_⟩
    rw [List.getElem?_map] at hj
    by_cases hjl : j < len
    · rw [List.getElem?_range hjl] at hj
      obtain rfl := Option.some.inj hj
      obtain ⟨h1, h2, h3, h4⟩ := hfz j hjl
      exact ⟨h1, h2, h3, h4⟩
    · rw [List.getElem?_eq_none (by simp; omega)] at hj
      cases hj
end

end Go.Proofs.YtciohfeifihobaaDoor
