/- Acts that come in, opened. -/
import Derived.Test.YtjfooblnpkckfaaDoorSlActs
import Derived.Test.YtjfooblnpkckfaaDoorSlLaid
namespace Go.Proofs.YtjfooblnpkckfaaDoor
open Go.ChangeShapes Go.WideShapes Go.ChangeAt Go.RowKit Go.Proofs.Slt Go.Joins

theorem cellsA : Tryd.prog.cellsOf 34 = 3 := by kernel_rfl
theorem cellsI : Tryd.prog.cellsOf 3 = 1 := by kernel_rfl
theorem cellsB : Tryd.prog.cellsOf 4 = 1 := by kernel_rfl
theorem addr_add (b off j : Nat) : (⟨b, off, none⟩ : Addr).add j = ⟨b, off + j, none⟩ := by
  unfold Addr.add
  by_cases hj0 : j = 0
  · subst hj0; simp
  · simp [hj0]

section
variable {H : Type} {enc : TypeId × Value → H} {W : World} {base : Nat}
set_option maxRecDepth 100000 in
theorem open_act {spare : Nat → Bool} {held : Bool} {fuel : Nat} {x : Addr} {cs : List Value} {y : DataW H × List MemPlace} (hc : W.cells? base x (Tryd.prog.cellsOf 34) = some cs) (ht : DataW.trod enc Tryd.prog W base spare held fuel 34 cs = some y) :
    ∃ z : Ac, W.cell? (x.add 0) = some (.bool z.1) ∧ W.cell? (x.add 1) = some (.int .i64 z.2.1) ∧ W.cell? (x.add 2) = some (.int .i64 z.2.2) := by
  obtain ⟨_, hcl, hat⟩ := World.cells?_some hc
  rw [cellsA] at hcl hat
  obtain ⟨ys, n, _, _, _, hyl, hg⟩ := DataW.trod_struct Tryd.underlying34 ht
  match cs, hcl with
  | [c0, c1, c2], _ =>
    match ys, hyl with
    | [y0, y1], _ =>
      have t0 : DataW.trod enc Tryd.prog W base spare held n 4 (([c0, c1, c2].drop 0).take (Tryd.prog.cellsOf 4)) = some y0 := hg 0 _ rfl
      have t1 : DataW.trod enc Tryd.prog W base spare held n 32 (([c0, c1, c2].drop 1).take (Tryd.prog.cellsOf 32)) = some y1 := hg 1 _ rfl
      rw [cellsB] at t0
      rw [cellsH] at t1
      replace t0 : DataW.trod enc Tryd.prog W base spare held n 4 [c0] = some y0 := t0
      replace t1 : DataW.trod enc Tryd.prog W base spare held n 32 [c1, c2] = some y1 := t1
      obtain ⟨ys', n', _, _, _, hyl', hg'⟩ := DataW.trod_struct Tryd.underlying32 t1
      match ys', hyl' with
      | [z0, z1], _ =>
        have s0 : DataW.trod enc Tryd.prog W base spare held n' 3 (([c1, c2].drop 0).take (Tryd.prog.cellsOf 3)) = some z0 := hg' 0 _ rfl
        have s1 : DataW.trod enc Tryd.prog W base spare held n' 3 (([c1, c2].drop 1).take (Tryd.prog.cellsOf 3)) = some z1 := hg' 1 _ rfl
        rw [cellsI] at s0 s1
        replace s0 : DataW.trod enc Tryd.prog W base spare held n' 3 [c1] = some z0 := s0
        replace s1 : DataW.trod enc Tryd.prog W base spare held n' 3 [c2] = some z1 := s1
        obtain ⟨b0, e0, _⟩ := DataW.trod_bool Tryd.underlying4 t0
        obtain ⟨n1, e1, _, _⟩ := DataW.trod_int Tryd.underlying3 s0
        obtain ⟨n2, e2, _, _⟩ := DataW.trod_int Tryd.underlying3 s1
        obtain rfl := List.head_eq_of_cons_eq e0
        obtain rfl := List.head_eq_of_cons_eq e1
        obtain rfl := List.head_eq_of_cons_eq e2
        exact ⟨(b0, n1, n2), hat 0 (by omega), hat 1 (by omega), hat 2 (by omega)⟩
set_option maxRecDepth 100000 in
theorem open_actsIn {a : Option Addr} {len cap : Nat} {d : DataW H} {p : List MemPlace} (h : DataW.Trod enc Tryd.prog W base (fun _ => true) true 22 (.slice a len cap) d p) : ∃ zs, ActsIn W a len cap zs := by
  obtain ⟨fuel, hf⟩ := h
  rcases Go.Deep.open_slice Tryd.underlying22 hf with ⟨hcs, _⟩ | ⟨x, l, c, m, n, D, Pl, hcs, _, hl, hm, hmm, _, hi⟩
  · simp [Value.cells] at hcs
    obtain ⟨rfl, rfl, rfl⟩ := hcs
    exact ⟨[], rfl, Nat.le_refl _, Nat.zero_le _, fun j z hz => by simp at hz⟩
  · simp [Value.cells] at hcs
    obtain ⟨rfl, rfl, rfl⟩ := hcs
    simp only [if_true] at hmm
    subst hmm
    have hel : ∀ i, ∃ z : Ac, i < len → W.cell? ((x.add (i * 3)).add 0) = some (.bool z.1) ∧ W.cell? ((x.add (i * 3)).add 1) = some (.int .i64 z.2.1) ∧ W.cell? ((x.add (i * 3)).add 2) = some (.int .i64 z.2.2) := fun i => by
      by_cases hlt : i < len
      · obtain ⟨cs, hc, ht⟩ := hi i (by omega)
        obtain ⟨z, hz⟩ := open_act hc ht
        rw [cellsA] at hz
        exact ⟨z, fun _ => hz⟩
      · exact ⟨(false, 0, 0), fun h => absurd h hlt⟩
    obtain ⟨f, hfz⟩ := Classical.axiomOfChoice hel
    refine ⟨(List.range len).map f, by simp, hl, hm, fun j z hj => ?_⟩
    have hjl : j < len := by have := (List.getElem?_eq_some_iff.1 hj).1; simpa using this
    obtain ⟨b, off, sp⟩ := x
    have h0 := (hfz 0 (by omega)).1
    have hsp : sp = none := by
      have := World.cell?_spot h0
      simpa [Addr.add] using this
    subst hsp
    simp only [addr_add] at hfz h0
    rw [List.getElem?_map, List.getElem?_range hjl] at hj
    obtain rfl := Option.some.inj hj
    obtain ⟨h1, h2, h3⟩ := hfz j hjl
    exact ⟨b, off, rfl, World.block_lt_of_cell? W _ h0, h1, h2, h3⟩
end

end Go.Proofs.YtjfooblnpkckfaaDoor
