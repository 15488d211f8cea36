/- What the listed variables give the walks: the sentinels and errors.errorType; objects that come in. -/
import Derived.Test.YtnbpfbmhheimbaaGreatDoorRgB
import Derived.Test.YtnbpfbmhheimbaaGreatDoorSpHead
import Derived.LaidHandle
namespace Go.Proofs.YtnbpfbmhheimbaaGreatDoor
open Go.ChangeShapes Go.WideShapes Go.ChangeAt Go.RowKit Go.Proofs.Fld Go.Proofs.Rng Go.Proofs.Spc Go.Joins

/-- What the rows list. -/
def laid10 : List (String × DataW Unit) := [("errors.errorType", Rows.laid_errors_errorType), ("plimsoll/ring.errWrong", Rows.laid_plimsoll_ring_errWrong), ("plimsoll/ring.errFull", Rows.laid_plimsoll_ring_errFull), ("plimsoll/ring.errEmpty", Rows.laid_plimsoll_ring_errEmpty)]
theorem etG : Tryz.prog.globalNamed "errors.errorType" = some 0 := by kernel_rfl
theorem rtT : (Tryz.prog.cutTypes.find? (·.1 == "internal/reflectlite.rtype")).map (·.2) = some 156 := by kernel_rfl
theorem oneRow : ((List.range 237).filter fun t => Tryz.prog.rowNamed t [101, 114, 114, 111, 114]) = [59] := by kernel_rfl
theorem typesN : Tryz.prog.types.size = 237 := by kernel_rfl

theorem ev_of_laid {W : World} (h : laidMetH Tryz.prog laid10 W) : ∃ s, Ev s W := by
  have h' : laidMet Tryz.prog laid8 W ∧ handlesMet Tryz.prog [("errors.errorType", Rows.laid_errors_errorType)] W := h
  obtain ⟨s, hs⟩ := sent_of_laid (W := W) (by
    rw [MakeChecks.laidMetH_plain _ _ _ (by kernel_rfl)]
    exact h'.1)
  refine ⟨s, hs, ?_⟩
  obtain ⟨name, u, ty, e1, e2, e3, e4, e5⟩ := h'.2 _ (List.mem_singleton.2 rfl)
  have en : name = [101, 114, 114, 111, 114] := (Option.some.inj e1).symm
  subst en
  obtain rfl := Option.some.inj (rtT.symm.trans e2)
  have hm : ty ∈ (List.range 237).filter fun t => Tryz.prog.rowNamed t [101, 114, 114, 111, 114] := List.mem_filter.2 ⟨List.mem_range.2 (by rw [← typesN]; exact e3), e4⟩
  rw [oneRow] at hm
  obtain rfl := List.mem_singleton.1 hm
  have hh : typeHandle Tryz.prog 59 = .pointer (some ⟨5, 59, none⟩) := by kernel_rfl
  rw [hh] at e5
  unfold Fi.ErrT
  simpa using World.var?_cell etG e5 0

theorem door_met10 (os : Os) (args : Array Value) : laidMetH Tryz.prog laid10 ((World.doorLaid Tryz.prog 400 os).forCall (fun _ _ => 0) ⟨#[], args, []⟩).memory :=
  laidMetH_of_parts (laidMet_of_run' 8 (by kernel_rfl) (by kernel_rfl)) (by kernel_rfl)

theorem cellsOb : Tryz.prog.cellsOf 55 = 5 := by kernel_rfl
theorem cellsN : Tryz.prog.cellsOf 3 = 1 := by kernel_rfl
theorem cellsSl : Tryz.prog.cellsOf 31 = 1 := by kernel_rfl
section
variable {H : Type} {enc : TypeId × Value → H} {W : World} {base : Nat}
set_option maxRecDepth 100000 in
theorem open_ob {held : Bool} {fuel : Nat} {x : Addr} {cs : List Value} {y : DataW H × List MemPlace} (hc : W.cells? base x (Tryz.prog.cellsOf 55) = some cs) (ht : DataW.trod enc Tryz.prog W base (fun _ => true) held fuel 55 cs = some y) :
    ∃ z : Ov, Lv W z ∧ W.cell? (x.add 0) = some (.string (bs z.o.n)) ∧ W.cell? (x.add 1) = some (.int .i64 z.o.k) ∧ W.cell? (x.add 2) = some (.string (bs z.o.d)) ∧ W.cell? (x.add 3) = some (.int .i64 z.o.m) ∧ W.cell? (x.add 4) = some (.slice z.a z.o.l.length z.c) := by
  obtain ⟨_, hcl, hat⟩ := World.cells?_some hc
  rw [cellsOb] at hcl hat
  obtain ⟨ys, n, _, _, _, hyl, hg⟩ := DataW.trod_struct Tryz.underlying55 ht
  match cs, hcl with
  | [c0, c1, c2, c3, c4], _ =>
    match ys, hyl with
    | [y0, y1, y2, y3], _ =>
      have t0 : DataW.trod enc Tryz.prog W base (fun _ => true) held n 9 (([c0, c1, c2, c3, c4].drop 0).take (Tryz.prog.cellsOf 9)) = some y0 := hg 0 _ rfl
      have t1 : DataW.trod enc Tryz.prog W base (fun _ => true) held n 3 (([c0, c1, c2, c3, c4].drop 1).take (Tryz.prog.cellsOf 3)) = some y1 := hg 1 _ rfl
      have t2 : DataW.trod enc Tryz.prog W base (fun _ => true) held n 9 (([c0, c1, c2, c3, c4].drop 2).take (Tryz.prog.cellsOf 9)) = some y2 := hg 2 _ rfl
      have t3 : DataW.trod enc Tryz.prog W base (fun _ => true) held n 53 (([c0, c1, c2, c3, c4].drop 3).take (Tryz.prog.cellsOf 53)) = some y3 := hg 3 _ rfl
      rw [cells9] at t0 t2
      rw [cellsN] at t1
      rw [cellsR] at t3
      replace t0 : DataW.trod enc Tryz.prog W base (fun _ => true) held n 9 [c0] = some y0 := t0
      replace t1 : DataW.trod enc Tryz.prog W base (fun _ => true) held n 3 [c1] = some y1 := t1
      replace t2 : DataW.trod enc Tryz.prog W base (fun _ => true) held n 9 [c2] = some y2 := t2
      replace t3 : DataW.trod enc Tryz.prog W base (fun _ => true) held n 53 [c3, c4] = some y3 := t3
      obtain ⟨zs, n', _, _, _, hzl, hg'⟩ := DataW.trod_struct Tryz.underlying53 t3
      match zs, hzl with
      | [z0, z1], _ =>
        have s0 : DataW.trod enc Tryz.prog W base (fun _ => true) held n' 3 (([c3, c4].drop 0).take (Tryz.prog.cellsOf 3)) = some z0 := hg' 0 _ rfl
        have s1 : DataW.trod enc Tryz.prog W base (fun _ => true) held n' 31 (([c3, c4].drop 1).take (Tryz.prog.cellsOf 31)) = some z1 := hg' 1 _ rfl
        rw [cellsN] at s0
        rw [cellsSl] at s1
        replace s0 : DataW.trod enc Tryz.prog W base (fun _ => true) held n' 3 [c3] = some z0 := s0
        replace s1 : DataW.trod enc Tryz.prog W base (fun _ => true) held n' 31 [c4] = some z1 := s1
        obtain ⟨b0, e0, _, w0⟩ := DataW.trod_string Tryz.underlying9 t0
        obtain ⟨n1, e1, _, _⟩ := DataW.trod_int Tryz.underlying3 t1
        obtain ⟨b2, e2, _, w2⟩ := DataW.trod_string Tryz.underlying9 t2
        obtain ⟨n3, e3, _, _⟩ := DataW.trod_int Tryz.underlying3 s0
        obtain ⟨a, len, cap, ts, rfl, hT⟩ := open_txsv s1
        obtain rfl := List.head_eq_of_cons_eq e0
        obtain rfl := List.head_eq_of_cons_eq e1
        obtain rfl := List.head_eq_of_cons_eq e2
        obtain rfl := List.head_eq_of_cons_eq e3
        have hl := hT.hlen
        subst hl
        refine ⟨⟨⟨b0.data.toList, n1, b2.data.toList, n3, ts⟩, a, cap⟩, ⟨hT, ?_, ?_⟩, ?_, hat 1 (by omega), ?_, hat 3 (by omega), hat 4 (by omega)⟩
        · rw [bs_all b0, bs_size] at w0
          exact w0
        · rw [bs_all b2, bs_size] at w2
          exact w2
        · show _ = some (Value.string (bs b0.data.toList))
          rw [← bs_all b0]
          exact hat 0 (by omega)
        · show _ = some (Value.string (bs b2.data.toList))
          rw [← bs_all b2]
          exact hat 2 (by omega)

set_option maxRecDepth 100000 in
theorem open_objs {b0 : Nat} {v : Value} {d : DataW H} {p : List MemPlace} {held : Bool} (hv : Value.okWide Tryz.prog W .any b0 22 v) (h : DataW.Trod enc Tryz.prog W base (fun _ => true) held 22 v d p) :
    ∃ a len cap zs, v = .slice a len cap ∧ Objs W a len cap zs := by
  obtain ⟨a, len, cap, rfl⟩ := okWide_slice Tryz.underlying22 hv
  obtain ⟨fuel, hf⟩ := h
  replace hf : DataW.trod enc Tryz.prog W base (fun _ => true) held fuel 22 [.slice a len cap] = some (d, p) := by simpa [Value.cells] using hf
  rcases Go.Deep.open_slice Tryz.underlying22 hf with ⟨hcs, _⟩ | ⟨x, len', c', m, n, D, Pl, hcs, _, hl, hm, hmm, _, hi⟩
  · simp at hcs
    obtain ⟨rfl, rfl, rfl⟩ := hcs
    exact ⟨none, 0, 0, [], rfl, Objs.nil W⟩
  · simp at hcs
    obtain ⟨rfl, rfl, rfl⟩ := hcs
    simp only [if_true] at hmm
    subst hmm
    have hel : ∀ i, ∃ z : Ov, i < len → Lv W z ∧ W.cell? ((x.add (i * 5)).add 0) = some (.string (bs z.o.n)) ∧ W.cell? ((x.add (i * 5)).add 1) = some (.int .i64 z.o.k) ∧ W.cell? ((x.add (i * 5)).add 2) = some (.string (bs z.o.d)) ∧ W.cell? ((x.add (i * 5)).add 3) = some (.int .i64 z.o.m) ∧ W.cell? ((x.add (i * 5)).add 4) = some (.slice z.a z.o.l.length z.c) := fun i => by
      by_cases hlt : i < len
      · obtain ⟨cs, hc, ht⟩ := hi i (by omega)
        obtain ⟨z, hz⟩ := open_ob hc ht
        rw [cellsOb] at hz
        exact ⟨z, fun _ => hz⟩
      · exact ⟨⟨noO, none, 0⟩, fun h => absurd h hlt⟩
    obtain ⟨f, hfz⟩ := Classical.axiomOfChoice hel
    refine ⟨some x, len, m, (List.range len).map f, rfl, by simp, hl, hm, (fun h => by cases h), ?_, fun hne => ?_⟩
    · intro z hz
      obtain ⟨i, hi1, rfl⟩ := List.mem_map.1 hz
      exact (hfz i (List.mem_range.1 hi1)).1
    have hpos : 0 < len := by
      rcases Nat.eq_zero_or_pos len with h | h
      · exact absurd (by rw [h]; rfl) hne
      · exact h
    obtain ⟨b, off, sp⟩ := x
    have h0 := (hfz 0 hpos).2.1
    have hsp' : sp = none := by
      have := World.cell?_spot h0
      simpa [Addr.add] using this
    subst hsp'
    simp only [add_at] at hfz h0
    refine ⟨b, off, rfl, fun j z hj => ?_⟩
    rw [List.getElem?_map] at hj
    by_cases hjl : j < len
    · rw [List.getElem?_range hjl] at hj
      obtain rfl := Option.some.inj hj
      obtain ⟨_, h1, h2, h3, h4, h5⟩ := hfz j hjl
      exact ⟨h1, h2, h3, h4, h5⟩
    · rw [List.getElem?_eq_none (by simp; omega)] at hj
      cases hj
end

end Go.Proofs.YtnbpfbmhheimbaaGreatDoor
