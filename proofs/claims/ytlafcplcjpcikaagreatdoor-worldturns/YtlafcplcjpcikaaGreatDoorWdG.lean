/- Merged texts: WdOpen, WdLaid -/
import Derived.Test.YtlafcplcjpcikaaGreatDoorWdB
import Derived.ProofKit
import Derived.LaidMore
import Derived.OpenShut
import Derived.ChangeOld
import Derived.ChangeMaps5
import Derived.ChangeSlices
import Derived.Stop.Joined
import Derived.Stop.LaidErr
import Derived.LaidLaws
import Derived.Lib.SmallJoins
import Derived.ChangeSame
import Derived.Deep.Slices
import Derived.Deep.Fields
import Derived.Test.YtlafcplcjpcikaaGreatDoorRows
import Derived.Test.YtlafcplcjpcikaaGreatDoorWdE
import Derived.Stop.LaidTwo
import Derived.LaidHandle
/- Objects and parts that come in (whatever variables the rows list). -/
namespace Go.Proofs.YtlafcplcjpcikaaGreatDoor.Wd
open Go.ChangeShapes Go.WideShapes Go.ChangeAt Go.RowKit Go.Proofs.Fld Go.Proofs.Rng Go.Proofs.Spc Go.Proofs.Cats Go.Proofs.Wld Go.Joins

theorem own : ownKnob Tryz.prog.godebug = none := by kernel_rfl
theorem laidOut : laidOutB Tryz.prog = true := by kernel_rfl
theorem cells9 : Tryz.prog.cellsOf 9 = 1 := by kernel_rfl
theorem cellsR : Tryz.prog.cellsOf 49 = 2 := by kernel_rfl
theorem cellsOb : Tryz.prog.cellsOf 51 = 5 := by kernel_rfl
theorem cellsN : Tryz.prog.cellsOf 3 = 1 := by kernel_rfl
theorem cellsU : Tryz.prog.cellsOf 23 = 1 := by kernel_rfl
theorem cellsSl : Tryz.prog.cellsOf 47 = 1 := by kernel_rfl
theorem cellsSo : Tryz.prog.cellsOf 30 = 1 := by kernel_rfl
theorem cellsL : Tryz.prog.cellsOf 25 = 3 := by kernel_rfl
theorem cellsPt : Tryz.prog.cellsOf 44 = 4 := by kernel_rfl
theorem nat_u64 {x : Int} (h : (Lit.int .u64 x).wf = true) : ∃ n : Nat, x = n ∧ U64 n := by
  have hb := bounds_u64 h
  obtain ⟨n, rfl⟩ := Int.eq_ofNat_of_zero_le hb.1
  exact ⟨n, rfl, by unfold U64; omega⟩

/-- A label's numbers are numbers of the machine. -/
def LabWf (x : Lab) : Prop := (Lit.int .i64 x.l).wf = true ∧ (Lit.int .u64 x.c).wf = true ∧ (Lit.int .i64 x.i).wf = true
def labD {H : Type} (x : Lab) : DataW H := .agg [.lit (.int .i64 x.l), .lit (.int .u64 x.c), .lit (.int .i64 x.i)]
theorem LabWf.fits {x : Lab} (h : LabWf x) : x.fits := by
  have hb := bounds_u64 h.2.1
  unfold Lab.fits U64
  omega
section
variable {H : Type} {enc : TypeId × Value → H} {W : World} {base : Nat}
set_option maxRecDepth 100000 in
theorem open_elem {spare : Nat → Bool} {held : Bool} {fuel : Nat} {x : Addr} {cs : List Value} {y : DataW H × List MemPlace} (hc : W.cells? base x (Tryz.prog.cellsOf 9) = some cs) (ht : DataW.trod enc Tryz.prog W base spare held fuel 9 cs = some y) :
    ∃ z : It, z.length ≤ 9223372036854775807 ∧ W.cell? (x.add 0) = some (.string (bs z)) := by
  obtain ⟨_, hcl, hat⟩ := World.cells?_some hc
  rw [cells9] at hcl hat
  match cs, hcl with
  | [c0], _ =>
    obtain ⟨b, e, _, hb⟩ := DataW.trod_string Tryz.underlying9 ht
    obtain rfl := List.head_eq_of_cons_eq e
    refine ⟨b.data.toList, ?_, ?_⟩
    · rw [bs_all b, bs_size] at hb
      exact hb
    · rw [← bs_all b]
      exact hat 0 (by omega)

set_option maxRecDepth 100000 in
theorem open_txsv {v : Value} {fuel : Nat} {y : DataW H × List MemPlace} {held : Bool} (hf : DataW.trod enc Tryz.prog W base (fun _ => true) held fuel 47 [v] = some y) :
    ∃ a len cap zs, v = .slice a len cap ∧ Txs W a len cap zs := by
  rcases Go.Deep.open_slice Tryz.underlying47 hf with ⟨hcs, _⟩ | ⟨x, len, c, m, n, D, Pl, hcs, _, hl, hm, hmm, _, hi⟩
  · obtain rfl := List.head_eq_of_cons_eq hcs
    exact ⟨none, 0, 0, [], rfl, Txs.nil W⟩
  · obtain rfl := List.head_eq_of_cons_eq hcs
    simp only [if_true] at hmm
    subst hmm
    have hel : ∀ i, ∃ z : It, i < len → z.length ≤ 9223372036854775807 ∧ W.cell? ((x.add (i * 1)).add 0) = some (.string (bs z)) := fun i => by
      by_cases hlt : i < len
      · obtain ⟨cs, hc, ht⟩ := hi i (by omega)
        obtain ⟨z, hz⟩ := open_elem hc ht
        rw [cells9] at hz
        exact ⟨z, fun _ => hz⟩
      · exact ⟨[], fun h => absurd h hlt⟩
    obtain ⟨f, hfz⟩ := Classical.axiomOfChoice hel
    refine ⟨some x, len, m, (List.range len).map f, rfl, by simp, hl, hm, (fun h => by cases h), ?_, fun hne => ?_⟩
    · intro z hz
      obtain ⟨i, hi1, rfl⟩ := List.mem_map.1 hz
      exact (hfz i (List.mem_range.1 hi1)).1
    have hpos : 0 < len := by
      rcases Nat.eq_zero_or_pos len with h | h
      · exact absurd (by rw [h]; rfl) hne
      · exact h
    obtain ⟨b, off, sp⟩ := x
    have h0 := (hfz 0 hpos).2
    have hsp' : sp = none := by
      have := World.cell?_spot h0
      simpa [Addr.add] using this
    subst hsp'
    simp only [add_at] at hfz h0
    refine ⟨b, off, rfl, fun j z hj => ?_⟩
    rw [List.getElem?_map] at hj
    by_cases hjl : j < len
    · rw [List.getElem?_range hjl] at hj
      obtain rfl := Option.some.inj hj
      have := (hfz j hjl).2
      rw [Nat.mul_one, Nat.add_zero] at this
      exact this
    · rw [List.getElem?_eq_none (by simp; omega)] at hj
      cases hj
set_option maxRecDepth 100000 in
theorem open_ob {held : Bool} {fuel : Nat} {x : Addr} {cs : List Value} {y : DataW H × List MemPlace} (hc : W.cells? base x (Tryz.prog.cellsOf 51) = some cs) (ht : DataW.trod enc Tryz.prog W base (fun _ => true) held fuel 51 cs = some y) :
    ∃ z : Ov, Lv W z ∧ W.cell? (x.add 0) = some (.string (bs z.o.n)) ∧ W.cell? (x.add 1) = some (.int .i64 z.o.k) ∧ W.cell? (x.add 2) = some (.string (bs z.o.d)) ∧ W.cell? (x.add 3) = some (.int .i64 z.o.m) ∧ W.cell? (x.add 4) = some (.slice z.a z.o.l.length z.c) := by
  obtain ⟨_, hcl, hat⟩ := World.cells?_some hc
  rw [cellsOb] at hcl hat
  obtain ⟨ys, n, _, _, _, hyl, hg⟩ := DataW.trod_struct Tryz.underlying51 ht
  match cs, hcl with
  | [c0, c1, c2, c3, c4], _ =>
    match ys, hyl with
    | [y0, y1, y2, y3], _ =>
      have t0 : DataW.trod enc Tryz.prog W base (fun _ => true) held n 9 (([c0, c1, c2, c3, c4].drop 0).take (Tryz.prog.cellsOf 9)) = some y0 := hg 0 _ rfl
      have t1 : DataW.trod enc Tryz.prog W base (fun _ => true) held n 3 (([c0, c1, c2, c3, c4].drop 1).take (Tryz.prog.cellsOf 3)) = some y1 := hg 1 _ rfl
      have t2 : DataW.trod enc Tryz.prog W base (fun _ => true) held n 9 (([c0, c1, c2, c3, c4].drop 2).take (Tryz.prog.cellsOf 9)) = some y2 := hg 2 _ rfl
      have t3 : DataW.trod enc Tryz.prog W base (fun _ => true) held n 49 (([c0, c1, c2, c3, c4].drop 3).take (Tryz.prog.cellsOf 49)) = some y3 := hg 3 _ rfl
      rw [cells9] at t0 t2
      rw [cellsN] at t1
      rw [cellsR] at t3
      replace t0 : DataW.trod enc Tryz.prog W base (fun _ => true) held n 9 [c0] = some y0 := t0
      replace t1 : DataW.trod enc Tryz.prog W base (fun _ => true) held n 3 [c1] = some y1 := t1
      replace t2 : DataW.trod enc Tryz.prog W base (fun _ => true) held n 9 [c2] = some y2 := t2
      replace t3 : DataW.trod enc Tryz.prog W base (fun _ => true) held n 49 [c3, c4] = some y3 := t3
      obtain ⟨zs, n', _, _, _, hzl, hg'⟩ := DataW.trod_struct Tryz.underlying49 t3
      match zs, hzl with
      | [z0, z1], _ =>
        have s0 : DataW.trod enc Tryz.prog W base (fun _ => true) held n' 3 (([c3, c4].drop 0).take (Tryz.prog.cellsOf 3)) = some z0 := hg' 0 _ rfl
        have s1 : DataW.trod enc Tryz.prog W base (fun _ => true) held n' 47 (([c3, c4].drop 1).take (Tryz.prog.cellsOf 47)) = some z1 := hg' 1 _ rfl
        rw [cellsN] at s0
        rw [cellsSl] at s1
        replace s0 : DataW.trod enc Tryz.prog W base (fun _ => true) held n' 3 [c3] = some z0 := s0
        replace s1 : DataW.trod enc Tryz.prog W base (fun _ => true) held n' 47 [c4] = some z1 := s1
        obtain ⟨b0, e0, _, w0⟩ := DataW.trod_string Tryz.underlying9 t0
        obtain ⟨n1, e1, _, _⟩ := DataW.trod_int Tryz.underlying3 t1
        obtain ⟨b2, e2, _, w2⟩ := DataW.trod_string Tryz.underlying9 t2
        obtain ⟨n3, e3, _, _⟩ := DataW.trod_int Tryz.underlying3 s0
        obtain ⟨a, len, cap, ts, rfl, hT⟩ := open_txsv s1
        obtain rfl := List.head_eq_of_cons_eq e0
        obtain rfl := List.head_eq_of_cons_eq e1
        obtain rfl := List.head_eq_of_cons_eq e2
        obtain rfl := List.head_eq_of_cons_eq e3
        have hl := hT.hlen
        subst hl
        refine ⟨⟨⟨b0.data.toList, n1, b2.data.toList, n3, ts⟩, a, cap⟩, ⟨hT, ?_, ?_⟩, ?_, hat 1 (by omega), ?_, hat 3 (by omega), hat 4 (by omega)⟩
        · rw [bs_all b0, bs_size] at w0
          exact w0
        · rw [bs_all b2, bs_size] at w2
          exact w2
        · show _ = some (Value.string (bs b0.data.toList))
          rw [← bs_all b0]
          exact hat 0 (by omega)
        · show _ = some (Value.string (bs b2.data.toList))
          rw [← bs_all b2]
          exact hat 2 (by omega)

set_option maxRecDepth 100000 in
theorem open_objsv {v : Value} {fuel : Nat} {y : DataW H × List MemPlace} {held : Bool} (hf : DataW.trod enc Tryz.prog W base (fun _ => true) held fuel 30 [v] = some y) :
    ∃ a len cap zs, v = .slice a len cap ∧ Objs W a len cap zs := by
  rcases Go.Deep.open_slice Tryz.underlying30 hf with ⟨hcs, _⟩ | ⟨x, len, c', m, n, D, Pd, hcs, _, hl, hm, hmm, _, hi⟩
  · obtain rfl := List.head_eq_of_cons_eq hcs
    exact ⟨none, 0, 0, [], rfl, Objs.nil W⟩
  · obtain rfl := List.head_eq_of_cons_eq hcs
    simp only [if_true] at hmm
    subst hmm
    have hel : ∀ i, ∃ z : Ov, i < len → Lv W z ∧ W.cell? ((x.add (i * 5)).add 0) = some (.string (bs z.o.n)) ∧ W.cell? ((x.add (i * 5)).add 1) = some (.int .i64 z.o.k) ∧ W.cell? ((x.add (i * 5)).add 2) = some (.string (bs z.o.d)) ∧ W.cell? ((x.add (i * 5)).add 3) = some (.int .i64 z.o.m) ∧ W.cell? ((x.add (i * 5)).add 4) = some (.slice z.a z.o.l.length z.c) := fun i => by
      by_cases hlt : i < len
      · obtain ⟨cs, hc, ht⟩ := hi i (by omega)
        obtain ⟨z, hz⟩ := open_ob hc ht
        rw [cellsOb] at hz
        exact ⟨z, fun _ => hz⟩
      · exact ⟨⟨noO, none, 0⟩, fun h => absurd h hlt⟩
    obtain ⟨f, hfz⟩ := Classical.axiomOfChoice hel
    refine ⟨some x, len, m, (List.range len).map f, rfl, by simp, hl, hm, (fun h => by cases h), ?_, fun hne => ?_⟩
    · intro z hz
      obtain ⟨i, hi1, rfl⟩ := List.mem_map.1 hz
      exact (hfz i (List.mem_range.1 hi1)).1
    have hpos : 0 < len := by
      rcases Nat.eq_zero_or_pos len with h | h
      · exact absurd (by rw [h]; rfl) hne
      · exact h
    obtain ⟨b, off, sp⟩ := x
    have h0 := (hfz 0 hpos).2.1
    have hsp' : sp = none := by
      have := World.cell?_spot h0
      simpa [Addr.add] using this
    subst hsp'
    simp only [add_at] at hfz h0
    refine ⟨b, off, rfl, fun j z hj => ?_⟩
    rw [List.getElem?_map] at hj
    by_cases hjl : j < len
    · rw [List.getElem?_range hjl] at hj
      obtain rfl := Option.some.inj hj
      obtain ⟨_, h1, h2, h3, h4, h5⟩ := hfz j hjl
      exact ⟨h1, h2, h3, h4, h5⟩
    · rw [List.getElem?_eq_none (by simp; omega)] at hj
      cases hj
set_option maxRecDepth 100000 in
theorem open_objs {b0 : Nat} {v : Value} {d : DataW H} {p : List MemPlace} {held : Bool} (hv : Value.okWide Tryz.prog W .any b0 30 v) (h : DataW.Trod enc Tryz.prog W base (fun _ => true) held 30 v d p) :
    ∃ a len cap zs, v = .slice a len cap ∧ Objs W a len cap zs := by
  obtain ⟨a, len, cap, rfl⟩ := okWide_slice Tryz.underlying30 hv
  obtain ⟨fuel, hf⟩ := h
  exact open_objsv (show DataW.trod enc Tryz.prog W base (fun _ => true) held fuel 30 [.slice a len cap] = some (d, p) from by simpa [Value.cells] using hf)
set_option maxRecDepth 100000 in
theorem open_pt {held : Bool} {fuel : Nat} {x : Addr} {cs : List Value} {y : DataW H × List MemPlace} (hc : W.cells? base x (Tryz.prog.cellsOf 44) = some cs) (ht : DataW.trod enc Tryz.prog W base (fun _ => true) held fuel 44 cs = some y) :
    ∃ z : Pv, Pl W z ∧ W.cell? (x.add 0) = some (.int .i64 z.a.l) ∧ W.cell? (x.add 1) = some (.int .u64 z.a.c) ∧ W.cell? (x.add 2) = some (.int .i64 z.a.i) ∧ W.cell? (x.add 3) = some (.slice z.va z.os.length z.vc) := by
  obtain ⟨_, hcl, hat⟩ := World.cells?_some hc
  rw [cellsPt] at hcl hat
  obtain ⟨ys, n, _, _, _, hyl, hg⟩ := DataW.trod_struct Tryz.underlying44 ht
  match cs, hcl with
  | [c0, c1, c2, c3], _ =>
    match ys, hyl with
    | [y0, y1], _ =>
      have t0 : DataW.trod enc Tryz.prog W base (fun _ => true) held n 25 (([c0, c1, c2, c3].drop 0).take (Tryz.prog.cellsOf 25)) = some y0 := hg 0 _ rfl
      have t1 : DataW.trod enc Tryz.prog W base (fun _ => true) held n 30 (([c0, c1, c2, c3].drop 3).take (Tryz.prog.cellsOf 30)) = some y1 := hg 1 _ rfl
      rw [cellsL] at t0
      rw [cellsSo] at t1
      replace t0 : DataW.trod enc Tryz.prog W base (fun _ => true) held n 25 [c0, c1, c2] = some y0 := t0
      replace t1 : DataW.trod enc Tryz.prog W base (fun _ => true) held n 30 [c3] = some y1 := t1
      obtain ⟨zs, n', _, _, _, hzl, hg'⟩ := DataW.trod_struct Tryz.underlying25 t0
      match zs, hzl with
      | [z0, z1, z2], _ =>
        have s0 : DataW.trod enc Tryz.prog W base (fun _ => true) held n' 3 (([c0, c1, c2].drop 0).take (Tryz.prog.cellsOf 3)) = some z0 := hg' 0 _ rfl
        have s1 : DataW.trod enc Tryz.prog W base (fun _ => true) held n' 23 (([c0, c1, c2].drop 1).take (Tryz.prog.cellsOf 23)) = some z1 := hg' 1 _ rfl
        have s2 : DataW.trod enc Tryz.prog W base (fun _ => true) held n' 3 (([c0, c1, c2].drop 2).take (Tryz.prog.cellsOf 3)) = some z2 := hg' 2 _ rfl
        rw [cellsN] at s0 s2
        rw [cellsU] at s1
        replace s0 : DataW.trod enc Tryz.prog W base (fun _ => true) held n' 3 [c0] = some z0 := s0
        replace s1 : DataW.trod enc Tryz.prog W base (fun _ => true) held n' 23 [c1] = some z1 := s1
        replace s2 : DataW.trod enc Tryz.prog W base (fun _ => true) held n' 3 [c2] = some z2 := s2
        obtain ⟨n0, e0, _, _⟩ := DataW.trod_int Tryz.underlying3 s0
        obtain ⟨n1, e1, _, w1⟩ := DataW.trod_int Tryz.underlying23 s1
        obtain ⟨n2, e2, _, _⟩ := DataW.trod_int Tryz.underlying3 s2
        obtain ⟨a, len, cap, os, rfl, hO⟩ := open_objsv t1
        obtain rfl := List.head_eq_of_cons_eq e0
        obtain rfl := List.head_eq_of_cons_eq e1
        obtain rfl := List.head_eq_of_cons_eq e2
        obtain ⟨c, rfl, hc'⟩ := nat_u64 w1
        have hl := hO.hlen
        subst hl
        exact ⟨⟨⟨n0, c, n2⟩, os, a, cap⟩, ⟨hO, hc'⟩, hat 0 (by omega), hat 1 (by omega), hat 2 (by omega), hat 3 (by omega)⟩
set_option maxRecDepth 100000 in
theorem open_partsv {v : Value} {fuel : Nat} {y : DataW H × List MemPlace} {held : Bool} (hf : DataW.trod enc Tryz.prog W base (fun _ => true) held fuel 22 [v] = some y) :
    ∃ a len cap zs, v = .slice a len cap ∧ Parts W a len cap zs := by
  rcases Go.Deep.open_slice Tryz.underlying22 hf with ⟨hcs, _⟩ | ⟨x, len, c', m, n, D, Pd, hcs, _, hl, hm, hmm, _, hi⟩
  · obtain rfl := List.head_eq_of_cons_eq hcs
    exact ⟨none, 0, 0, [], rfl, ⟨rfl, Nat.le_refl _, Nat.zero_le _, fun _ => rfl, fun _ h => (by cases h), fun h => absurd rfl h⟩⟩
  · obtain rfl := List.head_eq_of_cons_eq hcs
    simp only [if_true] at hmm
    subst hmm
    have hel : ∀ i, ∃ z : Pv, i < len → Pl W z ∧ W.cell? ((x.add (i * 4)).add 0) = some (.int .i64 z.a.l) ∧ W.cell? ((x.add (i * 4)).add 1) = some (.int .u64 z.a.c) ∧ W.cell? ((x.add (i * 4)).add 2) = some (.int .i64 z.a.i) ∧ W.cell? ((x.add (i * 4)).add 3) = some (.slice z.va z.os.length z.vc) := fun i => by
      by_cases hlt : i < len
      · obtain ⟨cs, hc, ht⟩ := hi i (by omega)
        obtain ⟨z, hz⟩ := open_pt hc ht
        rw [cellsPt] at hz
        exact ⟨z, fun _ => hz⟩
      · exact ⟨⟨Lab.zero, [], none, 0⟩, fun h => absurd h hlt⟩
    obtain ⟨f, hfz⟩ := Classical.axiomOfChoice hel
    refine ⟨some x, len, m, (List.range len).map f, rfl, by simp, hl, hm, (fun h => by cases h), ?_, fun hne => ?_⟩
    · intro z hz
      obtain ⟨i, hi1, rfl⟩ := List.mem_map.1 hz
      exact (hfz i (List.mem_range.1 hi1)).1
    have hpos : 0 < len := by
      rcases Nat.eq_zero_or_pos len with h | h
      · exact absurd (by rw [h]; rfl) hne
      · exact h
    obtain ⟨b, off, sp⟩ := x
    have h0 := (hfz 0 hpos).2.1
    have hsp' : sp = none := by
      have := World.cell?_spot h0
      simpa [Addr.add] using this
    subst hsp'
    simp only [add_at] at hfz h0
    refine ⟨b, off, rfl, fun j z hj => ?_⟩
    rw [List.getElem?_map] at hj
    by_cases hjl : j < len
    · rw [List.getElem?_range hjl] at hj
      obtain rfl := Option.some.inj hj
      obtain ⟨_, h1, h2, h3, h4⟩ := hfz j hjl
      exact ⟨h1, h2, h3, h4⟩
    · rw [List.getElem?_eq_none (by simp; omega)] at hj
      cases hj
set_option maxRecDepth 100000 in
theorem open_parts {b0 : Nat} {v : Value} {d : DataW H} {p : List MemPlace} {held : Bool} (hv : Value.okWide Tryz.prog W .any b0 22 v) (h : DataW.Trod enc Tryz.prog W base (fun _ => true) held 22 v d p) :
    ∃ a len cap zs, v = .slice a len cap ∧ Parts W a len cap zs := by
  obtain ⟨a, len, cap, rfl⟩ := okWide_slice Tryz.underlying22 hv
  obtain ⟨fuel, hf⟩ := h
  exact open_partsv (show DataW.trod enc Tryz.prog W base (fun _ => true) held fuel 22 [.slice a len cap] = some (d, p) from by simpa [Value.cells] using hf)
set_option maxRecDepth 100000 in
theorem open_lab {b0 : Nat} {v : Value} {d : DataW H} {p : List MemPlace} {spare : Nat → Bool} {held : Bool} (hv : Value.okWide Tryz.prog W .any b0 25 v) (h : DataW.Trod enc Tryz.prog W base spare held 25 v d p) :
    ∃ x : Lab, LabWf x ∧ v = .agg #[.int .i64 x.l, .int .u64 x.c, .int .i64 x.i] ∧ d = labD x ∧ p = [] := by
  obtain ⟨v0, v1, v2, y0, y1, y2, n, rfl, rfl, rfl, h0, h1, h2⟩ := open_agg3 Tryz.underlying25 (by kernel_rfl) cellsL hv h
  obtain ⟨n0, e0, rfl, w0⟩ := DataW.trod_int Tryz.underlying3 h0
  obtain ⟨n1, e1, rfl, w1⟩ := DataW.trod_int Tryz.underlying23 h1
  obtain ⟨n2, e2, rfl, w2⟩ := DataW.trod_int Tryz.underlying3 h2
  obtain rfl := List.head_eq_of_cons_eq e0
  obtain rfl := List.head_eq_of_cons_eq e1
  obtain rfl := List.head_eq_of_cons_eq e2
  obtain ⟨c, rfl, _⟩ := nat_u64 w1
  exact ⟨⟨n0, c, n2⟩, ⟨w0, w1, w2⟩, rfl, rfl, rfl⟩
set_option maxRecDepth 100000 in
theorem shut_lab {spare : Nat → Bool} {held : Bool} {x : Lab} (h : LabWf x) : DataW.Trod enc Tryz.prog W base spare held 25 (.agg #[.int .i64 x.l, .int .u64 x.c, .int .i64 x.i]) (labD x) [] :=
  shut_agg3 (y0 := (.lit (.int .i64 x.l), [])) (y1 := (.lit (.int .u64 x.c), [])) (y2 := (.lit (.int .i64 x.i), [])) Tryz.underlying25 (by kernel_rfl) cellsL
    ⟨1, trod_int_mk 0 Tryz.underlying3 h.1⟩ ⟨1, trod_int_mk 0 Tryz.underlying23 h.2.1⟩ ⟨1, trod_int_mk 0 Tryz.underlying3 h.2.2⟩
end

end Go.Proofs.YtlafcplcjpcikaaGreatDoor.Wd

/- What the listed variables give the walks, where the rows list errors.errorType and the ring's two sentinels (a third: as RgLaid, SpLaid). -/
namespace Go.Proofs.YtlafcplcjpcikaaGreatDoor
open Go.ChangeShapes Go.WideShapes Go.ChangeAt Go.RowKit Go.Proofs.Fld Go.Proofs.Rng Go.Proofs.Spc Go.Joins

/-- What the rows list. -/
def laid11 : List (String × DataW Unit) := [("errors.errorType", Rows.laid_errors_errorType), ("plimsoll/ring.errWrong", Rows.laid_plimsoll_ring_errWrong), ("plimsoll/ring.errFull", Rows.laid_plimsoll_ring_errFull)]
def laid11s : List (String × DataW Unit) := [("plimsoll/ring.errWrong", Rows.laid_plimsoll_ring_errWrong), ("plimsoll/ring.errFull", Rows.laid_plimsoll_ring_errFull)]
theorem wG : Tryz.prog.globalNamed "plimsoll/ring.errWrong" = some 1 := by kernel_rfl
theorem fG : Tryz.prog.globalNamed "plimsoll/ring.errFull" = some 2 := by kernel_rfl
theorem wT : (Tryz.prog.globals[1]?).map (·.type) = some 57 := by kernel_rfl
theorem fT : (Tryz.prog.globals[2]?).map (·.type) = some 57 := by kernel_rfl
theorem star : "*errors.errorString" = "*" ++ "errors.errorString" := by decide
theorem rowErr (u : TypeId) (h : Tryz.prog.typeName? 3 u = some "*errors.errorString") : u = 185 :=
  typeName_ptr_named (nm := "errors.errorString") (by rw [← star]; kernel_rfl) (by kernel_rfl) (by decide) u (by rw [← star]; exact h)
theorem cellsErr : Tryz.prog.cellsOf 207 = 1 := by kernel_rfl
theorem etG : Tryz.prog.globalNamed "errors.errorType" = some 0 := by kernel_rfl
theorem rtT : (Tryz.prog.cutTypes.find? (·.1 == "internal/reflectlite.rtype")).map (·.2) = some 142 := by kernel_rfl
theorem oneRow : ((List.range 219).filter fun t => Tryz.prog.rowNamed t [101, 114, 114, 111, 114]) = [57] := by kernel_rfl
theorem typesN : Tryz.prog.types.size = 219 := by kernel_rfl
theorem sent_of_laid11 {W : World} (h : laidMet Tryz.prog laid11s W) : ∃ s, Sent s W := by
  obtain ⟨aw, af, sw, sf, c0, c1, t0, t1, vw, vf, cw, xw, _, cf, xf, _, nwf, bw, bf⟩ := laid_sentinels2 h wG wT fG fT Tryz.underlying57 rowErr Tryz.underlying185 Tryz.underlying207 rfl rfl Tryz.underlying9 cellsErr Wd.cells9
  exact ⟨⟨aw, af, af⟩, by simpa using World.var?_cell wG vw 0, by simpa using World.var?_cell fG vf 0, ⟨_, _, bw⟩, ⟨_, _, bf⟩, nwf⟩
theorem ev_of_laid11 {W : World} (h : laidMetH Tryz.prog laid11 W) : ∃ s, Ev s W := by
  have h' : laidMet Tryz.prog laid11s W ∧ handlesMet Tryz.prog [("errors.errorType", Rows.laid_errors_errorType)] W := h
  obtain ⟨s, hs⟩ := sent_of_laid11 h'.1
  refine ⟨s, hs, ?_⟩
  obtain ⟨name, u, ty, e1, e2, e3, e4, e5⟩ := h'.2 _ (List.mem_singleton.2 rfl)
  have en : name = [101, 114, 114, 111, 114] := (Option.some.inj e1).symm
  subst en
  obtain rfl := Option.some.inj (rtT.symm.trans e2)
  have hm : ty ∈ (List.range 219).filter fun t => Tryz.prog.rowNamed t [101, 114, 114, 111, 114] := List.mem_filter.2 ⟨List.mem_range.2 (by rw [← typesN]; exact e3), e4⟩
  rw [oneRow] at hm
  obtain rfl := List.mem_singleton.1 hm
  have hh : typeHandle Tryz.prog 57 = .pointer (some ⟨3, 57, none⟩) := by kernel_rfl
  rw [hh] at e5
  unfold Fi.ErrT
  simpa using World.var?_cell etG e5 0
theorem door_met11 (os : Os) (args : Array Value) : laidMetH Tryz.prog laid11 ((World.doorLaid Tryz.prog 400 os).forCall (fun _ _ => 0) ⟨#[], args, []⟩).memory :=
  laidMetH_of_parts (laidMet_of_run' 8 (by kernel_rfl) (by kernel_rfl)) (by kernel_rfl)
end Go.Proofs.YtlafcplcjpcikaaGreatDoor
