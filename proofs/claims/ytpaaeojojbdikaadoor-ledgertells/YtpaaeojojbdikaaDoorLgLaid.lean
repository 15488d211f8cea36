/- What the listed variable gives the walks: errors.errorType's cell; labels, and slices of lines, that come in. -/
import Derived.Test.YtpaaeojojbdikaaDoorRows
import Derived.Test.YtpaaeojojbdikaaDoorLgLaws
import Derived.ProofKit
import Derived.LaidMore
import Derived.OpenShut
import Derived.ChangeOld
import Derived.Stop.Joined
import Derived.LaidHandle
import Derived.LaidLaws
import Derived.Lib.SmallJoins
import Derived.ChangeSame
import Derived.Deep.Slices
import Derived.Deep.Fields
namespace Go.Proofs.YtpaaeojojbdikaaDoor
open Go.ChangeShapes Go.WideShapes Go.ChangeAt Go.RowKit Go.Proofs.Cats Go.Proofs.Lgr Go.Joins

theorem own : ownKnob Tryd.prog.godebug = none := by kernel_rfl
theorem laidOut : laidOutB Tryd.prog = true := by kernel_rfl

/-- What the rows list. -/
def laid1 : List (String × DataW Unit) := [("errors.errorType", Rows.laid_errors_errorType)]

theorem etG : Tryd.prog.globalNamed "errors.errorType" = some 0 := by kernel_rfl
theorem rtT : (Tryd.prog.cutTypes.find? (·.1 == "internal/reflectlite.rtype")).map (·.2) = some 100 := by kernel_rfl
theorem oneRow : ((List.range 142).filter fun t => Tryd.prog.rowNamed t [101, 114, 114, 111, 114]) = [47] := by kernel_rfl
theorem typesN : Tryd.prog.types.size = 142 := by kernel_rfl

theorem errT_of_laid {W : World} (h : laidMetH Tryd.prog laid1 W) : ErrT W := by
  have h' : laidMet Tryd.prog [] W ∧ handlesMet Tryd.prog laid1 W := h
  obtain ⟨name, u, ty, e1, e2, e3, e4, e5⟩ := h'.2 _ (List.mem_singleton.2 rfl)
  have en : name = [101, 114, 114, 111, 114] := (Option.some.inj e1).symm
  subst en
  obtain rfl := Option.some.inj (rtT.symm.trans e2)
  have hm : ty ∈ (List.range 142).filter fun t => Tryd.prog.rowNamed t [101, 114, 114, 111, 114] := List.mem_filter.2 ⟨List.mem_range.2 (by rw [← typesN]; exact e3), e4⟩
  rw [oneRow] at hm
  obtain rfl := List.mem_singleton.1 hm
  have hh : typeHandle Tryd.prog 47 = .pointer (some ⟨1, 47, none⟩) := by kernel_rfl
  rw [hh] at e5
  unfold ErrT
  simpa using World.var?_cell etG e5 0

theorem door_met (os : Os) (args : Array Value) : laidMetH Tryd.prog laid1 ((World.doorLaid Tryd.prog 400 os).forCall (fun _ _ => 0) ⟨#[], args, []⟩).memory :=
  laidMetH_of_parts (laidMet_nil _ _) (by kernel_rfl)

theorem nat_of_u64 {x : Int} (h : (Lit.int .u64 x).wf = true) : ∃ n : Nat, x = n ∧ U64 n := by
  have hb := bounds_u64 h
  obtain ⟨n, rfl⟩ := Int.eq_ofNat_of_zero_le hb.1
  exact ⟨n, rfl, by unfold U64; omega⟩

/-- A label's numbers are numbers of the machine. -/
def LabWf (x : Lab) : Prop := (Lit.int .i64 x.l).wf = true ∧ (Lit.int .u64 x.c).wf = true ∧ (Lit.int .i64 x.i).wf = true
def labD {H : Type} (x : Lab) : DataW H := .agg [.lit (.int .i64 x.l), .lit (.int .u64 x.c), .lit (.int .i64 x.i)]
theorem LabWf.fits {x : Lab} (h : LabWf x) : x.fits := by
  have hb := bounds_u64 h.2.1
  unfold Lab.fits U64
  omega
theorem cellsL : Tryd.prog.cellsOf 25 = 3 := by kernel_rfl

section
variable {H : Type} {enc : TypeId × Value → H} {W : World} {base : Nat}
set_option maxRecDepth 100000 in
theorem open_lab {b0 : Nat} {v : Value} {d : DataW H} {p : List MemPlace} {spare : Nat → Bool} {held : Bool} (hv : Value.okWide Tryd.prog W .any b0 25 v) (h : DataW.Trod enc Tryd.prog W base spare held 25 v d p) :
    ∃ x : Lab, LabWf x ∧ v = .agg #[.int .i64 x.l, .int .u64 x.c, .int .i64 x.i] ∧ d = labD x ∧ p = [] := by
  obtain ⟨v0, v1, v2, y0, y1, y2, n, rfl, rfl, rfl, h0, h1, h2⟩ := open_agg3 Tryd.underlying25 (by kernel_rfl) cellsL hv h
  obtain ⟨n0, e0, rfl, w0⟩ := DataW.trod_int Tryd.underlying3 h0
  obtain ⟨n1, e1, rfl, w1⟩ := DataW.trod_int Tryd.underlying23 h1
  obtain ⟨n2, e2, rfl, w2⟩ := DataW.trod_int Tryd.underlying3 h2
  obtain rfl := List.head_eq_of_cons_eq e0
  obtain rfl := List.head_eq_of_cons_eq e1
  obtain rfl := List.head_eq_of_cons_eq e2
  obtain ⟨c, rfl, _⟩ := nat_of_u64 w1
  exact ⟨⟨n0, c, n2⟩, ⟨w0, w1, w2⟩, rfl, rfl, rfl⟩
set_option maxRecDepth 100000 in
theorem shut_lab {spare : Nat → Bool} {held : Bool} {x : Lab} (h : LabWf x) : DataW.Trod enc Tryd.prog W base spare held 25 (.agg #[.int .i64 x.l, .int .u64 x.c, .int .i64 x.i]) (labD x) [] :=
  shut_agg3 (y0 := (.lit (.int .i64 x.l), [])) (y1 := (.lit (.int .u64 x.c), [])) (y2 := (.lit (.int .i64 x.i), [])) Tryd.underlying25 (by kernel_rfl) cellsL
    ⟨1, trod_int_mk 0 Tryd.underlying3 h.1⟩ ⟨1, trod_int_mk 0 Tryd.underlying23 h.2.1⟩ ⟨1, trod_int_mk 0 Tryd.underlying3 h.2.2⟩
theorem cells3 : Tryd.prog.cellsOf 3 = 1 := by kernel_rfl
theorem cellsU : Tryd.prog.cellsOf 23 = 1 := by kernel_rfl
theorem cellsLn : Tryd.prog.cellsOf 43 = 4 := by kernel_rfl
set_option maxRecDepth 100000 in
/-- A label's three cells, trodden. -/
theorem trod_lab {spare : Nat → Bool} {held : Bool} {fuel : Nat} {c0 c1 c2 : Value} {y : DataW H × List MemPlace} (ht : DataW.trod enc Tryd.prog W base spare held fuel 25 [c0, c1, c2] = some y) :
    ∃ z : Lab, z.fits ∧ c0 = .int .i64 z.l ∧ c1 = .int .u64 z.c ∧ c2 = .int .i64 z.i := by
  obtain ⟨ys, n, _, _, _, hyl, hg⟩ := DataW.trod_struct Tryd.underlying25 ht
  match ys, hyl with
  | [y0, y1, y2], _ =>
    have t0 : DataW.trod enc Tryd.prog W base spare held n 3 (([c0, c1, c2].drop 0).take (Tryd.prog.cellsOf 3)) = some y0 := hg 0 _ rfl
    have t1 : DataW.trod enc Tryd.prog W base spare held n 23 (([c0, c1, c2].drop 1).take (Tryd.prog.cellsOf 23)) = some y1 := hg 1 _ rfl
    have t2 : DataW.trod enc Tryd.prog W base spare held n 3 (([c0, c1, c2].drop 2).take (Tryd.prog.cellsOf 3)) = some y2 := hg 2 _ rfl
    rw [cells3] at t0 t2
    rw [cellsU] at t1
    replace t0 : DataW.trod enc Tryd.prog W base spare held n 3 [c0] = some y0 := t0
    replace t1 : DataW.trod enc Tryd.prog W base spare held n 23 [c1] = some y1 := t1
    replace t2 : DataW.trod enc Tryd.prog W base spare held n 3 [c2] = some y2 := t2
    obtain ⟨n0, e0, _, _⟩ := DataW.trod_int Tryd.underlying3 t0
    obtain ⟨n1, e1, _, w1⟩ := DataW.trod_int Tryd.underlying23 t1
    obtain ⟨n2, e2, _, _⟩ := DataW.trod_int Tryd.underlying3 t2
    obtain rfl := List.head_eq_of_cons_eq e0
    obtain rfl := List.head_eq_of_cons_eq e1
    obtain rfl := List.head_eq_of_cons_eq e2
    obtain ⟨c, rfl, hu⟩ := nat_of_u64 w1
    exact ⟨⟨n0, c, n2⟩, hu, rfl, rfl, rfl⟩
set_option maxRecDepth 100000 in
theorem open_elem {spare : Nat → Bool} {held : Bool} {fuel : Nat} {x : Addr} {cs : List Value} {y : DataW H × List MemPlace} (hc : W.cells? base x (Tryd.prog.cellsOf 43) = some cs) (ht : DataW.trod enc Tryd.prog W base spare held fuel 43 cs = some y) :
    ∃ z : Ln, z.a.fits ∧ W.cell? (x.add 0) = some (.int .i64 z.a.l) ∧ W.cell? (x.add 1) = some (.int .u64 z.a.c) ∧ W.cell? (x.add 2) = some (.int .i64 z.a.i) ∧ W.cell? (x.add 3) = some (.int .i64 z.u) := by
  obtain ⟨_, hcl, hat⟩ := World.cells?_some hc
  rw [cellsLn] at hcl hat
  obtain ⟨ys, n, _, _, _, hyl, hg⟩ := DataW.trod_struct Tryd.underlying43 ht
  match cs, hcl with
  | [c0, c1, c2, c3], _ =>
    match ys, hyl with
    | [y0, y1], _ =>
      have t0 : DataW.trod enc Tryd.prog W base spare held n 25 (([c0, c1, c2, c3].drop 0).take (Tryd.prog.cellsOf 25)) = some y0 := hg 0 _ rfl
      have t1 : DataW.trod enc Tryd.prog W base spare held n 3 (([c0, c1, c2, c3].drop 3).take (Tryd.prog.cellsOf 3)) = some y1 := hg 1 _ rfl
      rw [cellsL] at t0
      rw [cells3] at t1
      replace t0 : DataW.trod enc Tryd.prog W base spare held n 25 [c0, c1, c2] = some y0 := t0
      replace t1 : DataW.trod enc Tryd.prog W base spare held n 3 [c3] = some y1 := t1
      obtain ⟨z, hz, rfl, rfl, rfl⟩ := trod_lab t0
      obtain ⟨n1, e1, _, _⟩ := DataW.trod_int Tryd.underlying3 t1
      obtain rfl := List.head_eq_of_cons_eq e1
      exact ⟨⟨z, n1⟩, hz, hat 0 (by omega), hat 1 (by omega), hat 2 (by omega), hat 3 (by omega)⟩

set_option maxRecDepth 100000 in
theorem open_lns {b0 : Nat} {v : Value} {d : DataW H} {p : List MemPlace} {held : Bool} (hv : Value.okWide Tryd.prog W .any b0 22 v) (h : DataW.Trod enc Tryd.prog W base (fun _ => true) held 22 v d p) :
    ∃ a len cap zs, v = .slice a len cap ∧ Lns W a len cap zs := by
  obtain ⟨a, len, cap, rfl⟩ := okWide_slice Tryd.underlying22 hv
  obtain ⟨fuel, hf⟩ := h
  rcases Go.Deep.open_slice Tryd.underlying22 hf with ⟨hcs, _⟩ | ⟨x, l, c, m, n, D, Pl, hcs, _, hl, hm, hmm, _, hi⟩
  · simp [Value.cells] at hcs
    obtain ⟨rfl, rfl, rfl⟩ := hcs
    exact ⟨none, 0, 0, [], rfl, Lns.nil W⟩
  · simp [Value.cells] at hcs
    obtain ⟨rfl, rfl, rfl⟩ := hcs
    simp only [if_true] at hmm
    subst hmm
    have hel : ∀ i, ∃ z : Ln, i < len → z.a.fits ∧ W.cell? ((x.add (i * 4)).add 0) = some (.int .i64 z.a.l) ∧ W.cell? ((x.add (i * 4)).add 1) = some (.int .u64 z.a.c) ∧ W.cell? ((x.add (i * 4)).add 2) = some (.int .i64 z.a.i) ∧ W.cell? ((x.add (i * 4)).add 3) = some (.int .i64 z.u) := fun i => by
      by_cases hlt : i < len
      · obtain ⟨cs, hc, ht⟩ := hi i (by omega)
        obtain ⟨z, hz⟩ := open_elem hc ht
        rw [cellsLn] at hz
        exact ⟨z, fun _ => hz⟩
      · exact ⟨⟨Lab.zero, 0⟩, fun h => absurd h hlt⟩
    obtain ⟨f, hfz⟩ := Classical.axiomOfChoice hel
    refine ⟨some x, len, m, (List.range len).map f, rfl, by simp, hl, hm, (fun h => by cases h), ?_, fun hne => ?_⟩
    · intro z hz
      obtain ⟨i, hi1, rfl⟩ := List.mem_map.1 hz
      exact (hfz i (List.mem_range.1 hi1)).1
    have hpos : 0 < len := by
      rcases Nat.eq_zero_or_pos len with h | h
      · exact absurd (by rw [h]; rfl) hne
      · exact h
    obtain ⟨b, off, sp⟩ := x
    have h0 := (hfz 0 hpos).2.1
    have hsp : sp = none := by
      have := World.cell?_spot h0
      simpa [Addr.add] using this
    subst hsp
    simp only [add_at] at hfz h0
    refine ⟨b, off, rfl, fun j z hj => ?_⟩
    rw [List.getElem?_map] at hj
    by_cases hjl : j < len
    · rw [List.getElem?_range hjl] at hj
      obtain rfl := Option.some.inj hj
      obtain ⟨_, h2, h3, h4, h5⟩ := hfz j hjl
      exact ⟨h2, h3, h4, h5⟩
    · rw [List.getElem?_eq_none (by simp; omega)] at hj
      cases hj
end

end Go.Proofs.YtpaaeojojbdikaaDoor
