/- Merged texts: LcLaid, LcShown -/
import Derived.Test.YtfpjbefhfkembaaDoorRows
import Derived.Test.YtfpjbefhfkembaaDoorLcA
import Derived.Test.YtfpjbefhfkembaaDoorLabA
import Derived.ProofKit
import Derived.LaidMore
import Derived.OpenShut
import Derived.ChangeOld
import Derived.ChangeMaps5
import Derived.ChangeSlices
import Derived.Stop.Joined
import Derived.Stop.LaidTwo
import Derived.LaidHandle
import Derived.LaidLaws
import Derived.Lib.SmallJoins
import Derived.ChangeSame
import Derived.Deep.Slices
import Derived.Deep.Fields
import Derived.Test.YtfpjbefhfkembaaDoorLcC
/- What the listed variables give the walks: the sentinels of field and labcode, and errors.errorType. -/
namespace Go.Proofs.YtfpjbefhfkembaaDoor
open Go.ChangeShapes Go.WideShapes Go.ChangeAt Go.RowKit Go.Proofs.Cats Go.Joins

theorem own : ownKnob Tryd.prog.godebug = none := by kernel_rfl
theorem laidOut : laidOutB Tryd.prog = true := by kernel_rfl

/-- What the rows list: with the last one, and without. -/
def laid8 : List (String × DataW Unit) := [("errors.errorType", Rows.laid_errors_errorType), ("plimsoll/field.errWidth", Rows.laid_plimsoll_field_errWidth), ("plimsoll/field.errFew", Rows.laid_plimsoll_field_errFew), ("plimsoll/field.errGreat", Rows.laid_plimsoll_field_errGreat), ("plimsoll/labcode.errNone", Rows.laid_plimsoll_labcode_errNone), ("plimsoll/labcode.errFew", Rows.laid_plimsoll_labcode_errFew), ("plimsoll/labcode.errBytes", Rows.laid_plimsoll_labcode_errBytes), ("plimsoll/labcode.errOrder", Rows.laid_plimsoll_labcode_errOrder)]
def laid7 : List (String × DataW Unit) := [("errors.errorType", Rows.laid_errors_errorType), ("plimsoll/field.errWidth", Rows.laid_plimsoll_field_errWidth), ("plimsoll/field.errFew", Rows.laid_plimsoll_field_errFew), ("plimsoll/field.errGreat", Rows.laid_plimsoll_field_errGreat), ("plimsoll/labcode.errNone", Rows.laid_plimsoll_labcode_errNone), ("plimsoll/labcode.errFew", Rows.laid_plimsoll_labcode_errFew), ("plimsoll/labcode.errBytes", Rows.laid_plimsoll_labcode_errBytes)]

theorem etG : Tryd.prog.globalNamed "errors.errorType" = some 4 := by kernel_rfl
theorem wG : Tryd.prog.globalNamed "plimsoll/field.errWidth" = some 6 := by kernel_rfl
theorem wT : (Tryd.prog.globals[6]?).map (·.type) = some 46 := by kernel_rfl
theorem fG : Tryd.prog.globalNamed "plimsoll/field.errFew" = some 5 := by kernel_rfl
theorem fT : (Tryd.prog.globals[5]?).map (·.type) = some 46 := by kernel_rfl
theorem gG : Tryd.prog.globalNamed "plimsoll/field.errGreat" = some 7 := by kernel_rfl
theorem gT : (Tryd.prog.globals[7]?).map (·.type) = some 46 := by kernel_rfl
theorem lnG : Tryd.prog.globalNamed "plimsoll/labcode.errNone" = some 0 := by kernel_rfl
theorem lnT : (Tryd.prog.globals[0]?).map (·.type) = some 46 := by kernel_rfl
theorem lfG : Tryd.prog.globalNamed "plimsoll/labcode.errFew" = some 1 := by kernel_rfl
theorem lfT : (Tryd.prog.globals[1]?).map (·.type) = some 46 := by kernel_rfl
theorem lbG : Tryd.prog.globalNamed "plimsoll/labcode.errBytes" = some 2 := by kernel_rfl
theorem lbT : (Tryd.prog.globals[2]?).map (·.type) = some 46 := by kernel_rfl
theorem loG : Tryd.prog.globalNamed "plimsoll/labcode.errOrder" = some 3 := by kernel_rfl
theorem loT : (Tryd.prog.globals[3]?).map (·.type) = some 46 := by kernel_rfl
theorem rtT : (Tryd.prog.cutTypes.find? (·.1 == "internal/reflectlite.rtype")).map (·.2) = some 131 := by kernel_rfl
theorem oneRow : ((List.range 194).filter fun t => Tryd.prog.rowNamed t [101, 114, 114, 111, 114]) = [46] := by kernel_rfl
theorem typesN : Tryd.prog.types.size = 194 := by kernel_rfl
theorem star : "*errors.errorString" = "*" ++ "errors.errorString" := by decide
theorem rowErr (u : TypeId) (h : Tryd.prog.typeName? 3 u = some "*errors.errorString") : u = 161 :=
  typeName_ptr_named (nm := "errors.errorString") (by rw [← star]; kernel_rfl) (by kernel_rfl) (by decide) u (by rw [← star]; exact h)
theorem cellsErr : Tryd.prog.cellsOf 182 = 1 := by kernel_rfl
theorem cells9 : Tryd.prog.cellsOf 9 = 1 := by kernel_rfl

theorem laidMet_rest {P : Program} {x : String × DataW Unit} {r : List (String × DataW Unit)} {W : World} (h : laidMet P (x :: r) W) : laidMet P r W := by
  obtain ⟨n, d⟩ := x
  obtain ⟨ps, ⟨g, t, cs, fuel, p, q, _, _, _, _, hr, rfl⟩, hnd, hrows⟩ := h
  exact ⟨q, hr, (List.nodup_append.1 hnd).2.1, fun b off hm => hrows b off (List.mem_append_right _ hm)⟩

theorem errT_of {W : World} (h : handlesMet Tryd.prog [("errors.errorType", Rows.laid_errors_errorType)] W) : W.cell? ⟨4, 0, none⟩ = some (.iface 131 (.agg #[.pointer (some ⟨8, 46, none⟩)])) := by
  obtain ⟨name, u, ty, e1, e2, e3, e4, e5⟩ := h _ (List.mem_singleton.2 rfl)
  have en : name = [101, 114, 114, 111, 114] := (Option.some.inj e1).symm
  subst en
  obtain rfl := Option.some.inj (rtT.symm.trans e2)
  have hm : ty ∈ (List.range 194).filter fun t => Tryd.prog.rowNamed t [101, 114, 114, 111, 114] := List.mem_filter.2 ⟨List.mem_range.2 (by rw [← typesN]; exact e3), e4⟩
  rw [oneRow] at hm
  obtain rfl := List.mem_singleton.1 hm
  have hh : typeHandle Tryd.prog 46 = .pointer (some ⟨8, 46, none⟩) := by kernel_rfl
  rw [hh] at e5
  simpa using World.var?_cell etG e5 0

/-- A sentinel that is laid: its cell, its block, its text. -/
def Laid1 (W : World) (g : Nat) (a : Addr) (txt : List UInt8) : Prop := W.cell? ⟨g, 0, none⟩ = some (.iface 161 (.pointer (some a))) ∧ Blk0 W a ∧ ∃ s : ByteArray, W.cell? a = some (.string s) ∧ s.data.toList = txt
theorem laid1_ne {W : World} {g g' : Nat} {a b : Addr} {x y : List UInt8} (h : Laid1 W g a x) (k : Laid1 W g' b y) (hne : x ≠ y) : a ≠ b := by
  rintro rfl
  obtain ⟨_, _, s, h1, h2⟩ := h
  obtain ⟨_, _, s', k1, k2⟩ := k
  rw [h1] at k1
  obtain rfl : s = s' := by simpa using k1
  exact hne (h2.symm.trans k2)
theorem laid_pair {n0 n1 : String} {x y : List UInt8} {r : List (String × DataW Unit)} {W : World} {g0 g1 : Nat}
    (h : laidMet Tryd.prog ((n0, .iface "*errors.errorString" (.ptr (.agg [.lit (.string x)]))) :: (n1, .iface "*errors.errorString" (.ptr (.agg [.lit (.string y)]))) :: r) W)
    (hg0 : Tryd.prog.globalNamed n0 = some g0) (ht0 : (Tryd.prog.globals[g0]?).map (·.type) = some 46) (hg1 : Tryd.prog.globalNamed n1 = some g1) (ht1 : (Tryd.prog.globals[g1]?).map (·.type) = some 46) :
    ∃ a b, Laid1 W g0 a x ∧ Laid1 W g1 b y ∧ a ≠ b := by
  obtain ⟨a, b, s0, s1, c0, c1, t0, t1, v0, v1, k0, x0, _, k1, x1, _, ne, b0, b1⟩ := laid_sentinels2 h hg0 ht0 hg1 ht1 Tryd.underlying46 rowErr Tryd.underlying161 Tryd.underlying182 rfl rfl Tryd.underlying9 cellsErr cells9
  exact ⟨a, b, ⟨by simpa using World.var?_cell hg0 v0 0, ⟨_, _, b0⟩, s0, k0, x0⟩, ⟨by simpa using World.var?_cell hg1 v1 0, ⟨_, _, b1⟩, s1, k1, x1⟩, ne⟩
theorem laid1_same {W : World} {g : Nat} {a b : Addr} {x y : List UInt8} (h : Laid1 W g a x) (k : Laid1 W g b y) : a = b := by
  have := h.1.symm.trans k.1
  simpa using this

theorem sentL8 {W : World} (h : laidMetH Tryd.prog laid8 W) : ∃ s t, t.q = true ∧ SentL s t W := by
  have h' : laidMet Tryd.prog [("plimsoll/field.errWidth", Rows.laid_plimsoll_field_errWidth), ("plimsoll/field.errFew", Rows.laid_plimsoll_field_errFew), ("plimsoll/field.errGreat", Rows.laid_plimsoll_field_errGreat), ("plimsoll/labcode.errNone", Rows.laid_plimsoll_labcode_errNone), ("plimsoll/labcode.errFew", Rows.laid_plimsoll_labcode_errFew), ("plimsoll/labcode.errBytes", Rows.laid_plimsoll_labcode_errBytes), ("plimsoll/labcode.errOrder", Rows.laid_plimsoll_labcode_errOrder)] W ∧ handlesMet Tryd.prog [("errors.errorType", Rows.laid_errors_errorType)] W := h
  have ht := errT_of h'.2
  have l0 := h'.1
  have l1 := laidMet_rest l0
  have l2 := laidMet_rest l1
  have l3 := laidMet_rest l2
  have l4 := laidMet_rest l3
  have l5 := laidMet_rest l4
  obtain ⟨x0, y0, p0, q0, n0⟩ := laid_pair l0 wG wT fG fT
  obtain ⟨x1, y1, p1, q1, n1⟩ := laid_pair l1 fG fT gG gT
  obtain ⟨x2, y2, p2, q2, n2⟩ := laid_pair l2 gG gT lnG lnT
  obtain ⟨x3, y3, p3, q3, n3⟩ := laid_pair l3 lnG lnT lfG lfT
  obtain ⟨x4, y4, p4, q4, n4⟩ := laid_pair l4 lfG lfT lbG lbT
  obtain ⟨x5, y5, p5, q5, n5⟩ := laid_pair l5 lbG lbT loG loT
  obtain rfl := laid1_same q0 p1
  obtain rfl := laid1_same q1 p2
  obtain rfl := laid1_same q2 p3
  obtain rfl := laid1_same q3 p4
  obtain rfl := laid1_same q4 p5
  refine ⟨⟨x0, y0, y1⟩, ⟨y2, y3, y4, y5, true⟩, rfl, ⟨p0.1, q0.1, q1.1, ht, p0.2.1, q0.2.1, q1.2.1, n0, laid1_ne p0 q1 (by decide), n1⟩, q2.1, q3.1, q4.1, fun _ => q5.1, q2.2.1, q3.2.1, q4.2.1, fun _ => q5.2.1, n3, laid1_ne q2 q4 (by decide), fun _ => laid1_ne q2 q5 (by decide), n4, fun _ => laid1_ne q3 q5 (by decide)⟩

theorem sentL7 {W : World} (h : laidMetH Tryd.prog laid7 W) : ∃ s t, t.q = false ∧ SentL s t W := by
  have h' : laidMet Tryd.prog [("plimsoll/field.errWidth", Rows.laid_plimsoll_field_errWidth), ("plimsoll/field.errFew", Rows.laid_plimsoll_field_errFew), ("plimsoll/field.errGreat", Rows.laid_plimsoll_field_errGreat), ("plimsoll/labcode.errNone", Rows.laid_plimsoll_labcode_errNone), ("plimsoll/labcode.errFew", Rows.laid_plimsoll_labcode_errFew), ("plimsoll/labcode.errBytes", Rows.laid_plimsoll_labcode_errBytes)] W ∧ handlesMet Tryd.prog [("errors.errorType", Rows.laid_errors_errorType)] W := h
  have ht := errT_of h'.2
  have l0 := h'.1
  have l1 := laidMet_rest l0
  have l2 := laidMet_rest l1
  have l3 := laidMet_rest l2
  have l4 := laidMet_rest l3
  obtain ⟨x0, y0, p0, q0, n0⟩ := laid_pair l0 wG wT fG fT
  obtain ⟨x1, y1, p1, q1, n1⟩ := laid_pair l1 fG fT gG gT
  obtain ⟨x2, y2, p2, q2, n2⟩ := laid_pair l2 gG gT lnG lnT
  obtain ⟨x3, y3, p3, q3, n3⟩ := laid_pair l3 lnG lnT lfG lfT
  obtain ⟨x4, y4, p4, q4, n4⟩ := laid_pair l4 lfG lfT lbG lbT
  obtain rfl := laid1_same q0 p1
  obtain rfl := laid1_same q1 p2
  obtain rfl := laid1_same q2 p3
  obtain rfl := laid1_same q3 p4
  refine ⟨⟨x0, y0, y1⟩, ⟨y2, y3, y4, y4, false⟩, rfl, ⟨p0.1, q0.1, q1.1, ht, p0.2.1, q0.2.1, q1.2.1, n0, laid1_ne p0 q1 (by decide), n1⟩, q2.1, q3.1, q4.1, (fun h => by cases h), q2.2.1, q3.2.1, q4.2.1, (fun h => by cases h), n3, laid1_ne q2 q4 (by decide), (fun h => by cases h), n4, (fun h => by cases h)⟩

theorem door_met8 (os : Os) (args : Array Value) : laidMetH Tryd.prog laid8 ((World.doorLaid Tryd.prog 400 os).forCall (fun _ _ => 0) ⟨#[], args, []⟩).memory :=
  laidMetH_of_parts (laidMet_of_run' 8 (by kernel_rfl) (by kernel_rfl)) (by kernel_rfl)
theorem door_met7 (os : Os) (args : Array Value) : laidMetH Tryd.prog laid7 ((World.doorLaid Tryd.prog 400 os).forCall (fun _ _ => 0) ⟨#[], args, []⟩).memory :=
  laidMetH_of_parts (laidMet_of_run' 8 (by kernel_rfl) (by kernel_rfl)) (by kernel_rfl)

theorem nat_of_u64 {x : Int} (h : (Lit.int .u64 x).wf = true) : ∃ n : Nat, x = n ∧ U64 n := by
  have hb := bounds_u64 h
  obtain ⟨n, rfl⟩ := Int.eq_ofNat_of_zero_le hb.1
  exact ⟨n, rfl, by unfold U64; omega⟩

/-- A label's numbers are numbers of the machine. -/
def LabWf (x : Lab) : Prop := (Lit.int .i64 x.l).wf = true ∧ (Lit.int .u64 x.c).wf = true ∧ (Lit.int .i64 x.i).wf = true
def labD {H : Type} (x : Lab) : DataW H := .agg [.lit (.int .i64 x.l), .lit (.int .u64 x.c), .lit (.int .i64 x.i)]
theorem LabWf.fits {x : Lab} (h : LabWf x) : x.fits := by
  have hb := bounds_u64 h.2.1
  unfold Lab.fits U64
  omega
theorem cellsL : Tryd.prog.cellsOf 24 = 3 := by kernel_rfl

section
variable {H : Type} {enc : TypeId × Value → H} {W : World} {base : Nat}
set_option maxRecDepth 100000 in
theorem open_lab {b0 : Nat} {v : Value} {d : DataW H} {p : List MemPlace} {spare : Nat → Bool} {held : Bool} (hv : Value.okWide Tryd.prog W .any b0 24 v) (h : DataW.Trod enc Tryd.prog W base spare held 24 v d p) :
    ∃ x : Lab, LabWf x ∧ v = .agg #[.int .i64 x.l, .int .u64 x.c, .int .i64 x.i] ∧ d = labD x ∧ p = [] := by
  obtain ⟨v0, v1, v2, y0, y1, y2, n, rfl, rfl, rfl, h0, h1, h2⟩ := open_agg3 Tryd.underlying24 (by kernel_rfl) cellsL hv h
  obtain ⟨n0, e0, rfl, w0⟩ := DataW.trod_int Tryd.underlying3 h0
  obtain ⟨n1, e1, rfl, w1⟩ := DataW.trod_int Tryd.underlying22 h1
  obtain ⟨n2, e2, rfl, w2⟩ := DataW.trod_int Tryd.underlying3 h2
  obtain rfl := List.head_eq_of_cons_eq e0
  obtain rfl := List.head_eq_of_cons_eq e1
  obtain rfl := List.head_eq_of_cons_eq e2
  obtain ⟨c, rfl, _⟩ := nat_of_u64 w1
  exact ⟨⟨n0, c, n2⟩, ⟨w0, w1, w2⟩, rfl, rfl, rfl⟩
set_option maxRecDepth 100000 in
theorem shut_lab {spare : Nat → Bool} {held : Bool} {x : Lab} (h : LabWf x) : DataW.Trod enc Tryd.prog W base spare held 24 (.agg #[.int .i64 x.l, .int .u64 x.c, .int .i64 x.i]) (labD x) [] :=
  shut_agg3 (y0 := (.lit (.int .i64 x.l), [])) (y1 := (.lit (.int .u64 x.c), [])) (y2 := (.lit (.int .i64 x.i), [])) Tryd.underlying24 (by kernel_rfl) cellsL
    ⟨1, trod_int_mk 0 Tryd.underlying3 h.1⟩ ⟨1, trod_int_mk 0 Tryd.underlying22 h.2.1⟩ ⟨1, trod_int_mk 0 Tryd.underlying3 h.2.2⟩
end

/-- A slice of labels that came in. -/
def LabsIn (W : World) (a : Option Addr) (len cap : Nat) (zs : List Lab) : Prop :=
  Lb.Labs W.heap.size W (.slice a len cap) zs ∧ zs.length = len ∧ len ≤ cap ∧ cap ≤ maxLen ∧ (a = none → cap = 0)

theorem labs_take {n₀ : Nat} {W : World} {a : Option Addr} {len cap : Nat} {zs : List Lab} (h : Lb.Labs n₀ W (.slice a len cap) zs) (k : Nat) : Lb.Labs n₀ W (.slice a (min len k) cap) (zs.take k) := by
  obtain ⟨ao, cp, e, hk⟩ := h
  injection e with e1 e2 e3
  subst e1 e2 e3
  refine ⟨_, _, by rw [List.length_take, Nat.min_comm], fun hz => ?_⟩
  obtain ⟨b, off, rfl, hb, hc⟩ := hk (fun h => hz (by rw [h]; simp))
  refine ⟨b, off, rfl, hb, fun j x hj => ?_⟩
  rw [List.getElem?_take] at hj
  split at hj
  · exact hc j x hj
  · cases hj

theorem addr_add (b off j : Nat) : (⟨b, off, none⟩ : Addr).add j = ⟨b, off + j, none⟩ := by
  unfold Addr.add
  by_cases hj0 : j = 0
  · subst hj0; simp
  · simp [hj0]
theorem cells3 : Tryd.prog.cellsOf 3 = 1 := by kernel_rfl
theorem cellsU : Tryd.prog.cellsOf 22 = 1 := by kernel_rfl

section
variable {H : Type} {enc : TypeId × Value → H} {W : World} {base : Nat}
set_option maxRecDepth 100000 in
theorem open_elem {spare : Nat → Bool} {held : Bool} {fuel : Nat} {x : Addr} {cs : List Value} {y : DataW H × List MemPlace} (hc : W.cells? base x (Tryd.prog.cellsOf 24) = some cs) (ht : DataW.trod enc Tryd.prog W base spare held fuel 24 cs = some y) :
    ∃ z : Lab, z.fits ∧ W.cell? (x.add 0) = some (.int .i64 z.l) ∧ W.cell? (x.add 1) = some (.int .u64 z.c) ∧ W.cell? (x.add 2) = some (.int .i64 z.i) := by
  obtain ⟨_, hcl, hat⟩ := World.cells?_some hc
  rw [cellsL] at hcl hat
  obtain ⟨ys, n, _, _, _, hyl, hg⟩ := DataW.trod_struct Tryd.underlying24 ht
  match cs, hcl with
  | [c0, c1, c2], _ =>
    match ys, hyl with
    | [y0, y1, y2], _ =>
      have t0 : DataW.trod enc Tryd.prog W base spare held n 3 (([c0, c1, c2].drop 0).take (Tryd.prog.cellsOf 3)) = some y0 := hg 0 _ rfl
      have t1 : DataW.trod enc Tryd.prog W base spare held n 22 (([c0, c1, c2].drop 1).take (Tryd.prog.cellsOf 22)) = some y1 := hg 1 _ rfl
      have t2 : DataW.trod enc Tryd.prog W base spare held n 3 (([c0, c1, c2].drop 2).take (Tryd.prog.cellsOf 3)) = some y2 := hg 2 _ rfl
      rw [cells3] at t0 t2
      rw [cellsU] at t1
      replace t0 : DataW.trod enc Tryd.prog W base spare held n 3 [c0] = some y0 := t0
      replace t1 : DataW.trod enc Tryd.prog W base spare held n 22 [c1] = some y1 := t1
      replace t2 : DataW.trod enc Tryd.prog W base spare held n 3 [c2] = some y2 := t2
      obtain ⟨n0, e0, _, _⟩ := DataW.trod_int Tryd.underlying3 t0
      obtain ⟨n1, e1, _, w1⟩ := DataW.trod_int Tryd.underlying22 t1
      obtain ⟨n2, e2, _, _⟩ := DataW.trod_int Tryd.underlying3 t2
      obtain rfl := List.head_eq_of_cons_eq e0
      obtain rfl := List.head_eq_of_cons_eq e1
      obtain rfl := List.head_eq_of_cons_eq e2
      obtain ⟨c, rfl, hu⟩ := nat_of_u64 w1
      exact ⟨⟨n0, c, n2⟩, hu, hat 0 (by omega), hat 1 (by omega), hat 2 (by omega)⟩

set_option maxRecDepth 100000 in
theorem open_labs {b0 : Nat} {v : Value} {d : DataW H} {p : List MemPlace} {held : Bool} (hv : Value.okWide Tryd.prog W .any b0 36 v) (h : DataW.Trod enc Tryd.prog W base (fun _ => true) held 36 v d p) :
    ∃ a len cap zs, v = .slice a len cap ∧ LabsIn W a len cap zs := by
  obtain ⟨a, len, cap, rfl⟩ := okWide_slice Tryd.underlying36 hv
  obtain ⟨fuel, hf⟩ := h
  rcases Go.Deep.open_slice Tryd.underlying36 hf with ⟨hcs, _⟩ | ⟨x, l, c, m, n, D, Pl, hcs, _, hl, hm, hmm, _, hi⟩
  · simp [Value.cells] at hcs
    obtain ⟨rfl, rfl, rfl⟩ := hcs
    exact ⟨none, 0, 0, [], rfl, ⟨none, 0, rfl, fun h => absurd rfl h⟩, rfl, Nat.le_refl _, Nat.zero_le _, fun _ => rfl⟩
  · simp [Value.cells] at hcs
    obtain ⟨rfl, rfl, rfl⟩ := hcs
    simp only [if_true] at hmm
    subst hmm
    have hel : ∀ i, ∃ z : Lab, i < len → z.fits ∧ W.cell? ((x.add (i * 3)).add 0) = some (.int .i64 z.l) ∧ W.cell? ((x.add (i * 3)).add 1) = some (.int .u64 z.c) ∧ W.cell? ((x.add (i * 3)).add 2) = some (.int .i64 z.i) := fun i => by
      by_cases hlt : i < len
      · obtain ⟨cs, hc, ht⟩ := hi i (by omega)
        obtain ⟨z, hz⟩ := open_elem hc ht
        rw [cellsL] at hz
        exact ⟨z, fun _ => hz⟩
      · exact ⟨Lab.zero, fun h => absurd h hlt⟩
    obtain ⟨f, hfz⟩ := Classical.axiomOfChoice hel
    refine ⟨some x, len, m, (List.range len).map f, rfl, ⟨some x, m, by simp, fun hne => ?_⟩, by simp, hl, hm, (fun h => by cases h)⟩
    have hpos : 0 < len := by
      rcases Nat.eq_zero_or_pos len with h | h
      · exact absurd (by rw [h]; rfl) hne
      · exact h
    obtain ⟨b, off, sp⟩ := x
    have h0 := (hfz 0 hpos).2.1
    have hsp : sp = none := by
      have := World.cell?_spot h0
      simpa [Addr.add] using this
    subst hsp
    simp only [addr_add] at hfz h0
    refine ⟨b, off, rfl, World.block_lt_of_cell? W _ h0, fun j z hj => ?_⟩
    rw [List.getElem?_map] at hj
    by_cases hjl : j < len
    · rw [List.getElem?_range hjl] at hj
      obtain rfl := Option.some.inj hj
      obtain ⟨h1, h2, h3, h4⟩ := hfz j hjl
      exact ⟨h1, h2, h3, h4⟩
    · rw [List.getElem?_eq_none (by simp; omega)] at hj
      cases hj
end

end Go.Proofs.YtfpjbefhfkembaaDoor

/- What the laws share: the examples, the first three hundred bytes. -/
namespace Go.Proofs.YtfpjbefhfkembaaDoor
open Go.RowKit Go.Shelf Go.Proofs.Fld Go.Proofs.Cats Go.Proofs.Lcd

theorem neqInL (a b : Lab) (w : World) : (binOp .neq 24 (.agg #[.int .i64 a.l, .int .u64 a.c, .int .i64 a.i]) (.agg #[.int .i64 b.l, .int .u64 b.c, .int .i64 b.i])).run Tryd.prog w = .ok (.bool (!a.same b)) w := by
  have h := Lb.eqInL a b w
  simp [go_sem, h]

theorem ex1 : putR ⟨3, 1, 5⟩ = ([3, 5, 0, 0, 0, 0, 0, 0, 0, 1], 0) := by decide +kernel
theorem ex2 : getR [3, 5, 0, 0, 0, 0, 0, 0, 0, 1, 120] = (⟨3, 1, 5⟩, [120], 0) := by kernel_rfl
theorem ex3 : getR [16, 0, 0, 0, 0, 0, 0, 0, 0, 0] = (⟨0, 0, 0⟩, [], 40) := by kernel_rfl
theorem ex4 : ({ data := #[3, 5, 0, 0, 0, 0, 0, 0, 0, 1] } : ByteArray) ++ { data := #[120] } = bs [3, 5, 0, 0, 0, 0, 0, 0, 0, 1, 120] := by
  have := bs_append [3, 5, 0, 0, 0, 0, 0, 0, 0, 1] [120]
  exact this

set_option maxRecDepth 100000 in
set_option maxHeartbeats 2000000 in
theorem shownL_any (s : Sn) (t : SnL) (w : World) (hs : SentL s t w) : Calls Tryd.prog 9 #[] w fun e w' => e = .returned (.bool true) ∧ Below w.heap.size w w' := by
  have HS := Lib.hid hs
  clear hs
  have hn0 := Below.new w (.cells #[.int .i64 3, .int .u64 1, .int .i64 5] 24)
  have a0 : (w.alloc (.cells #[.int .i64 3, .int .u64 1, .int .i64 5] 24)).cell? ⟨w.heap.size, 0, none⟩ = some (.int .i64 3) := by simp
  have a1 : (w.alloc (.cells #[.int .i64 3, .int .u64 1, .int .i64 5] 24)).cell? ⟨w.heap.size, 1, none⟩ = some (.int .u64 1) := by simp
  have a2 : (w.alloc (.cells #[.int .i64 3, .int .u64 1, .int .i64 5] 24)).cell? ⟨w.heap.size, 2, none⟩ = some (.int .i64 5) := by simp
  have hap := ex4
  have hP := Put_any s t ⟨3, 1, 5⟩ (by unfold Lab.fits U64; decide) _ (HS.out.more hn0)
  rw [ex1] at hP
  have HP := Lib.hid hP
  clear hP
  go_enter Tryd.func9, Tryd.ntmps9
  go_wp2_with (go_at_call 10; refine HP.out.mono ?_)
  rintro e w1 ⟨he, b1⟩
  have he2 : e = .returned (.tuple #[.string { data := #[3, 5, 0, 0, 0, 0, 0, 0, 0, 1] }, .int .i64 0]) := he
  subst he2
  clear he
  have d1 := below_more hn0 b1
  replace a0 := cell_later b1 a0
  replace a1 := cell_later b1 a1
  replace a2 := cell_later b1 a2
  have hG := Get_any s t [3, 5, 0, 0, 0, 0, 0, 0, 0, 1, 120] w1 (HS.out.more d1)
  rw [ex2] at hG
  have HG := Lib.hid hG
  clear hG
  go_wp2_with (go_at_call 12; refine HG.out.mono ?_)
  rintro e w2 ⟨he, b2⟩
  have he2 : e = .returned (.tuple #[.agg #[.int .i64 3, .int .u64 1, .int .i64 5], .string { data := #[120] }, .int .i64 0]) := he
  subst he2
  clear he
  have d2 := below_more d1 b2
  have hn2 := Below.new w2 (.cells #[.int .i64 3, .int .u64 1, .int .i64 5] 24)
  have d3 := below_more d2 hn2
  replace a0 := cell_later hn2 (cell_later b2 a0)
  replace a1 := cell_later hn2 (cell_later b2 a1)
  replace a2 := cell_later hn2 (cell_later b2 a2)
  have c0 : (w2.alloc (.cells #[.int .i64 3, .int .u64 1, .int .i64 5] 24)).cell? ⟨w2.heap.size, 0, none⟩ = some (.int .i64 3) := by simp
  have c1 : (w2.alloc (.cells #[.int .i64 3, .int .u64 1, .int .i64 5] 24)).cell? ⟨w2.heap.size, 1, none⟩ = some (.int .u64 1) := by simp
  have c2 : (w2.alloc (.cells #[.int .i64 3, .int .u64 1, .int .i64 5] 24)).cell? ⟨w2.heap.size, 2, none⟩ = some (.int .i64 5) := by simp
  have hG := Get_any s t [16, 0, 0, 0, 0, 0, 0, 0, 0, 0] _ (HS.out.more d3)
  rw [ex3] at hG
  have HG2 := Lib.hid hG
  clear hG HG hap
  go_wp2_with (go_at_call 12; refine HG2.out.mono ?_)
  rintro e w3 ⟨he, b3⟩
  have he2 : e = .returned (.tuple #[.agg #[.int .i64 0, .int .u64 0, .int .i64 0], .string { data := #[] }, .int .i64 40]) := he
  subst he2
  clear he
  have d4 := below_more d3 b3
  have hn3 := Below.new w3 (.cells #[.int .i64 0, .int .u64 0, .int .i64 0] 24)
  have d5 := below_more d4 hn3
  replace a0 := cell_later hn3 (cell_later b3 a0)
  replace a1 := cell_later hn3 (cell_later b3 a1)
  replace a2 := cell_later hn3 (cell_later b3 a2)
  replace c0 := cell_later hn3 (cell_later b3 c0)
  replace c1 := cell_later hn3 (cell_later b3 c1)
  replace c2 := cell_later hn3 (cell_later b3 c2)
  clear HG2 HP
  go_wp2
  go_ret
  exact ⟨rfl, d5⟩

set_option maxHeartbeats 1000000 in
theorem cutL (l : List UInt8) (hl : l.length ≤ 9223372036854775807) (w : World) : Calls Tryd.prog 13 #[.string (bs l)] w fun e w' => e = .returned (.string (bs (l.take 300))) ∧ w = w' := by
  have hsz := bs_size l
  by_cases h : l.length ≤ 300
  · have hup := str_upto l l.length (Nat.le_refl _)
    have ht : l.take l.length = l := List.take_length
    have ht2 : l.take 300 = l := List.take_of_length_le h
    rw [ht] at hup
    rw [ht2]
    have hm : min (l.length : Int) 300 = (l.length : Int) := by omega
    clear ht ht2
    go_enter Tryd.func13, Tryd.ntmps13
    go_wp2
    go_ret
    exact ⟨rfl, rfl⟩
  · have hup : ∀ w, (Instr.slice 9 (.string (bs l)) none (some (.int .i64 300)) none).run Tryd.prog w = .ok (.string (bs (l.take 300))) w := fun w => str_upto l 300 (by omega) w
    have hm : min (l.length : Int) 300 = 300 := by omega
    go_enter Tryd.func13, Tryd.ntmps13
    go_wp2
    go_ret
    exact ⟨rfl, rfl⟩

/-- An answer, closed: the walk does not take it apart. -/
def Ans (v : Value) (w : World) (e : Ending) (w' : World) : Prop := e = .returned v ∧ Below w.heap.size w w'
def AnsS (v : Value) (w : World) (e : Ending) (w' : World) : Prop := e = .returned v ∧ w = w'
theorem shownA (s : Sn) (t : SnL) (w : World) (hs : SentL s t w) : Calls Tryd.prog 9 #[] w (Ans (.bool true) w) := shownL_any s t w hs
theorem cutA (l : List UInt8) (hl : l.length ≤ 9223372036854775807) (w : World) : Calls Tryd.prog 13 #[.string (bs l)] w (AnsS (.string (bs (l.take 300))) w) := cutL l hl w
theorem rightA (a : Lab) (ha : a.fits) (w : World) : Calls Tryd.prog 24 #[.agg #[.int .i64 a.l, .int .u64 a.c, .int .i64 a.i]] w (Ans (.bool a.right) w) := Lb.right_any a ha w
theorem underA (a b : Lab) (ha : a.fits) (hb : b.fits) (w : World) : Calls Tryd.prog 25 #[.agg #[.int .i64 a.l, .int .u64 a.c, .int .i64 a.i], .agg #[.int .i64 b.l, .int .u64 b.c, .int .i64 b.i]] w (Ans (.bool (a.under b)) w) := Lb.Under_any a b ha hb w

end Go.Proofs.YtfpjbefhfkembaaDoor
