/- What the listed variable gives the walks: errors.errorType's cell; labels that come in by value. -/
import Derived.Test.YtciohfeifihobaaDoorLbB
import Derived.ProofKit
import Derived.LaidMore
import Derived.OpenShut
import Derived.ChangeOld
import Derived.Stop.Joined
import Derived.LaidHandle
import Derived.LaidLaws
import Derived.Lib.SmallJoins
import Derived.ChangeSame
namespace Go.Proofs.YtciohfeifihobaaDoor
open Go.ChangeShapes Go.WideShapes Go.ChangeAt Go.RowKit Go.Proofs.Cats Go.Joins

theorem own : ownKnob Tryd.prog.godebug = none := by kernel_rfl
theorem laidOut : laidOutB Tryd.prog = true := by kernel_rfl

/-- What the rows list. -/
def laid1 : List (String × DataW Unit) := [("errors.errorType", Rows.laid_errors_errorType)]

theorem etG : Tryd.prog.globalNamed "errors.errorType" = some 3 := by kernel_rfl
theorem rtT : (Tryd.prog.cutTypes.find? (·.1 == "internal/reflectlite.rtype")).map (·.2) = some 95 := by kernel_rfl
theorem oneRow : ((List.range 150).filter fun t => Tryd.prog.rowNamed t [101, 114, 114, 111, 114]) = [44] := by kernel_rfl
theorem typesN : Tryd.prog.types.size = 150 := by kernel_rfl

theorem errT_of_laid {W : World} (h : laidMetH Tryd.prog laid1 W) : ErrT W := by
  have h' : laidMet Tryd.prog [] W ∧ handlesMet Tryd.prog laid1 W := h
  obtain ⟨name, u, ty, e1, e2, e3, e4, e5⟩ := h'.2 _ (List.mem_singleton.2 rfl)
  have en : name = [101, 114, 114, 111, 114] := (Option.some.inj e1).symm
  subst en
  obtain rfl := Option.some.inj (rtT.symm.trans e2)
  have hm : ty ∈ (List.range 150).filter fun t => Tryd.prog.rowNamed t [101, 114, 114, 111, 114] := List.mem_filter.2 ⟨List.mem_range.2 (by rw [← typesN]; exact e3), e4⟩
  rw [oneRow] at hm
  obtain rfl := List.mem_singleton.1 hm
  have hh : typeHandle Tryd.prog 44 = .pointer (some ⟨4, 44, none⟩) := by kernel_rfl
  rw [hh] at e5
  unfold ErrT
  simpa using World.var?_cell etG e5 0

theorem door_met (os : Os) (args : Array Value) : laidMetH Tryd.prog laid1 ((World.doorLaid Tryd.prog 400 os).forCall (fun _ _ => 0) ⟨#[], args, []⟩).memory :=
  laidMetH_of_parts (laidMet_nil _ _) (by kernel_rfl)

theorem nat_of_u64 {x : Int} (h : (Lit.int .u64 x).wf = true) : ∃ n : Nat, x = n ∧ U64 n := by
  have hb := bounds_u64 h
  obtain ⟨n, rfl⟩ := Int.eq_ofNat_of_zero_le hb.1
  exact ⟨n, rfl, by unfold U64; omega⟩

/-- A label's numbers are numbers of the machine. -/
def LabWf (x : Lab) : Prop := (Lit.int .i64 x.l).wf = true ∧ (Lit.int .u64 x.c).wf = true ∧ (Lit.int .i64 x.i).wf = true
def labD {H : Type} (x : Lab) : DataW H := .agg [.lit (.int .i64 x.l), .lit (.int .u64 x.c), .lit (.int .i64 x.i)]
theorem LabWf.fits {x : Lab} (h : LabWf x) : x.fits := by
  have hb := bounds_u64 h.2.1
  unfold Lab.fits U64
  omega
theorem cellsL : Tryd.prog.cellsOf 24 = 3 := by kernel_rfl

section
variable {H : Type} {enc : TypeId × Value → H} {W : World} {base : Nat}
set_option maxRecDepth 100000 in
theorem open_lab {b0 : Nat} {v : Value} {d : DataW H} {p : List MemPlace} {spare : Nat → Bool} {held : Bool} (hv : Value.okWide Tryd.prog W .any b0 24 v) (h : DataW.Trod enc Tryd.prog W base spare held 24 v d p) :
    ∃ x : Lab, LabWf x ∧ v = .agg #[.int .i64 x.l, .int .u64 x.c, .int .i64 x.i] ∧ d = labD x ∧ p = [] := by
  obtain ⟨v0, v1, v2, y0, y1, y2, n, rfl, rfl, rfl, h0, h1, h2⟩ := open_agg3 Tryd.underlying24 (by kernel_rfl) cellsL hv h
  obtain ⟨n0, e0, rfl, w0⟩ := DataW.trod_int Tryd.underlying3 h0
  obtain ⟨n1, e1, rfl, w1⟩ := DataW.trod_int Tryd.underlying22 h1
  obtain ⟨n2, e2, rfl, w2⟩ := DataW.trod_int Tryd.underlying3 h2
  obtain rfl := List.head_eq_of_cons_eq e0
  obtain rfl := List.head_eq_of_cons_eq e1
  obtain rfl := List.head_eq_of_cons_eq e2
  obtain ⟨c, rfl, _⟩ := nat_of_u64 w1
  exact ⟨⟨n0, c, n2⟩, ⟨w0, w1, w2⟩, rfl, rfl, rfl⟩
theorem shut_lab {spare : Nat → Bool} {held : Bool} {x : Lab} (h : LabWf x) : DataW.Trod enc Tryd.prog W base spare held 24 (.agg #[.int .i64 x.l, .int .u64 x.c, .int .i64 x.i]) (labD x) [] :=
  shut_agg3 (y0 := (.lit (.int .i64 x.l), [])) (y1 := (.lit (.int .u64 x.c), [])) (y2 := (.lit (.int .i64 x.i), [])) Tryd.underlying24 (by kernel_rfl) cellsL
    ⟨1, trod_int_mk 0 Tryd.underlying3 h.1⟩ ⟨1, trod_int_mk 0 Tryd.underlying22 h.2.1⟩ ⟨1, trod_int_mk 0 Tryd.underlying3 h.2.2⟩
end

end Go.Proofs.YtciohfeifihobaaDoor
