/- What the listed variables give the walks: the table of powers, errors.errorType, the sentinel of cats. -/
import Derived.Test.YtcjokjipgeaikaaDoorRows
import Derived.Test.YtcjokjipgeaikaaDoorTxParse
import Derived.Lib.LaidTab
import Derived.ProofKit
import Derived.LaidMore
import Derived.OpenShut
import Derived.ChangeOld
import Derived.ChangeMaps5
import Derived.ChangeSlices
import Derived.Stop.Joined
import Derived.Stop.LaidErr
import Derived.Stop.LaidTwo
import Derived.LaidHandle
import Derived.LaidLaws
import Derived.Lib.SmallJoins
import Derived.ChangeSame
import Derived.Deep.Slices
import Derived.Deep.Fields
namespace Go.Proofs.YtcjokjipgeaikaaDoor
open Go.ChangeShapes Go.WideShapes Go.ChangeAt Go.RowKit Go.Proofs.Cats Go.Joins

theorem own : ownKnob Tryd.prog.godebug = none := by kernel_rfl
theorem laidOut : laidOutB Tryd.prog = true := by kernel_rfl

theorem cellsU : Tryd.prog.cellsOf 22 = 1 := by kernel_rfl
/-- What the rows list. -/
def laid5 : List (String × DataW Unit) := [("math/bits.deBruijn32tab", Rows.laid_math_bits_deBruijn32tab), ("math/bits.deBruijn64tab", Rows.laid_math_bits_deBruijn64tab), ("internal/strconv.uint64pow10", Rows.laid_internal_strconv_uint64pow10), ("errors.errorType", Rows.laid_errors_errorType), ("plimsoll/cats.errNone", Rows.laid_plimsoll_cats_errNone)]

theorem etG : Tryd.prog.globalNamed "errors.errorType" = some 0 := by kernel_rfl
theorem gNone : Tryd.prog.globalNamed "plimsoll/cats.errNone" = some 2 := by kernel_rfl
theorem gNoneType : (Tryd.prog.globals[2]?).map (·.type) = some 45 := by kernel_rfl
theorem gTabType : (Tryd.prog.globals[1]?).map (·.type) = some 130 := by kernel_rfl
theorem cellsTab : Tryd.prog.cellsOf 130 = 20 := by kernel_rfl
theorem rtT : (Tryd.prog.cutTypes.find? (·.1 == "internal/reflectlite.rtype")).map (·.2) = some 103 := by kernel_rfl
theorem oneRow : ((List.range 182).filter fun t => Tryd.prog.rowNamed t [101, 114, 114, 111, 114]) = [45] := by kernel_rfl
theorem typesN : Tryd.prog.types.size = 182 := by kernel_rfl
theorem star : "*errors.errorString" = "*" ++ "errors.errorString" := by decide
theorem rowErr (u : TypeId) (h : Tryd.prog.typeName? 3 u = some "*errors.errorString") : u = 151 :=
  typeName_ptr_named (nm := "errors.errorString") (by rw [← star]; kernel_rfl) (by kernel_rfl) (by decide) u (by rw [← star]; exact h)
theorem cellsErr : Tryd.prog.cellsOf 170 = 1 := by kernel_rfl
theorem cells9 : Tryd.prog.cellsOf 9 = 1 := by kernel_rfl

theorem laidMet_rest {P : Program} {x : String × DataW Unit} {r : List (String × DataW Unit)} {W : World} (h : laidMet P (x :: r) W) : laidMet P r W := by
  obtain ⟨n, d⟩ := x
  obtain ⟨ps, ⟨g, t, cs, fuel, p, q, _, _, _, _, hr, rfl⟩, hnd, hrows⟩ := h
  exact ⟨q, hr, (List.nodup_append.1 hnd).2.1, fun b off hm => hrows b off (List.mem_append_right _ hm)⟩

theorem errT_of {W : World} (h : handlesMet Tryd.prog [("errors.errorType", Rows.laid_errors_errorType)] W) : W.cell? ⟨0, 0, none⟩ = some (.iface 103 (.agg #[.pointer (some ⟨6, 45, none⟩)])) := by
  obtain ⟨name, u, ty, e1, e2, e3, e4, e5⟩ := h _ (List.mem_singleton.2 rfl)
  have en : name = [101, 114, 114, 111, 114] := (Option.some.inj e1).symm
  subst en
  obtain rfl := Option.some.inj (rtT.symm.trans e2)
  have hm : ty ∈ (List.range 182).filter fun t => Tryd.prog.rowNamed t [101, 114, 114, 111, 114] := List.mem_filter.2 ⟨List.mem_range.2 (by rw [← typesN]; exact e3), e4⟩
  rw [oneRow] at hm
  obtain rfl := List.mem_singleton.1 hm
  have hh : typeHandle Tryd.prog 45 = .pointer (some ⟨6, 45, none⟩) := by kernel_rfl
  rw [hh] at e5
  simpa using World.var?_cell etG e5 0

theorem tab_data : (Rows.laid_internal_strconv_uint64pow10 : DataW Unit) = Lib.tabData .u64 Lib.pow10Tab := by rfl
theorem env_of_laid {W : World} (h : laidMetH Tryd.prog laid5 W) : ∃ ga, Env ga W := by
  have h' : laidMet Tryd.prog [("math/bits.deBruijn32tab", Rows.laid_math_bits_deBruijn32tab), ("math/bits.deBruijn64tab", Rows.laid_math_bits_deBruijn64tab), ("internal/strconv.uint64pow10", Rows.laid_internal_strconv_uint64pow10), ("plimsoll/cats.errNone", Rows.laid_plimsoll_cats_errNone)] W ∧ handlesMet Tryd.prog [("errors.errorType", Rows.laid_errors_errorType)] W := h
  have ht := errT_of h'.2
  have l2 := laidMet_rest (laidMet_rest h'.1)
  have l3 := laidMet_rest l2
  rw [tab_data] at l2
  have htab := Lib.tabIs_of_head gTab gTabType Tryd.underlying130 Tryd.underlying22 cellsU cellsTab l2
  obtain ⟨a0, s0, hv0, _, _, _⟩ := laid_sentinel l3 gNone gNoneType Tryd.underlying45 rowErr Tryd.underlying151 Tryd.underlying170 rfl rfl Tryd.underlying9 cellsErr cells9
  exact ⟨a0, by unfold Ct.Glob; simpa using World.var?_cell gNone hv0 0, ht, htab⟩

theorem door_met5 (os : Os) (args : Array Value) : laidMetH Tryd.prog laid5 ((World.doorLaid Tryd.prog 400 os).forCall (fun _ _ => 0) ⟨#[], args, []⟩).memory :=
  laidMetH_of_parts (laidMet_of_run' 8 (by kernel_rfl) (by kernel_rfl)) (by kernel_rfl)

theorem nat_of_u64 {x : Int} (h : (Lit.int .u64 x).wf = true) : ∃ n : Nat, x = n ∧ U64 n := by
  have hb := bounds_u64 h
  obtain ⟨n, rfl⟩ := Int.eq_ofNat_of_zero_le hb.1
  exact ⟨n, rfl, by unfold U64; omega⟩

/-- A label's numbers are numbers of the machine. -/
def LabWf (x : Lab) : Prop := (Lit.int .i64 x.l).wf = true ∧ (Lit.int .u64 x.c).wf = true ∧ (Lit.int .i64 x.i).wf = true
def labD {H : Type} (x : Lab) : DataW H := .agg [.lit (.int .i64 x.l), .lit (.int .u64 x.c), .lit (.int .i64 x.i)]
theorem LabWf.fits {x : Lab} (h : LabWf x) : x.fits := by
  have hb := bounds_u64 h.2.1
  unfold Lab.fits U64
  omega
theorem cellsL : Tryd.prog.cellsOf 24 = 3 := by kernel_rfl

section
variable {H : Type} {enc : TypeId × Value → H} {W : World} {base : Nat}
set_option maxRecDepth 100000 in
theorem open_lab {b0 : Nat} {v : Value} {d : DataW H} {p : List MemPlace} {spare : Nat → Bool} {held : Bool} (hv : Value.okWide Tryd.prog W .any b0 24 v) (h : DataW.Trod enc Tryd.prog W base spare held 24 v d p) :
    ∃ x : Lab, LabWf x ∧ v = .agg #[.int .i64 x.l, .int .u64 x.c, .int .i64 x.i] ∧ d = labD x ∧ p = [] := by
  obtain ⟨v0, v1, v2, y0, y1, y2, n, rfl, rfl, rfl, h0, h1, h2⟩ := open_agg3 Tryd.underlying24 (by kernel_rfl) cellsL hv h
  obtain ⟨n0, e0, rfl, w0⟩ := DataW.trod_int Tryd.underlying3 h0
  obtain ⟨n1, e1, rfl, w1⟩ := DataW.trod_int Tryd.underlying22 h1
  obtain ⟨n2, e2, rfl, w2⟩ := DataW.trod_int Tryd.underlying3 h2
  obtain rfl := List.head_eq_of_cons_eq e0
  obtain rfl := List.head_eq_of_cons_eq e1
  obtain rfl := List.head_eq_of_cons_eq e2
  obtain ⟨c, rfl, _⟩ := nat_of_u64 w1
  exact ⟨⟨n0, c, n2⟩, ⟨w0, w1, w2⟩, rfl, rfl, rfl⟩
set_option maxRecDepth 100000 in
theorem shut_lab {spare : Nat → Bool} {held : Bool} {x : Lab} (h : LabWf x) : DataW.Trod enc Tryd.prog W base spare held 24 (.agg #[.int .i64 x.l, .int .u64 x.c, .int .i64 x.i]) (labD x) [] :=
  shut_agg3 (y0 := (.lit (.int .i64 x.l), [])) (y1 := (.lit (.int .u64 x.c), [])) (y2 := (.lit (.int .i64 x.i), [])) Tryd.underlying24 (by kernel_rfl) cellsL
    ⟨1, trod_int_mk 0 Tryd.underlying3 h.1⟩ ⟨1, trod_int_mk 0 Tryd.underlying22 h.2.1⟩ ⟨1, trod_int_mk 0 Tryd.underlying3 h.2.2⟩
end

end Go.Proofs.YtcjokjipgeaikaaDoor
