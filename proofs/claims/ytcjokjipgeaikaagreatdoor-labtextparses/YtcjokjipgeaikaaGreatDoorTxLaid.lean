/- What the listed variables give the walks: the table of powers, errors.errorType, the sentinel of cats. -/
import Derived.Test.YtcjokjipgeaikaaGreatDoorRows
import Derived.Test.YtcjokjipgeaikaaGreatDoorTxParse
import Derived.Lib.LaidTab
import Derived.ProofKit
import Derived.LaidMore
import Derived.OpenShut
import Derived.ChangeOld
import Derived.ChangeMaps5
import Derived.ChangeSlices
import Derived.Stop.Joined
import Derived.Stop.LaidErr
import Derived.Stop.LaidTwo
import Derived.LaidHandle
import Derived.LaidLaws
import Derived.Lib.SmallJoins
import Derived.ChangeSame
import Derived.Deep.Slices
import Derived.Deep.Fields
namespace Go.Proofs.YtcjokjipgeaikaaGreatDoor
open Go.ChangeShapes Go.WideShapes Go.ChangeAt Go.RowKit Go.Proofs.Cats Go.Joins

theorem own : ownKnob Tryz.prog.godebug = none := by kernel_rfl
theorem laidOut : laidOutB Tryz.prog = true := by kernel_rfl

theorem cellsU : Tryz.prog.cellsOf 23 = 1 := by kernel_rfl
/-- What the rows list. -/
def laid5 : List (String × DataW Unit) := [("math/bits.deBruijn32tab", Rows.laid_math_bits_deBruijn32tab), ("math/bits.deBruijn64tab", Rows.laid_math_bits_deBruijn64tab), ("internal/strconv.uint64pow10", Rows.laid_internal_strconv_uint64pow10), ("errors.errorType", Rows.laid_errors_errorType), ("plimsoll/cats.errNone", Rows.laid_plimsoll_cats_errNone)]

theorem etG : Tryz.prog.globalNamed "errors.errorType" = some 0 := by kernel_rfl
theorem gNone : Tryz.prog.globalNamed "plimsoll/cats.errNone" = some 1 := by kernel_rfl
theorem gNoneType : (Tryz.prog.globals[1]?).map (·.type) = some 36 := by kernel_rfl
theorem gTabType : (Tryz.prog.globals[2]?).map (·.type) = some 138 := by kernel_rfl
theorem cellsTab : Tryz.prog.cellsOf 138 = 20 := by kernel_rfl
theorem rtT : (Tryz.prog.cutTypes.find? (·.1 == "internal/reflectlite.rtype")).map (·.2) = some 93 := by kernel_rfl
theorem oneRow : ((List.range 186).filter fun t => Tryz.prog.rowNamed t [101, 114, 114, 111, 114]) = [36] := by kernel_rfl
theorem typesN : Tryz.prog.types.size = 186 := by kernel_rfl
theorem star : "*errors.errorString" = "*" ++ "errors.errorString" := by decide
theorem rowErr (u : TypeId) (h : Tryz.prog.typeName? 3 u = some "*errors.errorString") : u = 155 :=
  typeName_ptr_named (nm := "errors.errorString") (by rw [← star]; kernel_rfl) (by kernel_rfl) (by decide) u (by rw [← star]; exact h)
theorem cellsErr : Tryz.prog.cellsOf 174 = 1 := by kernel_rfl
theorem cells9 : Tryz.prog.cellsOf 9 = 1 := by kernel_rfl

theorem laidMet_rest {P : Program} {x : String × DataW Unit} {r : List (String × DataW Unit)} {W : World} (h : laidMet P (x :: r) W) : laidMet P r W := by
  obtain ⟨n, d⟩ := x
  obtain ⟨ps, ⟨g, t, cs, fuel, p, q, _, _, _, _, hr, rfl⟩, hnd, hrows⟩ := h
  exact ⟨q, hr, (List.nodup_append.1 hnd).2.1, fun b off hm => hrows b off (List.mem_append_right _ hm)⟩

theorem errT_of {W : World} (h : handlesMet Tryz.prog [("errors.errorType", Rows.laid_errors_errorType)] W) : W.cell? ⟨0, 0, none⟩ = some (.iface 93 (.agg #[.pointer (some ⟨6, 36, none⟩)])) := by
  obtain ⟨name, u, ty, e1, e2, e3, e4, e5⟩ := h _ (List.mem_singleton.2 rfl)
  have en : name = [101, 114, 114, 111, 114] := (Option.some.inj e1).symm
  subst en
  obtain rfl := Option.some.inj (rtT.symm.trans e2)
  have hm : ty ∈ (List.range 186).filter fun t => Tryz.prog.rowNamed t [101, 114, 114, 111, 114] := List.mem_filter.2 ⟨List.mem_range.2 (by rw [← typesN]; exact e3), e4⟩
  rw [oneRow] at hm
  obtain rfl := List.mem_singleton.1 hm
  have hh : typeHandle Tryz.prog 36 = .pointer (some ⟨6, 36, none⟩) := by kernel_rfl
  rw [hh] at e5
  simpa using World.var?_cell etG e5 0

theorem tab_data : (Rows.laid_internal_strconv_uint64pow10 : DataW Unit) = Lib.tabData .u64 Lib.pow10Tab := by rfl
theorem env_of_laid {W : World} (h : laidMetH Tryz.prog laid5 W) : ∃ ga, Env ga W := by
  have h' : laidMet Tryz.prog [("math/bits.deBruijn32tab", Rows.laid_math_bits_deBruijn32tab), ("math/bits.deBruijn64tab", Rows.laid_math_bits_deBruijn64tab), ("internal/strconv.uint64pow10", Rows.laid_internal_strconv_uint64pow10), ("plimsoll/cats.errNone", Rows.laid_plimsoll_cats_errNone)] W ∧ handlesMet Tryz.prog [("errors.errorType", Rows.laid_errors_errorType)] W := h
  have ht := errT_of h'.2
  have l2 := laidMet_rest (laidMet_rest h'.1)
  have l3 := laidMet_rest l2
  rw [tab_data] at l2
  have htab := Lib.tabIs_of_head gTab gTabType Tryz.underlying138 Tryz.underlying23 cellsU cellsTab l2
  obtain ⟨a0, s0, hv0, _, _, _⟩ := laid_sentinel l3 gNone gNoneType Tryz.underlying36 rowErr Tryz.underlying155 Tryz.underlying174 rfl rfl Tryz.underlying9 cellsErr cells9
  exact ⟨a0, by unfold Ct.Glob; simpa using World.var?_cell gNone hv0 0, ht, htab⟩

theorem door_met5 (os : Os) (args : Array Value) : laidMetH Tryz.prog laid5 ((World.doorLaid Tryz.prog 400 os).forCall (fun _ _ => 0) ⟨#[], args, []⟩).memory :=
  laidMetH_of_parts (laidMet_of_run' 8 (by kernel_rfl) (by kernel_rfl)) (by kernel_rfl)

theorem nat_of_u64 {x : Int} (h : (Lit.int .u64 x).wf = true) : ∃ n : Nat, x = n ∧ U64 n := by
  have hb := bounds_u64 h
  obtain ⟨n, rfl⟩ := Int.eq_ofNat_of_zero_le hb.1
  exact ⟨n, rfl, by unfold U64; omega⟩

/-- A label's numbers are numbers of the machine. -/
def LabWf (x : Lab) : Prop := (Lit.int .i64 x.l).wf = true ∧ (Lit.int .u64 x.c).wf = true ∧ (Lit.int .i64 x.i).wf = true
def labD {H : Type} (x : Lab) : DataW H := .agg [.lit (.int .i64 x.l), .lit (.int .u64 x.c), .lit (.int .i64 x.i)]
theorem LabWf.fits {x : Lab} (h : LabWf x) : x.fits := by
  have hb := bounds_u64 h.2.1
  unfold Lab.fits U64
  omega
theorem cellsL : Tryz.prog.cellsOf 25 = 3 := by kernel_rfl

section
variable {H : Type} {enc : TypeId × Value → H} {W : World} {base : Nat}
set_option maxRecDepth 100000 in
theorem open_lab {b0 : Nat} {v : Value} {d : DataW H} {p : List MemPlace} {spare : Nat → Bool} {held : Bool} (hv : Value.okWide Tryz.prog W .any b0 25 v) (h : DataW.Trod enc Tryz.prog W base spare held 25 v d p) :
    ∃ x : Lab, LabWf x ∧ v = .agg #[.int .i64 x.l, .int .u64 x.c, .int .i64 x.i] ∧ d = labD x ∧ p = [] := by
  obtain ⟨v0, v1, v2, y0, y1, y2, n, rfl, rfl, rfl, h0, h1, h2⟩ := open_agg3 Tryz.underlying25 (by kernel_rfl) cellsL hv h
  obtain ⟨n0, e0, rfl, w0⟩ := DataW.trod_int Tryz.underlying3 h0
  obtain ⟨n1, e1, rfl, w1⟩ := DataW.trod_int Tryz.underlying23 h1
  obtain ⟨n2, e2, rfl, w2⟩ := DataW.trod_int Tryz.underlying3 h2
  obtain rfl := List.head_eq_of_cons_eq e0
  obtain rfl := List.head_eq_of_cons_eq e1
  obtain rfl := List.head_eq_of_cons_eq e2
  obtain ⟨c, rfl, _⟩ := nat_of_u64 w1
  exact ⟨⟨n0, c, n2⟩, ⟨w0, w1, w2⟩, rfl, rfl, rfl⟩
set_option maxRecDepth 100000 in
theorem shut_lab {spare : Nat → Bool} {held : Bool} {x : Lab} (h : LabWf x) : DataW.Trod enc Tryz.prog W base spare held 25 (.agg #[.int .i64 x.l, .int .u64 x.c, .int .i64 x.i]) (labD x) [] :=
  shut_agg3 (y0 := (.lit (.int .i64 x.l), [])) (y1 := (.lit (.int .u64 x.c), [])) (y2 := (.lit (.int .i64 x.i), [])) Tryz.underlying25 (by kernel_rfl) cellsL
    ⟨1, trod_int_mk 0 Tryz.underlying3 h.1⟩ ⟨1, trod_int_mk 0 Tryz.underlying23 h.2.1⟩ ⟨1, trod_int_mk 0 Tryz.underlying3 h.2.2⟩
end

end Go.Proofs.YtcjokjipgeaikaaGreatDoor
