/-
  NARROWER THAN 'FOR EVERY INPUT', by the rows' own cells (each row's printed sentence says how): LabcodeCodes: laid · LabcodeLists: laid · LabcodeBack: laid · LabcodeRanges: laid · LabcodeMany: laid · LabcodeJoins: laid.
  DERIVED. THE GIVEN ROWS OF THIS SEAT. 6 by the template 'for every input the law returns true; each argument reads behind the call as it read before'; 0 by the template 'total and deterministic' (their statements: YtfpjbefhfkembaaDoorTotals.lean).
  GIVEN WITH THE SEED: the statements are not yours to turn. If you find one false, say at which input.
  Laid BY PROGRAM, IN A SANDBOX (cutbox-rows.mjs): the forced cells as the released guide's own fill.sh prints them over the translation d3ec40f21eb66e3b… (all of the seat's roots in one cut). By AI agents, Wed Nov 11 2026. No macro, syntax, notation, axiom, sorry.
-/
import Derived.Test.YtfpjbefhfkembaaDoorChecked
import GoSem.Claim
import GoSem.ClaimJoined
import GoSem.ClaimMapViews
import Derived.JoinedTies
import Derived.KernelRfl
namespace Go.Proofs.YtfpjbefhfkembaaDoor
/- THE CELL 'sum', in the pinned program and in every row, IS THE sha256 OF THE DUMP (.gsa) THAT YtfpjbefhfkembaaDoorProg.lean LOADS. Nothing in Lean hashes anything: it is a label: what it is worth is what the hold of that sum in a sandbox is worth. -/
noncomputable def Tryd.pinned : Pinned := { name := "ytfpjbefhfkembaadoor", sum := "d3ec40f21eb66e3bf9dd155d235d8796384b98d26e9d3a978ddfce4c87a9d68c", checked := Tryd.checked }
namespace Rows
def none {H : Type} : Left H := { results := [], args := [] }

/- WHAT THE LISTED PACKAGE-LEVEL VARIABLES READ AS WHEN THE CALL BEGINS. Each datum BY PROGRAM (the guide's laid-datum.mjs) off the statement by which the dump's own 'gosem.cut.vars' lays the variable. In a bare row this is a premise. The card (YtfpjbefhfkembaaDoorCards.lean) ties it to the program's text. -/
def laid_errors_errorType {H : Type} : DataW H := .iface "internal/reflectlite.rtype" (.agg [.ptr (.lit (.string [101, 114, 114, 111, 114]))])
def laid_plimsoll_field_errWidth {H : Type} : DataW H := .iface "*errors.errorString" (.ptr (.agg [.lit (.string [110, 111, 32, 119, 105, 100, 116, 104])]))
def laid_plimsoll_field_errFew {H : Type} : DataW H := .iface "*errors.errorString" (.ptr (.agg [.lit (.string [116, 111, 111, 32, 102, 101, 119, 32, 98, 121, 116, 101, 115])]))
def laid_plimsoll_field_errGreat {H : Type} : DataW H := .iface "*errors.errorString" (.ptr (.agg [.lit (.string [116, 111, 111, 32, 103, 114, 101, 97, 116])]))
def laid_plimsoll_labcode_errNone {H : Type} : DataW H := .iface "*errors.errorString" (.ptr (.agg [.lit (.string [110, 111, 32, 108, 97, 98, 101, 108])]))
def laid_plimsoll_labcode_errFew {H : Type} : DataW H := .iface "*errors.errorString" (.ptr (.agg [.lit (.string [116, 111, 111, 32, 102, 101, 119, 32, 98, 121, 116, 101, 115])]))
def laid_plimsoll_labcode_errBytes {H : Type} : DataW H := .iface "*errors.errorString" (.ptr (.agg [.lit (.string [110, 111, 32, 108, 97, 98, 101, 108, 39, 115, 32, 98, 121, 116, 101, 115])]))
def laid_plimsoll_labcode_errOrder {H : Type} : DataW H := .iface "*errors.errorString" (.ptr (.agg [.lit (.string [110, 111, 116, 32, 117, 110, 100, 101, 114, 32, 116, 104, 101, 32, 110, 101, 120, 116, 32, 111, 110, 101])]))

/-- 'plimsolllaw04.LabcodeCodes': WHATEVER THE INPUT: true; the input reads as it did. -/
def labcodeCodesSpec : ChangeSpec := { name := "labcodeCodes", fn := fun _ => fun
  | [d1, d2, d3] => { results := [.lit (.bool true)], args := [d1, d2, d3] }
  | _ => none }
def labcodeCodesRow : OpenClaim := { program := "ytfpjbefhfkembaadoor", sum := "d3ec40f21eb66e3bf9dd155d235d8796384b98d26e9d3a978ddfce4c87a9d68c", func := "plimsoll/plimsolllaw04.LabcodeCodes", spec := "labcodeCodes", inPlace := ["internal/abi.NoEscape", "internal/reflectlite.ValueOf", "(internal/reflectlite.Value).Type", "(internal/reflectlite.Value).IsNil", "internal/reflectlite.TypeOf", "(internal/reflectlite.Value).Elem", "(internal/reflectlite.Value).Set"], unfollowed := true, recurses := true, named := ["plimsoll/labcode.errNone", "plimsoll/field.errWidth", "plimsoll/field.errGreat", "plimsoll/field.errFew", "errors.errorType", "plimsoll/labcode.errFew", "plimsoll/labcode.errBytes", "plimsoll/labcode.errOrder"], apart := false, laid := [("errors.errorType", laid_errors_errorType), ("plimsoll/field.errWidth", laid_plimsoll_field_errWidth), ("plimsoll/field.errFew", laid_plimsoll_field_errFew), ("plimsoll/field.errGreat", laid_plimsoll_field_errGreat), ("plimsoll/labcode.errNone", laid_plimsoll_labcode_errNone), ("plimsoll/labcode.errFew", laid_plimsoll_labcode_errFew), ("plimsoll/labcode.errBytes", laid_plimsoll_labcode_errBytes), ("plimsoll/labcode.errOrder", laid_plimsoll_labcode_errOrder)] }
def LabcodeCodesSaid : Prop := labcodeCodesRow.holds Tryd.pinned (OpenSpec.ofChange labcodeCodesSpec)

/-- ITS FALSE NEIGHBOUR: 'it returns false'. Refute it at one input. -/
def labcodeCodesWrong : ChangeSpec := { name := "labcodeCodes", fn := fun _ => fun
  | [d1, d2, d3] => { results := [.lit (.bool false)], args := [d1, d2, d3] }
  | _ => none }
def LabcodeCodesWrongFalsely : Prop := labcodeCodesRow.holds Tryd.pinned (OpenSpec.ofChange labcodeCodesWrong)

/-- 'plimsolllaw04.LabcodeLists': WHATEVER THE INPUT: true; the input reads as it did. -/
def labcodeListsSpec : ChangeSpec := { name := "labcodeLists", fn := fun _ => fun
  | [d1, d2] => { results := [.lit (.bool true)], args := [d1, d2] }
  | _ => none }
def labcodeListsRow : OpenClaim := { program := "ytfpjbefhfkembaadoor", sum := "d3ec40f21eb66e3bf9dd155d235d8796384b98d26e9d3a978ddfce4c87a9d68c", func := "plimsoll/plimsolllaw04.LabcodeLists", spec := "labcodeLists", inPlace := ["internal/abi.NoEscape", "internal/reflectlite.ValueOf", "(internal/reflectlite.Value).Type", "(internal/reflectlite.Value).IsNil", "internal/reflectlite.TypeOf", "(internal/reflectlite.Value).Elem", "(internal/reflectlite.Value).Set"], unfollowed := true, recurses := true, named := ["plimsoll/labcode.errNone", "plimsoll/field.errWidth", "plimsoll/field.errGreat", "plimsoll/field.errFew", "errors.errorType", "plimsoll/labcode.errFew", "plimsoll/labcode.errBytes"], apart := false, laid := [("errors.errorType", laid_errors_errorType), ("plimsoll/field.errWidth", laid_plimsoll_field_errWidth), ("plimsoll/field.errFew", laid_plimsoll_field_errFew), ("plimsoll/field.errGreat", laid_plimsoll_field_errGreat), ("plimsoll/labcode.errNone", laid_plimsoll_labcode_errNone), ("plimsoll/labcode.errFew", laid_plimsoll_labcode_errFew), ("plimsoll/labcode.errBytes", laid_plimsoll_labcode_errBytes)] }
def LabcodeListsSaid : Prop := labcodeListsRow.holds Tryd.pinned (OpenSpec.ofChange labcodeListsSpec)

/-- ITS FALSE NEIGHBOUR: 'it returns false'. Refute it at one input. -/
def labcodeListsWrong : ChangeSpec := { name := "labcodeLists", fn := fun _ => fun
  | [d1, d2] => { results := [.lit (.bool false)], args := [d1, d2] }
  | _ => none }
def LabcodeListsWrongFalsely : Prop := labcodeListsRow.holds Tryd.pinned (OpenSpec.ofChange labcodeListsWrong)

/-- 'plimsolllaw04.LabcodeBack': WHATEVER THE INPUT: true; the input reads as it did. -/
def labcodeBackSpec : ChangeSpec := { name := "labcodeBack", fn := fun _ => fun
  | [d1, d2] => { results := [.lit (.bool true)], args := [d1, d2] }
  | _ => none }
def labcodeBackRow : OpenClaim := { program := "ytfpjbefhfkembaadoor", sum := "d3ec40f21eb66e3bf9dd155d235d8796384b98d26e9d3a978ddfce4c87a9d68c", func := "plimsoll/plimsolllaw04.LabcodeBack", spec := "labcodeBack", inPlace := ["internal/abi.NoEscape", "internal/reflectlite.ValueOf", "(internal/reflectlite.Value).Type", "(internal/reflectlite.Value).IsNil", "internal/reflectlite.TypeOf", "(internal/reflectlite.Value).Elem", "(internal/reflectlite.Value).Set"], unfollowed := true, recurses := true, named := ["plimsoll/labcode.errNone", "plimsoll/field.errWidth", "plimsoll/field.errGreat", "plimsoll/field.errFew", "errors.errorType", "plimsoll/labcode.errFew", "plimsoll/labcode.errBytes"], apart := false, laid := [("errors.errorType", laid_errors_errorType), ("plimsoll/field.errWidth", laid_plimsoll_field_errWidth), ("plimsoll/field.errFew", laid_plimsoll_field_errFew), ("plimsoll/field.errGreat", laid_plimsoll_field_errGreat), ("plimsoll/labcode.errNone", laid_plimsoll_labcode_errNone), ("plimsoll/labcode.errFew", laid_plimsoll_labcode_errFew), ("plimsoll/labcode.errBytes", laid_plimsoll_labcode_errBytes)] }
def LabcodeBackSaid : Prop := labcodeBackRow.holds Tryd.pinned (OpenSpec.ofChange labcodeBackSpec)

/-- ITS FALSE NEIGHBOUR: 'it returns false'. Refute it at one input. -/
def labcodeBackWrong : ChangeSpec := { name := "labcodeBack", fn := fun _ => fun
  | [d1, d2] => { results := [.lit (.bool false)], args := [d1, d2] }
  | _ => none }
def LabcodeBackWrongFalsely : Prop := labcodeBackRow.holds Tryd.pinned (OpenSpec.ofChange labcodeBackWrong)

/-- 'plimsolllaw04.LabcodeRanges': WHATEVER THE INPUT: true; the input reads as it did. -/
def labcodeRangesSpec : ChangeSpec := { name := "labcodeRanges", fn := fun _ => fun
  | [d1, d2, d3] => { results := [.lit (.bool true)], args := [d1, d2, d3] }
  | _ => none }
def labcodeRangesRow : OpenClaim := { program := "ytfpjbefhfkembaadoor", sum := "d3ec40f21eb66e3bf9dd155d235d8796384b98d26e9d3a978ddfce4c87a9d68c", func := "plimsoll/plimsolllaw04.LabcodeRanges", spec := "labcodeRanges", inPlace := ["internal/abi.NoEscape", "internal/reflectlite.ValueOf", "(internal/reflectlite.Value).Type", "(internal/reflectlite.Value).IsNil", "internal/reflectlite.TypeOf", "(internal/reflectlite.Value).Elem", "(internal/reflectlite.Value).Set"], unfollowed := true, recurses := true, named := ["plimsoll/labcode.errNone", "plimsoll/field.errWidth", "plimsoll/field.errGreat", "plimsoll/field.errFew", "errors.errorType", "plimsoll/labcode.errFew", "plimsoll/labcode.errBytes", "plimsoll/labcode.errOrder"], apart := false, laid := [("errors.errorType", laid_errors_errorType), ("plimsoll/field.errWidth", laid_plimsoll_field_errWidth), ("plimsoll/field.errFew", laid_plimsoll_field_errFew), ("plimsoll/field.errGreat", laid_plimsoll_field_errGreat), ("plimsoll/labcode.errNone", laid_plimsoll_labcode_errNone), ("plimsoll/labcode.errFew", laid_plimsoll_labcode_errFew), ("plimsoll/labcode.errBytes", laid_plimsoll_labcode_errBytes), ("plimsoll/labcode.errOrder", laid_plimsoll_labcode_errOrder)] }
def LabcodeRangesSaid : Prop := labcodeRangesRow.holds Tryd.pinned (OpenSpec.ofChange labcodeRangesSpec)

/-- ITS FALSE NEIGHBOUR: 'it returns false'. Refute it at one input. -/
def labcodeRangesWrong : ChangeSpec := { name := "labcodeRanges", fn := fun _ => fun
  | [d1, d2, d3] => { results := [.lit (.bool false)], args := [d1, d2, d3] }
  | _ => none }
def LabcodeRangesWrongFalsely : Prop := labcodeRangesRow.holds Tryd.pinned (OpenSpec.ofChange labcodeRangesWrong)

/-- 'plimsolllaw04.LabcodeMany': WHATEVER THE INPUT: true; the input reads as it did. -/
def labcodeManySpec : ChangeSpec := { name := "labcodeMany", fn := fun _ => fun
  | [d1, d2] => { results := [.lit (.bool true)], args := [d1, d2] }
  | _ => none }
def labcodeManyRow : OpenClaim := { program := "ytfpjbefhfkembaadoor", sum := "d3ec40f21eb66e3bf9dd155d235d8796384b98d26e9d3a978ddfce4c87a9d68c", func := "plimsoll/plimsolllaw04.LabcodeMany", spec := "labcodeMany", inPlace := ["internal/abi.NoEscape", "internal/reflectlite.ValueOf", "(internal/reflectlite.Value).Type", "(internal/reflectlite.Value).IsNil", "internal/reflectlite.TypeOf", "(internal/reflectlite.Value).Elem", "(internal/reflectlite.Value).Set"], unfollowed := true, recurses := true, named := ["plimsoll/labcode.errNone", "plimsoll/field.errWidth", "plimsoll/field.errGreat", "plimsoll/field.errFew", "errors.errorType", "plimsoll/labcode.errFew", "plimsoll/labcode.errBytes"], apart := false, laid := [("errors.errorType", laid_errors_errorType), ("plimsoll/field.errWidth", laid_plimsoll_field_errWidth), ("plimsoll/field.errFew", laid_plimsoll_field_errFew), ("plimsoll/field.errGreat", laid_plimsoll_field_errGreat), ("plimsoll/labcode.errNone", laid_plimsoll_labcode_errNone), ("plimsoll/labcode.errFew", laid_plimsoll_labcode_errFew), ("plimsoll/labcode.errBytes", laid_plimsoll_labcode_errBytes)] }
def LabcodeManySaid : Prop := labcodeManyRow.holds Tryd.pinned (OpenSpec.ofChange labcodeManySpec)

/-- ITS FALSE NEIGHBOUR: 'it returns false'. Refute it at one input. -/
def labcodeManyWrong : ChangeSpec := { name := "labcodeMany", fn := fun _ => fun
  | [d1, d2] => { results := [.lit (.bool false)], args := [d1, d2] }
  | _ => none }
def LabcodeManyWrongFalsely : Prop := labcodeManyRow.holds Tryd.pinned (OpenSpec.ofChange labcodeManyWrong)

/-- 'plimsolllaw04.LabcodeJoins': WHATEVER THE INPUT: true; the input reads as it did. -/
def labcodeJoinsSpec : ChangeSpec := { name := "labcodeJoins", fn := fun _ => fun
  | [d1, d2] => { results := [.lit (.bool true)], args := [d1, d2] }
  | _ => none }
def labcodeJoinsRow : OpenClaim := { program := "ytfpjbefhfkembaadoor", sum := "d3ec40f21eb66e3bf9dd155d235d8796384b98d26e9d3a978ddfce4c87a9d68c", func := "plimsoll/plimsolllaw04.LabcodeJoins", spec := "labcodeJoins", inPlace := ["internal/abi.NoEscape", "internal/reflectlite.ValueOf", "(internal/reflectlite.Value).Type", "(internal/reflectlite.Value).IsNil", "internal/reflectlite.TypeOf", "(internal/reflectlite.Value).Elem", "(internal/reflectlite.Value).Set"], unfollowed := true, recurses := true, named := ["plimsoll/labcode.errNone", "plimsoll/field.errWidth", "plimsoll/field.errGreat", "plimsoll/field.errFew", "errors.errorType", "plimsoll/labcode.errFew", "plimsoll/labcode.errBytes"], apart := false, laid := [("errors.errorType", laid_errors_errorType), ("plimsoll/field.errWidth", laid_plimsoll_field_errWidth), ("plimsoll/field.errFew", laid_plimsoll_field_errFew), ("plimsoll/field.errGreat", laid_plimsoll_field_errGreat), ("plimsoll/labcode.errNone", laid_plimsoll_labcode_errNone), ("plimsoll/labcode.errFew", laid_plimsoll_labcode_errFew), ("plimsoll/labcode.errBytes", laid_plimsoll_labcode_errBytes)] }
def LabcodeJoinsSaid : Prop := labcodeJoinsRow.holds Tryd.pinned (OpenSpec.ofChange labcodeJoinsSpec)

/-- ITS FALSE NEIGHBOUR: 'it returns false'. Refute it at one input. -/
def labcodeJoinsWrong : ChangeSpec := { name := "labcodeJoins", fn := fun _ => fun
  | [d1, d2] => { results := [.lit (.bool false)], args := [d1, d2] }
  | _ => none }
def LabcodeJoinsWrongFalsely : Prop := labcodeJoinsRow.holds Tryd.pinned (OpenSpec.ofChange labcodeJoinsWrong)

/- THE SECOND FORM. 'bulk': how many values and letters a reading holds, each counted each time it is reached (what is shared counts as often as it is met; a slice's spare places count too). A statement '..UptoSaid' is the law's where the arguments, and the package variables that the reading takes, are together of bulk at most 1048576: NARROWER than '..Said'. Prove '..Said' where nothing that the law and all that it calls make is longer than what came in: it says more and counts as full. Else prove '..UptoSaid'. A law counts once. -/
mutual
def uptoBulk {H : Type} : DataW H → Nat
  | .lit (.string bytes) => bytes.length + 1
  | .lit _ => 1
  | .nil => 1
  | .ptr d => uptoBulk d + 1
  | .slice elems spare => uptoBulkAll elems + uptoBulkAll spare + 1
  | .agg parts => uptoBulkAll parts + 1
  | .iface _ d => uptoBulk d + 1
  | .map entries => uptoBulkEntries entries + 1
  | .held _ => 1
def uptoBulkAll {H : Type} : List (DataW H) → Nat
  | [] => 0
  | d :: r => uptoBulk d + uptoBulkAll r
def uptoBulkEntries {H : Type} : List (Lit × DataW H) → Nat
  | [] => 0
  | x :: r => uptoBulkEntry x + uptoBulkEntries r
def uptoBulkEntry {H : Type} : Lit × DataW H → Nat
  | (.string bytes, d) => bytes.length + uptoBulk d + 1
  | (_, d) => uptoBulk d + 1
 end
def uptoSmall : (H : Type) → List (DataW H) → Bool := fun _ ds => decide (uptoBulkAll ds ≤ 1048576)
def OpenSpec.upto (s : _root_.Go.ChangeSpec) : _root_.Go.OpenSpec := { _root_.Go.OpenSpec.ofChange s with cond := some uptoSmall }

/-- 'plimsolllaw04.LabcodeCodes', WHERE WHAT IT READS IS OF BULK AT MOST 1048576: true; the input reads as it did. -/
def labcodeCodesUptoRow : OpenClaim := { program := "ytfpjbefhfkembaadoor", sum := "d3ec40f21eb66e3bf9dd155d235d8796384b98d26e9d3a978ddfce4c87a9d68c", func := "plimsoll/plimsolllaw04.LabcodeCodes", spec := "labcodeCodes", inPlace := ["internal/abi.NoEscape", "internal/reflectlite.ValueOf", "(internal/reflectlite.Value).Type", "(internal/reflectlite.Value).IsNil", "internal/reflectlite.TypeOf", "(internal/reflectlite.Value).Elem", "(internal/reflectlite.Value).Set"], unfollowed := true, recurses := true, named := ["plimsoll/labcode.errNone", "plimsoll/field.errWidth", "plimsoll/field.errGreat", "plimsoll/field.errFew", "errors.errorType", "plimsoll/labcode.errFew", "plimsoll/labcode.errBytes", "plimsoll/labcode.errOrder"], apart := false, laid := [("errors.errorType", laid_errors_errorType), ("plimsoll/field.errWidth", laid_plimsoll_field_errWidth), ("plimsoll/field.errFew", laid_plimsoll_field_errFew), ("plimsoll/field.errGreat", laid_plimsoll_field_errGreat), ("plimsoll/labcode.errNone", laid_plimsoll_labcode_errNone), ("plimsoll/labcode.errFew", laid_plimsoll_labcode_errFew), ("plimsoll/labcode.errBytes", laid_plimsoll_labcode_errBytes), ("plimsoll/labcode.errOrder", laid_plimsoll_labcode_errOrder)], narrowed := true }
def LabcodeCodesUptoSaid : Prop := labcodeCodesUptoRow.holds Tryd.pinned (OpenSpec.upto labcodeCodesSpec)

/-- 'plimsolllaw04.LabcodeLists', WHERE WHAT IT READS IS OF BULK AT MOST 1048576: true; the input reads as it did. -/
def labcodeListsUptoRow : OpenClaim := { program := "ytfpjbefhfkembaadoor", sum := "d3ec40f21eb66e3bf9dd155d235d8796384b98d26e9d3a978ddfce4c87a9d68c", func := "plimsoll/plimsolllaw04.LabcodeLists", spec := "labcodeLists", inPlace := ["internal/abi.NoEscape", "internal/reflectlite.ValueOf", "(internal/reflectlite.Value).Type", "(internal/reflectlite.Value).IsNil", "internal/reflectlite.TypeOf", "(internal/reflectlite.Value).Elem", "(internal/reflectlite.Value).Set"], unfollowed := true, recurses := true, named := ["plimsoll/labcode.errNone", "plimsoll/field.errWidth", "plimsoll/field.errGreat", "plimsoll/field.errFew", "errors.errorType", "plimsoll/labcode.errFew", "plimsoll/labcode.errBytes"], apart := false, laid := [("errors.errorType", laid_errors_errorType), ("plimsoll/field.errWidth", laid_plimsoll_field_errWidth), ("plimsoll/field.errFew", laid_plimsoll_field_errFew), ("plimsoll/field.errGreat", laid_plimsoll_field_errGreat), ("plimsoll/labcode.errNone", laid_plimsoll_labcode_errNone), ("plimsoll/labcode.errFew", laid_plimsoll_labcode_errFew), ("plimsoll/labcode.errBytes", laid_plimsoll_labcode_errBytes)], narrowed := true }
def LabcodeListsUptoSaid : Prop := labcodeListsUptoRow.holds Tryd.pinned (OpenSpec.upto labcodeListsSpec)

/-- 'plimsolllaw04.LabcodeBack', WHERE WHAT IT READS IS OF BULK AT MOST 1048576: true; the input reads as it did. -/
def labcodeBackUptoRow : OpenClaim := { program := "ytfpjbefhfkembaadoor", sum := "d3ec40f21eb66e3bf9dd155d235d8796384b98d26e9d3a978ddfce4c87a9d68c", func := "plimsoll/plimsolllaw04.LabcodeBack", spec := "labcodeBack", inPlace := ["internal/abi.NoEscape", "internal/reflectlite.ValueOf", "(internal/reflectlite.Value).Type", "(internal/reflectlite.Value).IsNil", "internal/reflectlite.TypeOf", "(internal/reflectlite.Value).Elem", "(internal/reflectlite.Value).Set"], unfollowed := true, recurses := true, named := ["plimsoll/labcode.errNone", "plimsoll/field.errWidth", "plimsoll/field.errGreat", "plimsoll/field.errFew", "errors.errorType", "plimsoll/labcode.errFew", "plimsoll/labcode.errBytes"], apart := false, laid := [("errors.errorType", laid_errors_errorType), ("plimsoll/field.errWidth", laid_plimsoll_field_errWidth), ("plimsoll/field.errFew", laid_plimsoll_field_errFew), ("plimsoll/field.errGreat", laid_plimsoll_field_errGreat), ("plimsoll/labcode.errNone", laid_plimsoll_labcode_errNone), ("plimsoll/labcode.errFew", laid_plimsoll_labcode_errFew), ("plimsoll/labcode.errBytes", laid_plimsoll_labcode_errBytes)], narrowed := true }
def LabcodeBackUptoSaid : Prop := labcodeBackUptoRow.holds Tryd.pinned (OpenSpec.upto labcodeBackSpec)

/-- 'plimsolllaw04.LabcodeRanges', WHERE WHAT IT READS IS OF BULK AT MOST 1048576: true; the input reads as it did. -/
def labcodeRangesUptoRow : OpenClaim := { program := "ytfpjbefhfkembaadoor", sum := "d3ec40f21eb66e3bf9dd155d235d8796384b98d26e9d3a978ddfce4c87a9d68c", func := "plimsoll/plimsolllaw04.LabcodeRanges", spec := "labcodeRanges", inPlace := ["internal/abi.NoEscape", "internal/reflectlite.ValueOf", "(internal/reflectlite.Value).Type", "(internal/reflectlite.Value).IsNil", "internal/reflectlite.TypeOf", "(internal/reflectlite.Value).Elem", "(internal/reflectlite.Value).Set"], unfollowed := true, recurses := true, named := ["plimsoll/labcode.errNone", "plimsoll/field.errWidth", "plimsoll/field.errGreat", "plimsoll/field.errFew", "errors.errorType", "plimsoll/labcode.errFew", "plimsoll/labcode.errBytes", "plimsoll/labcode.errOrder"], apart := false, laid := [("errors.errorType", laid_errors_errorType), ("plimsoll/field.errWidth", laid_plimsoll_field_errWidth), ("plimsoll/field.errFew", laid_plimsoll_field_errFew), ("plimsoll/field.errGreat", laid_plimsoll_field_errGreat), ("plimsoll/labcode.errNone", laid_plimsoll_labcode_errNone), ("plimsoll/labcode.errFew", laid_plimsoll_labcode_errFew), ("plimsoll/labcode.errBytes", laid_plimsoll_labcode_errBytes), ("plimsoll/labcode.errOrder", laid_plimsoll_labcode_errOrder)], narrowed := true }
def LabcodeRangesUptoSaid : Prop := labcodeRangesUptoRow.holds Tryd.pinned (OpenSpec.upto labcodeRangesSpec)

/-- 'plimsolllaw04.LabcodeMany', WHERE WHAT IT READS IS OF BULK AT MOST 1048576: true; the input reads as it did. -/
def labcodeManyUptoRow : OpenClaim := { program := "ytfpjbefhfkembaadoor", sum := "d3ec40f21eb66e3bf9dd155d235d8796384b98d26e9d3a978ddfce4c87a9d68c", func := "plimsoll/plimsolllaw04.LabcodeMany", spec := "labcodeMany", inPlace := ["internal/abi.NoEscape", "internal/reflectlite.ValueOf", "(internal/reflectlite.Value).Type", "(internal/reflectlite.Value).IsNil", "internal/reflectlite.TypeOf", "(internal/reflectlite.Value).Elem", "(internal/reflectlite.Value).Set"], unfollowed := true, recurses := true, named := ["plimsoll/labcode.errNone", "plimsoll/field.errWidth", "plimsoll/field.errGreat", "plimsoll/field.errFew", "errors.errorType", "plimsoll/labcode.errFew", "plimsoll/labcode.errBytes"], apart := false, laid := [("errors.errorType", laid_errors_errorType), ("plimsoll/field.errWidth", laid_plimsoll_field_errWidth), ("plimsoll/field.errFew", laid_plimsoll_field_errFew), ("plimsoll/field.errGreat", laid_plimsoll_field_errGreat), ("plimsoll/labcode.errNone", laid_plimsoll_labcode_errNone), ("plimsoll/labcode.errFew", laid_plimsoll_labcode_errFew), ("plimsoll/labcode.errBytes", laid_plimsoll_labcode_errBytes)], narrowed := true }
def LabcodeManyUptoSaid : Prop := labcodeManyUptoRow.holds Tryd.pinned (OpenSpec.upto labcodeManySpec)

/-- 'plimsolllaw04.LabcodeJoins', WHERE WHAT IT READS IS OF BULK AT MOST 1048576: true; the input reads as it did. -/
def labcodeJoinsUptoRow : OpenClaim := { program := "ytfpjbefhfkembaadoor", sum := "d3ec40f21eb66e3bf9dd155d235d8796384b98d26e9d3a978ddfce4c87a9d68c", func := "plimsoll/plimsolllaw04.LabcodeJoins", spec := "labcodeJoins", inPlace := ["internal/abi.NoEscape", "internal/reflectlite.ValueOf", "(internal/reflectlite.Value).Type", "(internal/reflectlite.Value).IsNil", "internal/reflectlite.TypeOf", "(internal/reflectlite.Value).Elem", "(internal/reflectlite.Value).Set"], unfollowed := true, recurses := true, named := ["plimsoll/labcode.errNone", "plimsoll/field.errWidth", "plimsoll/field.errGreat", "plimsoll/field.errFew", "errors.errorType", "plimsoll/labcode.errFew", "plimsoll/labcode.errBytes"], apart := false, laid := [("errors.errorType", laid_errors_errorType), ("plimsoll/field.errWidth", laid_plimsoll_field_errWidth), ("plimsoll/field.errFew", laid_plimsoll_field_errFew), ("plimsoll/field.errGreat", laid_plimsoll_field_errGreat), ("plimsoll/labcode.errNone", laid_plimsoll_labcode_errNone), ("plimsoll/labcode.errFew", laid_plimsoll_labcode_errFew), ("plimsoll/labcode.errBytes", laid_plimsoll_labcode_errBytes)], narrowed := true }
def LabcodeJoinsUptoSaid : Prop := labcodeJoinsUptoRow.holds Tryd.pinned (OpenSpec.upto labcodeJoinsSpec)

end Rows
end Go.Proofs.YtfpjbefhfkembaaDoor
