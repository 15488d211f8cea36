/-
  NARROWER THAN 'FOR EVERY INPUT', by the rows' own cells (each row's printed sentence says how): CatsMakes: laid · CatsCompares: laid · CatsBack: laid · CatsSteps: laid · CatsParts: laid · CatsCounts: laid.
  DERIVED. THE GIVEN ROWS OF THIS SEAT. 6 by the template 'for every input the law returns true; each argument reads behind the call as it read before'; 0 by the template 'total and deterministic' (their statements: YtngacmkgnpgomaaDoorTotals.lean).
  GIVEN WITH THE SEED: the statements are not yours to turn. If you find one false, say at which input.
  Laid BY PROGRAM, IN A SANDBOX (cutbox-rows.mjs): the forced cells as the released guide's own fill.sh prints them over the translation 3dacf32caf7d2edc… (all of the seat's roots in one cut). By AI agents, Wed Nov 11 2026. No macro, syntax, notation, axiom, sorry.
-/
import Derived.Test.YtngacmkgnpgomaaDoorChecked
import GoSem.Claim
import GoSem.ClaimJoined
import GoSem.ClaimMapViews
import Derived.JoinedTies
import Derived.KernelRfl
namespace Go.Proofs.YtngacmkgnpgomaaDoor
/- THE CELL 'sum', in the pinned program and in every row, IS THE sha256 OF THE DUMP (.gsa) THAT YtngacmkgnpgomaaDoorProg.lean LOADS. Nothing in Lean hashes anything: it is a label: what it is worth is what the hold of that sum in a sandbox is worth. -/
noncomputable def Tryd.pinned : Pinned := { name := "ytngacmkgnpgomaadoor", sum := "3dacf32caf7d2edc8559d92103efcbd869f8cb672871bb8c20d9f3655845023b", checked := Tryd.checked }
namespace Rows
def none {H : Type} : Left H := { results := [], args := [] }

/- WHAT THE LISTED PACKAGE-LEVEL VARIABLES READ AS WHEN THE CALL BEGINS. Each datum BY PROGRAM (the guide's laid-datum.mjs) off the statement by which the dump's own 'gosem.cut.vars' lays the variable. In a bare row this is a premise. The card (YtngacmkgnpgomaaDoorCards.lean) ties it to the program's text. -/
def laid_plimsoll_cats_errNone {H : Type} : DataW H := .iface "*errors.errorString" (.ptr (.agg [.lit (.string [110, 111, 32, 99, 97, 116, 101, 103, 111, 114, 121])]))

/-- 'plimsolllaw01.CatsMakes': WHATEVER THE INPUT: true; the input reads as it did. -/
def catsMakesSpec : ChangeSpec := { name := "catsMakes", fn := fun _ => fun
  | [d1, d2, d3] => { results := [.lit (.bool true)], args := [d1, d2, d3] }
  | _ => none }
def catsMakesRow : OpenClaim := { program := "ytngacmkgnpgomaadoor", sum := "3dacf32caf7d2edc8559d92103efcbd869f8cb672871bb8c20d9f3655845023b", func := "plimsoll/plimsolllaw01.CatsMakes", spec := "catsMakes", inPlace := ["internal/reflectlite.TypeOf"], unfollowed := true, recurses := true, named := ["plimsoll/cats.errNone"], apart := false, laid := [("plimsoll/cats.errNone", laid_plimsoll_cats_errNone)] }
def CatsMakesSaid : Prop := catsMakesRow.holds Tryd.pinned (OpenSpec.ofChange catsMakesSpec)

/-- ITS FALSE NEIGHBOUR: 'it returns false'. Refute it at one input. -/
def catsMakesWrong : ChangeSpec := { name := "catsMakes", fn := fun _ => fun
  | [d1, d2, d3] => { results := [.lit (.bool false)], args := [d1, d2, d3] }
  | _ => none }
def CatsMakesWrongFalsely : Prop := catsMakesRow.holds Tryd.pinned (OpenSpec.ofChange catsMakesWrong)

/-- 'plimsolllaw01.CatsCompares': WHATEVER THE INPUT: true; the input reads as it did. -/
def catsComparesSpec : ChangeSpec := { name := "catsCompares", fn := fun _ => fun
  | [d1, d2] => { results := [.lit (.bool true)], args := [d1, d2] }
  | _ => none }
def catsComparesRow : OpenClaim := { program := "ytngacmkgnpgomaadoor", sum := "3dacf32caf7d2edc8559d92103efcbd869f8cb672871bb8c20d9f3655845023b", func := "plimsoll/plimsolllaw01.CatsCompares", spec := "catsCompares", inPlace := ["internal/reflectlite.TypeOf"], unfollowed := true, recurses := true, named := ["plimsoll/cats.errNone"], apart := false, laid := [("plimsoll/cats.errNone", laid_plimsoll_cats_errNone)] }
def CatsComparesSaid : Prop := catsComparesRow.holds Tryd.pinned (OpenSpec.ofChange catsComparesSpec)

/-- ITS FALSE NEIGHBOUR: 'it returns false'. Refute it at one input. -/
def catsComparesWrong : ChangeSpec := { name := "catsCompares", fn := fun _ => fun
  | [d1, d2] => { results := [.lit (.bool false)], args := [d1, d2] }
  | _ => none }
def CatsComparesWrongFalsely : Prop := catsComparesRow.holds Tryd.pinned (OpenSpec.ofChange catsComparesWrong)

/-- 'plimsolllaw01.CatsBack': WHATEVER THE INPUT: true; the input reads as it did. -/
def catsBackSpec : ChangeSpec := { name := "catsBack", fn := fun _ => fun
  | [d1, d2] => { results := [.lit (.bool true)], args := [d1, d2] }
  | _ => none }
def catsBackRow : OpenClaim := { program := "ytngacmkgnpgomaadoor", sum := "3dacf32caf7d2edc8559d92103efcbd869f8cb672871bb8c20d9f3655845023b", func := "plimsoll/plimsolllaw01.CatsBack", spec := "catsBack", inPlace := ["internal/reflectlite.TypeOf"], unfollowed := true, recurses := true, named := ["plimsoll/cats.errNone"], apart := false, laid := [("plimsoll/cats.errNone", laid_plimsoll_cats_errNone)] }
def CatsBackSaid : Prop := catsBackRow.holds Tryd.pinned (OpenSpec.ofChange catsBackSpec)

/-- ITS FALSE NEIGHBOUR: 'it returns false'. Refute it at one input. -/
def catsBackWrong : ChangeSpec := { name := "catsBack", fn := fun _ => fun
  | [d1, d2] => { results := [.lit (.bool false)], args := [d1, d2] }
  | _ => none }
def CatsBackWrongFalsely : Prop := catsBackRow.holds Tryd.pinned (OpenSpec.ofChange catsBackWrong)

/-- 'plimsolllaw01.CatsSteps': WHATEVER THE INPUT: true; the input reads as it did. -/
def catsStepsSpec : ChangeSpec := { name := "catsSteps", fn := fun _ => fun
  | [d1, d2, d3] => { results := [.lit (.bool true)], args := [d1, d2, d3] }
  | _ => none }
def catsStepsRow : OpenClaim := { program := "ytngacmkgnpgomaadoor", sum := "3dacf32caf7d2edc8559d92103efcbd869f8cb672871bb8c20d9f3655845023b", func := "plimsoll/plimsolllaw01.CatsSteps", spec := "catsSteps", inPlace := ["internal/reflectlite.TypeOf"], unfollowed := true, recurses := true, named := ["plimsoll/cats.errNone"], apart := false, laid := [("plimsoll/cats.errNone", laid_plimsoll_cats_errNone)] }
def CatsStepsSaid : Prop := catsStepsRow.holds Tryd.pinned (OpenSpec.ofChange catsStepsSpec)

/-- ITS FALSE NEIGHBOUR: 'it returns false'. Refute it at one input. -/
def catsStepsWrong : ChangeSpec := { name := "catsSteps", fn := fun _ => fun
  | [d1, d2, d3] => { results := [.lit (.bool false)], args := [d1, d2, d3] }
  | _ => none }
def CatsStepsWrongFalsely : Prop := catsStepsRow.holds Tryd.pinned (OpenSpec.ofChange catsStepsWrong)

/-- 'plimsolllaw01.CatsParts': WHATEVER THE INPUT: true; the input reads as it did. -/
def catsPartsSpec : ChangeSpec := { name := "catsParts", fn := fun _ => fun
  | [d1, d2] => { results := [.lit (.bool true)], args := [d1, d2] }
  | _ => none }
def catsPartsRow : OpenClaim := { program := "ytngacmkgnpgomaadoor", sum := "3dacf32caf7d2edc8559d92103efcbd869f8cb672871bb8c20d9f3655845023b", func := "plimsoll/plimsolllaw01.CatsParts", spec := "catsParts", inPlace := ["internal/reflectlite.TypeOf"], unfollowed := true, recurses := true, named := ["plimsoll/cats.errNone"], apart := false, laid := [("plimsoll/cats.errNone", laid_plimsoll_cats_errNone)] }
def CatsPartsSaid : Prop := catsPartsRow.holds Tryd.pinned (OpenSpec.ofChange catsPartsSpec)

/-- ITS FALSE NEIGHBOUR: 'it returns false'. Refute it at one input. -/
def catsPartsWrong : ChangeSpec := { name := "catsParts", fn := fun _ => fun
  | [d1, d2] => { results := [.lit (.bool false)], args := [d1, d2] }
  | _ => none }
def CatsPartsWrongFalsely : Prop := catsPartsRow.holds Tryd.pinned (OpenSpec.ofChange catsPartsWrong)

/-- 'plimsolllaw01.CatsCounts': WHATEVER THE INPUT: true; the input reads as it did. -/
def catsCountsSpec : ChangeSpec := { name := "catsCounts", fn := fun _ => fun
  | [d1, d2] => { results := [.lit (.bool true)], args := [d1, d2] }
  | _ => none }
def catsCountsRow : OpenClaim := { program := "ytngacmkgnpgomaadoor", sum := "3dacf32caf7d2edc8559d92103efcbd869f8cb672871bb8c20d9f3655845023b", func := "plimsoll/plimsolllaw01.CatsCounts", spec := "catsCounts", inPlace := ["internal/reflectlite.TypeOf"], unfollowed := true, recurses := true, named := ["plimsoll/cats.errNone"], apart := false, laid := [("plimsoll/cats.errNone", laid_plimsoll_cats_errNone)] }
def CatsCountsSaid : Prop := catsCountsRow.holds Tryd.pinned (OpenSpec.ofChange catsCountsSpec)

/-- ITS FALSE NEIGHBOUR: 'it returns false'. Refute it at one input. -/
def catsCountsWrong : ChangeSpec := { name := "catsCounts", fn := fun _ => fun
  | [d1, d2] => { results := [.lit (.bool false)], args := [d1, d2] }
  | _ => none }
def CatsCountsWrongFalsely : Prop := catsCountsRow.holds Tryd.pinned (OpenSpec.ofChange catsCountsWrong)

/- THE SECOND FORM. 'bulk': how many values and letters a reading holds, each counted each time it is reached (what is shared counts as often as it is met; a slice's spare places count too). A statement '..UptoSaid' is the law's where the arguments, and the package variables that the reading takes, are together of bulk at most 1048576: NARROWER than '..Said'. Prove '..Said' where nothing that the law and all that it calls make is longer than what came in: it says more and counts as full. Else prove '..UptoSaid'. A law counts once. -/
mutual
def uptoBulk {H : Type} : DataW H → Nat
  | .lit (.string bytes) => bytes.length + 1
  | .lit _ => 1
  | .nil => 1
  | .ptr d => uptoBulk d + 1
  | .slice elems spare => uptoBulkAll elems + uptoBulkAll spare + 1
  | .agg parts => uptoBulkAll parts + 1
  | .iface _ d => uptoBulk d + 1
  | .map entries => uptoBulkEntries entries + 1
  | .held _ => 1
def uptoBulkAll {H : Type} : List (DataW H) → Nat
  | [] => 0
  | d :: r => uptoBulk d + uptoBulkAll r
def uptoBulkEntries {H : Type} : List (Lit × DataW H) → Nat
  | [] => 0
  | x :: r => uptoBulkEntry x + uptoBulkEntries r
def uptoBulkEntry {H : Type} : Lit × DataW H → Nat
  | (.string bytes, d) => bytes.length + uptoBulk d + 1
  | (_, d) => uptoBulk d + 1
 end
def uptoSmall : (H : Type) → List (DataW H) → Bool := fun _ ds => decide (uptoBulkAll ds ≤ 1048576)
def OpenSpec.upto (s : _root_.Go.ChangeSpec) : _root_.Go.OpenSpec := { _root_.Go.OpenSpec.ofChange s with cond := some uptoSmall }

/-- 'plimsolllaw01.CatsMakes', WHERE WHAT IT READS IS OF BULK AT MOST 1048576: true; the input reads as it did. -/
def catsMakesUptoRow : OpenClaim := { program := "ytngacmkgnpgomaadoor", sum := "3dacf32caf7d2edc8559d92103efcbd869f8cb672871bb8c20d9f3655845023b", func := "plimsoll/plimsolllaw01.CatsMakes", spec := "catsMakes", inPlace := ["internal/reflectlite.TypeOf"], unfollowed := true, recurses := true, named := ["plimsoll/cats.errNone"], apart := false, laid := [("plimsoll/cats.errNone", laid_plimsoll_cats_errNone)], narrowed := true }
def CatsMakesUptoSaid : Prop := catsMakesUptoRow.holds Tryd.pinned (OpenSpec.upto catsMakesSpec)

/-- 'plimsolllaw01.CatsCompares', WHERE WHAT IT READS IS OF BULK AT MOST 1048576: true; the input reads as it did. -/
def catsComparesUptoRow : OpenClaim := { program := "ytngacmkgnpgomaadoor", sum := "3dacf32caf7d2edc8559d92103efcbd869f8cb672871bb8c20d9f3655845023b", func := "plimsoll/plimsolllaw01.CatsCompares", spec := "catsCompares", inPlace := ["internal/reflectlite.TypeOf"], unfollowed := true, recurses := true, named := ["plimsoll/cats.errNone"], apart := false, laid := [("plimsoll/cats.errNone", laid_plimsoll_cats_errNone)], narrowed := true }
def CatsComparesUptoSaid : Prop := catsComparesUptoRow.holds Tryd.pinned (OpenSpec.upto catsComparesSpec)

/-- 'plimsolllaw01.CatsBack', WHERE WHAT IT READS IS OF BULK AT MOST 1048576: true; the input reads as it did. -/
def catsBackUptoRow : OpenClaim := { program := "ytngacmkgnpgomaadoor", sum := "3dacf32caf7d2edc8559d92103efcbd869f8cb672871bb8c20d9f3655845023b", func := "plimsoll/plimsolllaw01.CatsBack", spec := "catsBack", inPlace := ["internal/reflectlite.TypeOf"], unfollowed := true, recurses := true, named := ["plimsoll/cats.errNone"], apart := false, laid := [("plimsoll/cats.errNone", laid_plimsoll_cats_errNone)], narrowed := true }
def CatsBackUptoSaid : Prop := catsBackUptoRow.holds Tryd.pinned (OpenSpec.upto catsBackSpec)

/-- 'plimsolllaw01.CatsSteps', WHERE WHAT IT READS IS OF BULK AT MOST 1048576: true; the input reads as it did. -/
def catsStepsUptoRow : OpenClaim := { program := "ytngacmkgnpgomaadoor", sum := "3dacf32caf7d2edc8559d92103efcbd869f8cb672871bb8c20d9f3655845023b", func := "plimsoll/plimsolllaw01.CatsSteps", spec := "catsSteps", inPlace := ["internal/reflectlite.TypeOf"], unfollowed := true, recurses := true, named := ["plimsoll/cats.errNone"], apart := false, laid := [("plimsoll/cats.errNone", laid_plimsoll_cats_errNone)], narrowed := true }
def CatsStepsUptoSaid : Prop := catsStepsUptoRow.holds Tryd.pinned (OpenSpec.upto catsStepsSpec)

/-- 'plimsolllaw01.CatsParts', WHERE WHAT IT READS IS OF BULK AT MOST 1048576: true; the input reads as it did. -/
def catsPartsUptoRow : OpenClaim := { program := "ytngacmkgnpgomaadoor", sum := "3dacf32caf7d2edc8559d92103efcbd869f8cb672871bb8c20d9f3655845023b", func := "plimsoll/plimsolllaw01.CatsParts", spec := "catsParts", inPlace := ["internal/reflectlite.TypeOf"], unfollowed := true, recurses := true, named := ["plimsoll/cats.errNone"], apart := false, laid := [("plimsoll/cats.errNone", laid_plimsoll_cats_errNone)], narrowed := true }
def CatsPartsUptoSaid : Prop := catsPartsUptoRow.holds Tryd.pinned (OpenSpec.upto catsPartsSpec)

/-- 'plimsolllaw01.CatsCounts', WHERE WHAT IT READS IS OF BULK AT MOST 1048576: true; the input reads as it did. -/
def catsCountsUptoRow : OpenClaim := { program := "ytngacmkgnpgomaadoor", sum := "3dacf32caf7d2edc8559d92103efcbd869f8cb672871bb8c20d9f3655845023b", func := "plimsoll/plimsolllaw01.CatsCounts", spec := "catsCounts", inPlace := ["internal/reflectlite.TypeOf"], unfollowed := true, recurses := true, named := ["plimsoll/cats.errNone"], apart := false, laid := [("plimsoll/cats.errNone", laid_plimsoll_cats_errNone)], narrowed := true }
def CatsCountsUptoSaid : Prop := catsCountsUptoRow.holds Tryd.pinned (OpenSpec.upto catsCountsSpec)

end Rows
end Go.Proofs.YtngacmkgnpgomaaDoor
