/-
  DERIVED. GIVEN WITH THE SEED: THE PROGRAM's TIES (one call each: nine closed facts by the kernel) AND EACH ROW's TIE, after the 31st guide's Derived/Test/Toyas{Tie, Card}.lean. No idea stands in it: it is a product of the set-up. Laid BY PROGRAM, IN A SANDBOX (cutbox-door.mjs). By AI agents, Wed Nov 11 2026. No macro, syntax, notation, axiom, sorry.
-/
import Derived.Test.YtfpjbefhfkembaaDoorRows
import Derived.LaidByTextLater
import Derived.SevenTiedAt
import Derived.LaidSub
import Derived.LaidOnce
namespace Go.Proofs.YtfpjbefhfkembaaDoor
open Go
set_option maxRecDepth 100000
theorem seatTie1 : Tryd.prog.laidByTextLater [("errors.errorType", Rows.laid_errors_errorType), ("plimsoll/field.errWidth", Rows.laid_plimsoll_field_errWidth), ("plimsoll/field.errFew", Rows.laid_plimsoll_field_errFew), ("plimsoll/field.errGreat", Rows.laid_plimsoll_field_errGreat), ("plimsoll/labcode.errNone", Rows.laid_plimsoll_labcode_errNone), ("plimsoll/labcode.errFew", Rows.laid_plimsoll_labcode_errFew), ("plimsoll/labcode.errBytes", Rows.laid_plimsoll_labcode_errBytes), ("plimsoll/labcode.errOrder", Rows.laid_plimsoll_labcode_errOrder)] [.handle, .sentinel, .sentinel, .sentinel, .sentinel, .sentinel, .sentinel, .sentinel] true :=
  Program.laidByTextLater_by_one 149 8 2 (by kernel_rfl) (by kernel_rfl) (by kernel_rfl) (by kernel_rfl) (by kernel_rfl) (by kernel_rfl) (fun _ _ => by kernel_rfl)
theorem noOwnUnsafe : Tryd.pinned.checked.prog.headLifts.contains "ownunsafe" = false := by kernel_rfl
theorem tie : Tryd.prog.laidByTextLater [("errors.errorType", Rows.laid_errors_errorType), ("plimsoll/field.errWidth", Rows.laid_plimsoll_field_errWidth), ("plimsoll/field.errFew", Rows.laid_plimsoll_field_errFew), ("plimsoll/field.errGreat", Rows.laid_plimsoll_field_errGreat), ("plimsoll/labcode.errNone", Rows.laid_plimsoll_labcode_errNone), ("plimsoll/labcode.errFew", Rows.laid_plimsoll_labcode_errFew), ("plimsoll/labcode.errBytes", Rows.laid_plimsoll_labcode_errBytes), ("plimsoll/labcode.errOrder", Rows.laid_plimsoll_labcode_errOrder)] [.handle, .sentinel, .sentinel, .sentinel, .sentinel, .sentinel, .sentinel, .sentinel] true :=
  Program.laidByTextLater.sub seatTie1 ["errors.errorType", "plimsoll/field.errWidth", "plimsoll/field.errFew", "plimsoll/field.errGreat", "plimsoll/labcode.errNone", "plimsoll/labcode.errFew", "plimsoll/labcode.errBytes", "plimsoll/labcode.errOrder"] (by kernel_rfl) (by kernel_rfl)
theorem labcodeCodes_row_tie : Rows.labcodeCodesRow.laidByTextAt .later Tryd.pinned [.handle, .sentinel, .sentinel, .sentinel, .sentinel, .sentinel, .sentinel, .sentinel] true :=
  OpenClaim.laidByTextAt_later rfl rfl tie noOwnUnsafe
theorem labcodeRanges_row_tie : Rows.labcodeRangesRow.laidByTextAt .later Tryd.pinned [.handle, .sentinel, .sentinel, .sentinel, .sentinel, .sentinel, .sentinel, .sentinel] true :=
  OpenClaim.laidByTextAt_later rfl rfl tie noOwnUnsafe
theorem tie2 : Tryd.prog.laidByTextLater [("errors.errorType", Rows.laid_errors_errorType), ("plimsoll/field.errWidth", Rows.laid_plimsoll_field_errWidth), ("plimsoll/field.errFew", Rows.laid_plimsoll_field_errFew), ("plimsoll/field.errGreat", Rows.laid_plimsoll_field_errGreat), ("plimsoll/labcode.errNone", Rows.laid_plimsoll_labcode_errNone), ("plimsoll/labcode.errFew", Rows.laid_plimsoll_labcode_errFew), ("plimsoll/labcode.errBytes", Rows.laid_plimsoll_labcode_errBytes)] [.handle, .sentinel, .sentinel, .sentinel, .sentinel, .sentinel, .sentinel] true :=
  Program.laidByTextLater.sub seatTie1 ["errors.errorType", "plimsoll/field.errWidth", "plimsoll/field.errFew", "plimsoll/field.errGreat", "plimsoll/labcode.errNone", "plimsoll/labcode.errFew", "plimsoll/labcode.errBytes"] (by kernel_rfl) (by kernel_rfl)
theorem labcodeLists_row_tie : Rows.labcodeListsRow.laidByTextAt .later Tryd.pinned [.handle, .sentinel, .sentinel, .sentinel, .sentinel, .sentinel, .sentinel] true :=
  OpenClaim.laidByTextAt_later rfl rfl tie2 noOwnUnsafe
theorem labcodeBack_row_tie : Rows.labcodeBackRow.laidByTextAt .later Tryd.pinned [.handle, .sentinel, .sentinel, .sentinel, .sentinel, .sentinel, .sentinel] true :=
  OpenClaim.laidByTextAt_later rfl rfl tie2 noOwnUnsafe
theorem labcodeMany_row_tie : Rows.labcodeManyRow.laidByTextAt .later Tryd.pinned [.handle, .sentinel, .sentinel, .sentinel, .sentinel, .sentinel, .sentinel] true :=
  OpenClaim.laidByTextAt_later rfl rfl tie2 noOwnUnsafe
theorem labcodeJoins_row_tie : Rows.labcodeJoinsRow.laidByTextAt .later Tryd.pinned [.handle, .sentinel, .sentinel, .sentinel, .sentinel, .sentinel, .sentinel] true :=
  OpenClaim.laidByTextAt_later rfl rfl tie2 noOwnUnsafe
theorem labcodeCodesUpto_row_tie : Rows.labcodeCodesUptoRow.laidByTextAt .later Tryd.pinned [.handle, .sentinel, .sentinel, .sentinel, .sentinel, .sentinel, .sentinel, .sentinel] true :=
  OpenClaim.laidByTextAt_later rfl rfl tie noOwnUnsafe
theorem labcodeListsUpto_row_tie : Rows.labcodeListsUptoRow.laidByTextAt .later Tryd.pinned [.handle, .sentinel, .sentinel, .sentinel, .sentinel, .sentinel, .sentinel] true :=
  OpenClaim.laidByTextAt_later rfl rfl tie2 noOwnUnsafe
theorem labcodeBackUpto_row_tie : Rows.labcodeBackUptoRow.laidByTextAt .later Tryd.pinned [.handle, .sentinel, .sentinel, .sentinel, .sentinel, .sentinel, .sentinel] true :=
  OpenClaim.laidByTextAt_later rfl rfl tie2 noOwnUnsafe
theorem labcodeRangesUpto_row_tie : Rows.labcodeRangesUptoRow.laidByTextAt .later Tryd.pinned [.handle, .sentinel, .sentinel, .sentinel, .sentinel, .sentinel, .sentinel, .sentinel] true :=
  OpenClaim.laidByTextAt_later rfl rfl tie noOwnUnsafe
theorem labcodeManyUpto_row_tie : Rows.labcodeManyUptoRow.laidByTextAt .later Tryd.pinned [.handle, .sentinel, .sentinel, .sentinel, .sentinel, .sentinel, .sentinel] true :=
  OpenClaim.laidByTextAt_later rfl rfl tie2 noOwnUnsafe
theorem labcodeJoinsUpto_row_tie : Rows.labcodeJoinsUptoRow.laidByTextAt .later Tryd.pinned [.handle, .sentinel, .sentinel, .sentinel, .sentinel, .sentinel, .sentinel] true :=
  OpenClaim.laidByTextAt_later rfl rfl tie2 noOwnUnsafe
end Go.Proofs.YtfpjbefhfkembaaDoor
