/-
  DERIVED. GIVEN WITH THE SEED: THE CARDS: each row of YtcjokjipgeaikaaGreatDoorRows.lean that lists a variable, with what it lists TIED to the program's text (the seventh form; the later family's looks); each row that meets fmt, with fmt's text TOLD by the authors' own Lean function (tested against real Go, not proved from fmt's source: count such statements apart). THE CARD IS WHAT COUNTS. Prove the row's statement (the work); the ties are given (YtcjokjipgeaikaaGreatDoorTie.lean); close each card by the builder's one call (the guide's Derived/Test/ToyasCard.lean, 'card_holds'). Laid BY PROGRAM, IN A SANDBOX (cutbox-door.mjs). By AI agents, Wed Nov 11 2026. No macro, syntax, notation, axiom, sorry.
-/
import Derived.Test.YtcjokjipgeaikaaGreatDoorRows
import GoSem.ClaimSeven
namespace Go.Proofs.YtcjokjipgeaikaaGreatDoor
namespace Rows

/-- THE TIED CARD OF 'plimsolllaw05.LabtextParses'. -/
def labtextParsesCard : Claim7 := { stood := { row := labtextParsesRow, standIns := [], harness := (true, "d6e38ec192624b80089ea315e383204b1007d9dca6ea2e07997071b5544f7e4b"), looks := true }, kinds := [], alts := [], laidByText := true, laidKinds := [.data, .data, .data, .handle, .sentinel], laidTests := true, laidLooks := .later }
def LabtextParsesCardSaid : Prop := Claim7.holds Tryz.pinned (.plain (OpenSpec.ofChange labtextParsesSpec)) labtextParsesCard

/-- THE SECOND FORM's CARD OF 'plimsolllaw05.LabtextParses'. -/
def labtextParsesUptoCard : Claim7 := { stood := { row := labtextParsesUptoRow, standIns := [], harness := (true, "d6e38ec192624b80089ea315e383204b1007d9dca6ea2e07997071b5544f7e4b"), looks := true }, kinds := [], alts := [], laidByText := true, laidKinds := [.data, .data, .data, .handle, .sentinel], laidTests := true, laidLooks := .later }
def LabtextParsesUptoCardSaid : Prop := Claim7.holds Tryz.pinned (.plain (OpenSpec.upto labtextParsesSpec)) labtextParsesUptoCard
end Rows
end Go.Proofs.YtcjokjipgeaikaaGreatDoor
