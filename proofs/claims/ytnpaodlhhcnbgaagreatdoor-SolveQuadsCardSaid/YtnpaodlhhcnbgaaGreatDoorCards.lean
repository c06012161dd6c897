/-
  DERIVED. GIVEN WITH THE SEED: THE CARDS: each row of YtnpaodlhhcnbgaaGreatDoorRows.lean that lists a variable, with what it lists TIED to the program's text (the seventh form; the later family's looks); each row that meets fmt, with fmt's text TOLD by the authors' own Lean function (tested against real Go, not proved from fmt's source: count such statements apart). THE CARD IS WHAT COUNTS. Prove the row's statement (the work); the ties are given (YtnpaodlhhcnbgaaGreatDoorTie.lean); close each card by the builder's one call (the guide's Derived/Test/ToyasCard.lean, 'card_holds'). Laid BY PROGRAM, IN A SANDBOX (cutbox-door.mjs). By AI agents, Wed Nov 11 2026. No macro, syntax, notation, axiom, sorry.
-/
import Derived.Test.YtnpaodlhhcnbgaaGreatDoorRows
import GoSem.ClaimSeven
namespace Go.Proofs.YtnpaodlhhcnbgaaGreatDoor
namespace Rows

/-- THE TIED CARD OF 'leadlinelaw6.DetTells'. -/
def detTellsCard : Claim7 := { stood := { row := detTellsRow, standIns := [], harness := (true, "6982a76b260e2c61c44db547f9b05f1339b40bdf11ad7a40c570612175b66369"), looks := true }, kinds := [], alts := [], laidByText := true, laidKinds := [.handle], laidTests := true, laidLooks := .later }
def DetTellsCardSaid : Prop := Claim7.holds Tryz.pinned (.plain (OpenSpec.ofChange detTellsSpec)) detTellsCard

/-- THE TIED CARD OF 'leadlinelaw6.DetBlocks'. -/
def detBlocksCard : Claim7 := { stood := { row := detBlocksRow, standIns := [], harness := (true, "6982a76b260e2c61c44db547f9b05f1339b40bdf11ad7a40c570612175b66369"), looks := true }, kinds := [], alts := [], laidByText := true, laidKinds := [.handle], laidTests := true, laidLooks := .later }
def DetBlocksCardSaid : Prop := Claim7.holds Tryz.pinned (.plain (OpenSpec.ofChange detBlocksSpec)) detBlocksCard

/-- THE TIED CARD OF 'leadlinelaw7.SolveTells'. -/
def solveTellsCard : Claim7 := { stood := { row := solveTellsRow, standIns := [], harness := (true, "6982a76b260e2c61c44db547f9b05f1339b40bdf11ad7a40c570612175b66369"), looks := true }, kinds := [], alts := [], laidByText := true, laidKinds := [.handle], laidTests := true, laidLooks := .later }
def SolveTellsCardSaid : Prop := Claim7.holds Tryz.pinned (.plain (OpenSpec.ofChange solveTellsSpec)) solveTellsCard

/-- THE TIED CARD OF 'leadlinelaw7.SolveQuads'. -/
def solveQuadsCard : Claim7 := { stood := { row := solveQuadsRow, standIns := [], harness := (true, "6982a76b260e2c61c44db547f9b05f1339b40bdf11ad7a40c570612175b66369"), looks := true }, kinds := [], alts := [], laidByText := true, laidKinds := [.handle], laidTests := true, laidLooks := .later }
def SolveQuadsCardSaid : Prop := Claim7.holds Tryz.pinned (.plain (OpenSpec.ofChange solveQuadsSpec)) solveQuadsCard

/-- THE SECOND FORM's CARD OF 'leadlinelaw6.DetTells'. -/
def detTellsUptoCard : Claim7 := { stood := { row := detTellsUptoRow, standIns := [], harness := (true, "6982a76b260e2c61c44db547f9b05f1339b40bdf11ad7a40c570612175b66369"), looks := true }, kinds := [], alts := [], laidByText := true, laidKinds := [.handle], laidTests := true, laidLooks := .later }
def DetTellsUptoCardSaid : Prop := Claim7.holds Tryz.pinned (.plain (OpenSpec.upto detTellsSpec)) detTellsUptoCard

/-- THE SECOND FORM's CARD OF 'leadlinelaw6.DetBlocks'. -/
def detBlocksUptoCard : Claim7 := { stood := { row := detBlocksUptoRow, standIns := [], harness := (true, "6982a76b260e2c61c44db547f9b05f1339b40bdf11ad7a40c570612175b66369"), looks := true }, kinds := [], alts := [], laidByText := true, laidKinds := [.handle], laidTests := true, laidLooks := .later }
def DetBlocksUptoCardSaid : Prop := Claim7.holds Tryz.pinned (.plain (OpenSpec.upto detBlocksSpec)) detBlocksUptoCard

/-- THE SECOND FORM's CARD OF 'leadlinelaw7.SolveTells'. -/
def solveTellsUptoCard : Claim7 := { stood := { row := solveTellsUptoRow, standIns := [], harness := (true, "6982a76b260e2c61c44db547f9b05f1339b40bdf11ad7a40c570612175b66369"), looks := true }, kinds := [], alts := [], laidByText := true, laidKinds := [.handle], laidTests := true, laidLooks := .later }
def SolveTellsUptoCardSaid : Prop := Claim7.holds Tryz.pinned (.plain (OpenSpec.upto solveTellsSpec)) solveTellsUptoCard

/-- THE SECOND FORM's CARD OF 'leadlinelaw7.SolveQuads'. -/
def solveQuadsUptoCard : Claim7 := { stood := { row := solveQuadsUptoRow, standIns := [], harness := (true, "6982a76b260e2c61c44db547f9b05f1339b40bdf11ad7a40c570612175b66369"), looks := true }, kinds := [], alts := [], laidByText := true, laidKinds := [.handle], laidTests := true, laidLooks := .later }
def SolveQuadsUptoCardSaid : Prop := Claim7.holds Tryz.pinned (.plain (OpenSpec.upto solveQuadsSpec)) solveQuadsUptoCard
end Rows
end Go.Proofs.YtnpaodlhhcnbgaaGreatDoor
