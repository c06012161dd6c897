/-
  DERIVED. GIVEN WITH THE SEED: THE CARDS: each row of YtbmlkimgjkdaiaaDoorRows.lean that lists a variable, with what it lists TIED to the program's text (the seventh form; the later family's looks); each row that meets fmt, with fmt's text TOLD by the authors' own Lean function (tested against real Go, not proved from fmt's source: count such statements apart). THE CARD IS WHAT COUNTS. Prove the row's statement (the work); the ties are given (YtbmlkimgjkdaiaaDoorTie.lean); close each card by the builder's one call (the guide's Derived/Test/ToyasCard.lean, 'card_holds'). Laid BY PROGRAM, IN A SANDBOX (cutbox-door.mjs). By AI agents, Wed Nov 11 2026. No macro, syntax, notation, axiom, sorry.
-/
import Derived.Test.YtbmlkimgjkdaiaaDoorRows
import GoSem.ClaimSeven
namespace Go.Proofs.YtbmlkimgjkdaiaaDoor
namespace Rows

/-- THE TIED CARD OF 'leadlinelaw16.LineUnits'. -/
def lineUnitsCard : Claim7 := { stood := { row := lineUnitsRow, standIns := [], harness := (true, "55f3f9a361b1cd758a7032495fc7d6f27252e337a8ff44a4c28932a5d2fe6130"), looks := true }, kinds := [], alts := [], laidByText := true, laidKinds := [.handle], laidTests := true, laidLooks := .later }
def LineUnitsCardSaid : Prop := Claim7.holds Tryd.pinned (.plain (OpenSpec.ofChange lineUnitsSpec)) lineUnitsCard

/-- THE TIED CARD OF 'leadlinelaw16.RowSums'. -/
def rowSumsCard : Claim7 := { stood := { row := rowSumsRow, standIns := [], harness := (true, "55f3f9a361b1cd758a7032495fc7d6f27252e337a8ff44a4c28932a5d2fe6130"), looks := true }, kinds := [], alts := [], laidByText := true, laidKinds := [.handle], laidTests := true, laidLooks := .later }
def RowSumsCardSaid : Prop := Claim7.holds Tryd.pinned (.plain (OpenSpec.ofChange rowSumsSpec)) rowSumsCard

/-- THE TIED CARD OF 'leadlinelaw16.LineSame'. -/
def lineSameCard : Claim7 := { stood := { row := lineSameRow, standIns := [], harness := (true, "55f3f9a361b1cd758a7032495fc7d6f27252e337a8ff44a4c28932a5d2fe6130"), looks := true }, kinds := [], alts := [], laidByText := true, laidKinds := [.handle], laidTests := true, laidLooks := .later }
def LineSameCardSaid : Prop := Claim7.holds Tryd.pinned (.plain (OpenSpec.ofChange lineSameSpec)) lineSameCard

/-- THE SECOND FORM's CARD OF 'leadlinelaw16.LineUnits'. -/
def lineUnitsUptoCard : Claim7 := { stood := { row := lineUnitsUptoRow, standIns := [], harness := (true, "55f3f9a361b1cd758a7032495fc7d6f27252e337a8ff44a4c28932a5d2fe6130"), looks := true }, kinds := [], alts := [], laidByText := true, laidKinds := [.handle], laidTests := true, laidLooks := .later }
def LineUnitsUptoCardSaid : Prop := Claim7.holds Tryd.pinned (.plain (OpenSpec.upto lineUnitsSpec)) lineUnitsUptoCard

/-- THE SECOND FORM's CARD OF 'leadlinelaw16.RowSums'. -/
def rowSumsUptoCard : Claim7 := { stood := { row := rowSumsUptoRow, standIns := [], harness := (true, "55f3f9a361b1cd758a7032495fc7d6f27252e337a8ff44a4c28932a5d2fe6130"), looks := true }, kinds := [], alts := [], laidByText := true, laidKinds := [.handle], laidTests := true, laidLooks := .later }
def RowSumsUptoCardSaid : Prop := Claim7.holds Tryd.pinned (.plain (OpenSpec.upto rowSumsSpec)) rowSumsUptoCard

/-- THE SECOND FORM's CARD OF 'leadlinelaw16.LineSame'. -/
def lineSameUptoCard : Claim7 := { stood := { row := lineSameUptoRow, standIns := [], harness := (true, "55f3f9a361b1cd758a7032495fc7d6f27252e337a8ff44a4c28932a5d2fe6130"), looks := true }, kinds := [], alts := [], laidByText := true, laidKinds := [.handle], laidTests := true, laidLooks := .later }
def LineSameUptoCardSaid : Prop := Claim7.holds Tryd.pinned (.plain (OpenSpec.upto lineSameSpec)) lineSameUptoCard
end Rows
end Go.Proofs.YtbmlkimgjkdaiaaDoor
