/-
  DERIVED. GIVEN WITH THE SEED: THE CARDS: each row of YtdpgpchcgmmklaaGreatDoorRows.lean that lists a variable, with what it lists TIED to the program's text (the seventh form; the later family's looks); each row that meets fmt, with fmt's text TOLD by the authors' own Lean function (tested against real Go, not proved from fmt's source: count such statements apart). THE CARD IS WHAT COUNTS. Prove the row's statement (the work); the ties are given (YtdpgpchcgmmklaaGreatDoorTie.lean); close each card by the builder's one call (the guide's Derived/Test/ToyasCard.lean, 'card_holds'). Laid BY PROGRAM, IN A SANDBOX (cutbox-door.mjs). By AI agents, Wed Nov 11 2026. No macro, syntax, notation, axiom, sorry.
-/
import Derived.Test.YtdpgpchcgmmklaaGreatDoorRows
import GoSem.ClaimSeven
namespace Go.Proofs.YtdpgpchcgmmklaaGreatDoor
namespace Rows

/-- THE TIED CARD OF 'leadlinelaw9.BoundTells'. -/
def boundTellsCard : Claim7 := { stood := { row := boundTellsRow, standIns := [], harness := (true, "aca95dcdea181ccca4444d2e60a39c124be1c340164a9a3ea841661dfa93b09b"), looks := true }, kinds := [], alts := [], laidByText := true, laidKinds := [.handle], laidTests := true, laidLooks := .later }
def BoundTellsCardSaid : Prop := Claim7.holds Tryz.pinned (.plain (OpenSpec.ofChange boundTellsSpec)) boundTellsCard

/-- THE TIED CARD OF 'leadlinelaw9.BoundBelow'. -/
def boundBelowCard : Claim7 := { stood := { row := boundBelowRow, standIns := [], harness := (true, "aca95dcdea181ccca4444d2e60a39c124be1c340164a9a3ea841661dfa93b09b"), looks := true }, kinds := [], alts := [], laidByText := true, laidKinds := [.handle], laidTests := true, laidLooks := .later }
def BoundBelowCardSaid : Prop := Claim7.holds Tryz.pinned (.plain (OpenSpec.ofChange boundBelowSpec)) boundBelowCard

/-- THE TIED CARD OF 'leadlinelaw9.BoundLine'. -/
def boundLineCard : Claim7 := { stood := { row := boundLineRow, standIns := [], harness := (true, "aca95dcdea181ccca4444d2e60a39c124be1c340164a9a3ea841661dfa93b09b"), looks := true }, kinds := [], alts := [], laidByText := true, laidKinds := [.handle], laidTests := true, laidLooks := .later }
def BoundLineCardSaid : Prop := Claim7.holds Tryz.pinned (.plain (OpenSpec.ofChange boundLineSpec)) boundLineCard

/-- THE SECOND FORM's CARD OF 'leadlinelaw9.BoundTells'. -/
def boundTellsUptoCard : Claim7 := { stood := { row := boundTellsUptoRow, standIns := [], harness := (true, "aca95dcdea181ccca4444d2e60a39c124be1c340164a9a3ea841661dfa93b09b"), looks := true }, kinds := [], alts := [], laidByText := true, laidKinds := [.handle], laidTests := true, laidLooks := .later }
def BoundTellsUptoCardSaid : Prop := Claim7.holds Tryz.pinned (.plain (OpenSpec.upto boundTellsSpec)) boundTellsUptoCard

/-- THE SECOND FORM's CARD OF 'leadlinelaw9.BoundBelow'. -/
def boundBelowUptoCard : Claim7 := { stood := { row := boundBelowUptoRow, standIns := [], harness := (true, "aca95dcdea181ccca4444d2e60a39c124be1c340164a9a3ea841661dfa93b09b"), looks := true }, kinds := [], alts := [], laidByText := true, laidKinds := [.handle], laidTests := true, laidLooks := .later }
def BoundBelowUptoCardSaid : Prop := Claim7.holds Tryz.pinned (.plain (OpenSpec.upto boundBelowSpec)) boundBelowUptoCard

/-- THE SECOND FORM's CARD OF 'leadlinelaw9.BoundLine'. -/
def boundLineUptoCard : Claim7 := { stood := { row := boundLineUptoRow, standIns := [], harness := (true, "aca95dcdea181ccca4444d2e60a39c124be1c340164a9a3ea841661dfa93b09b"), looks := true }, kinds := [], alts := [], laidByText := true, laidKinds := [.handle], laidTests := true, laidLooks := .later }
def BoundLineUptoCardSaid : Prop := Claim7.holds Tryz.pinned (.plain (OpenSpec.upto boundLineSpec)) boundLineUptoCard
end Rows
end Go.Proofs.YtdpgpchcgmmklaaGreatDoor
