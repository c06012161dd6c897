/-
  DERIVED. GIVEN WITH THE SEED: THE CARDS: each row of YtdcpoamjmoceiaaGreatDoorRows.lean that lists a variable, with what it lists TIED to the program's text (the seventh form; the later family's looks); each row that meets fmt, with fmt's text TOLD by the authors' own Lean function (tested against real Go, not proved from fmt's source: count such statements apart). THE CARD IS WHAT COUNTS. Prove the row's statement (the work); the ties are given (YtdcpoamjmoceiaaGreatDoorTie.lean); close each card by the builder's one call (the guide's Derived/Test/ToyasCard.lean, 'card_holds'). Laid BY PROGRAM, IN A SANDBOX (cutbox-door.mjs). By AI agents, Wed Nov 11 2026. No macro, syntax, notation, axiom, sorry.
-/
import Derived.Test.YtdcpoamjmoceiaaGreatDoorRows
import GoSem.ClaimSeven
namespace Go.Proofs.YtdcpoamjmoceiaaGreatDoor
namespace Rows

/-- THE TIED CARD OF 'leadlinelaw5.SymAdds'. -/
def symAddsCard : Claim7 := { stood := { row := symAddsRow, standIns := [], harness := (true, "dea53d5b5b524f91692f9f873908250467a7563af536e0276e0738b5ca8f03ae"), looks := true }, kinds := [], alts := [], laidByText := true, laidKinds := [.handle], laidTests := true, laidLooks := .later }
def SymAddsCardSaid : Prop := Claim7.holds Tryz.pinned (.plain (OpenSpec.ofChange symAddsSpec)) symAddsCard

/-- THE TIED CARD OF 'leadlinelaw6.DetTells'. -/
def detTellsCard : Claim7 := { stood := { row := detTellsRow, standIns := [], harness := (true, "dea53d5b5b524f91692f9f873908250467a7563af536e0276e0738b5ca8f03ae"), looks := true }, kinds := [], alts := [], laidByText := true, laidKinds := [.handle], laidTests := true, laidLooks := .later }
def DetTellsCardSaid : Prop := Claim7.holds Tryz.pinned (.plain (OpenSpec.ofChange detTellsSpec)) detTellsCard

/-- THE TIED CARD OF 'leadlinelaw6.DetBlocks'. -/
def detBlocksCard : Claim7 := { stood := { row := detBlocksRow, standIns := [], harness := (true, "dea53d5b5b524f91692f9f873908250467a7563af536e0276e0738b5ca8f03ae"), looks := true }, kinds := [], alts := [], laidByText := true, laidKinds := [.handle], laidTests := true, laidLooks := .later }
def DetBlocksCardSaid : Prop := Claim7.holds Tryz.pinned (.plain (OpenSpec.ofChange detBlocksSpec)) detBlocksCard

/-- THE TIED CARD OF 'leadlinelaw6.DetTurns'. -/
def detTurnsCard : Claim7 := { stood := { row := detTurnsRow, standIns := [], harness := (true, "dea53d5b5b524f91692f9f873908250467a7563af536e0276e0738b5ca8f03ae"), looks := true }, kinds := [], alts := [], laidByText := true, laidKinds := [.handle], laidTests := true, laidLooks := .later }
def DetTurnsCardSaid : Prop := Claim7.holds Tryz.pinned (.plain (OpenSpec.ofChange detTurnsSpec)) detTurnsCard

/-- THE TIED CARD OF 'leadlinelaw6.MinorsBegin'. -/
def minorsBeginCard : Claim7 := { stood := { row := minorsBeginRow, standIns := [], harness := (true, "dea53d5b5b524f91692f9f873908250467a7563af536e0276e0738b5ca8f03ae"), looks := true }, kinds := [], alts := [], laidByText := true, laidKinds := [.handle], laidTests := true, laidLooks := .later }
def MinorsBeginCardSaid : Prop := Claim7.holds Tryz.pinned (.plain (OpenSpec.ofChange minorsBeginSpec)) minorsBeginCard

/-- THE SECOND FORM's CARD OF 'leadlinelaw5.SymAdds'. -/
def symAddsUptoCard : Claim7 := { stood := { row := symAddsUptoRow, standIns := [], harness := (true, "dea53d5b5b524f91692f9f873908250467a7563af536e0276e0738b5ca8f03ae"), looks := true }, kinds := [], alts := [], laidByText := true, laidKinds := [.handle], laidTests := true, laidLooks := .later }
def SymAddsUptoCardSaid : Prop := Claim7.holds Tryz.pinned (.plain (OpenSpec.upto symAddsSpec)) symAddsUptoCard

/-- THE SECOND FORM's CARD OF 'leadlinelaw6.DetTells'. -/
def detTellsUptoCard : Claim7 := { stood := { row := detTellsUptoRow, standIns := [], harness := (true, "dea53d5b5b524f91692f9f873908250467a7563af536e0276e0738b5ca8f03ae"), looks := true }, kinds := [], alts := [], laidByText := true, laidKinds := [.handle], laidTests := true, laidLooks := .later }
def DetTellsUptoCardSaid : Prop := Claim7.holds Tryz.pinned (.plain (OpenSpec.upto detTellsSpec)) detTellsUptoCard

/-- THE SECOND FORM's CARD OF 'leadlinelaw6.DetBlocks'. -/
def detBlocksUptoCard : Claim7 := { stood := { row := detBlocksUptoRow, standIns := [], harness := (true, "dea53d5b5b524f91692f9f873908250467a7563af536e0276e0738b5ca8f03ae"), looks := true }, kinds := [], alts := [], laidByText := true, laidKinds := [.handle], laidTests := true, laidLooks := .later }
def DetBlocksUptoCardSaid : Prop := Claim7.holds Tryz.pinned (.plain (OpenSpec.upto detBlocksSpec)) detBlocksUptoCard

/-- THE SECOND FORM's CARD OF 'leadlinelaw6.DetTurns'. -/
def detTurnsUptoCard : Claim7 := { stood := { row := detTurnsUptoRow, standIns := [], harness := (true, "dea53d5b5b524f91692f9f873908250467a7563af536e0276e0738b5ca8f03ae"), looks := true }, kinds := [], alts := [], laidByText := true, laidKinds := [.handle], laidTests := true, laidLooks := .later }
def DetTurnsUptoCardSaid : Prop := Claim7.holds Tryz.pinned (.plain (OpenSpec.upto detTurnsSpec)) detTurnsUptoCard

/-- THE SECOND FORM's CARD OF 'leadlinelaw6.MinorsBegin'. -/
def minorsBeginUptoCard : Claim7 := { stood := { row := minorsBeginUptoRow, standIns := [], harness := (true, "dea53d5b5b524f91692f9f873908250467a7563af536e0276e0738b5ca8f03ae"), looks := true }, kinds := [], alts := [], laidByText := true, laidKinds := [.handle], laidTests := true, laidLooks := .later }
def MinorsBeginUptoCardSaid : Prop := Claim7.holds Tryz.pinned (.plain (OpenSpec.upto minorsBeginSpec)) minorsBeginUptoCard
end Rows
end Go.Proofs.YtdcpoamjmoceiaaGreatDoor
