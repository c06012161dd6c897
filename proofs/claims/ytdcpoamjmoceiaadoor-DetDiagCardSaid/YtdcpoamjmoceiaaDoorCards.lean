/-
  DERIVED. GIVEN WITH THE SEED: THE CARDS: each row of YtdcpoamjmoceiaaDoorRows.lean that lists a variable, with what it lists TIED to the program's text (the seventh form; the later family's looks); each row that meets fmt, with fmt's text TOLD by the authors' own Lean function (tested against real Go, not proved from fmt's source: count such statements apart). THE CARD IS WHAT COUNTS. Prove the row's statement (the work); the ties are given (YtdcpoamjmoceiaaDoorTie.lean); close each card by the builder's one call (the guide's Derived/Test/ToyasCard.lean, 'card_holds'). Laid BY PROGRAM, IN A SANDBOX (cutbox-door.mjs). By AI agents, Wed Nov 11 2026. No macro, syntax, notation, axiom, sorry.
-/
import Derived.Test.YtdcpoamjmoceiaaDoorRows
import GoSem.ClaimSeven
namespace Go.Proofs.YtdcpoamjmoceiaaDoor
namespace Rows

/-- THE TIED CARD OF 'leadlinelaw5.SymTells'. -/
def symTellsCard : Claim7 := { stood := { row := symTellsRow, standIns := [], harness := (true, "55a00f98bea0073a3952f70283c97164177e54d06c2273396a7809d4bb2f442a"), looks := true }, kinds := [], alts := [], laidByText := true, laidKinds := [.handle], laidTests := true, laidLooks := .later }
def SymTellsCardSaid : Prop := Claim7.holds Tryd.pinned (.plain (OpenSpec.ofChange symTellsSpec)) symTellsCard

/-- THE TIED CARD OF 'leadlinelaw5.SymKeeps'. -/
def symKeepsCard : Claim7 := { stood := { row := symKeepsRow, standIns := [], harness := (true, "55a00f98bea0073a3952f70283c97164177e54d06c2273396a7809d4bb2f442a"), looks := true }, kinds := [], alts := [], laidByText := true, laidKinds := [.handle], laidTests := true, laidLooks := .later }
def SymKeepsCardSaid : Prop := Claim7.holds Tryd.pinned (.plain (OpenSpec.ofChange symKeepsSpec)) symKeepsCard

/-- THE TIED CARD OF 'leadlinelaw5.SymRows'. -/
def symRowsCard : Claim7 := { stood := { row := symRowsRow, standIns := [], harness := (true, "55a00f98bea0073a3952f70283c97164177e54d06c2273396a7809d4bb2f442a"), looks := true }, kinds := [], alts := [], laidByText := true, laidKinds := [.handle], laidTests := true, laidLooks := .later }
def SymRowsCardSaid : Prop := Claim7.holds Tryd.pinned (.plain (OpenSpec.ofChange symRowsSpec)) symRowsCard

/-- THE TIED CARD OF 'leadlinelaw6.DetDiag'. -/
def detDiagCard : Claim7 := { stood := { row := detDiagRow, standIns := [], harness := (true, "55a00f98bea0073a3952f70283c97164177e54d06c2273396a7809d4bb2f442a"), looks := true }, kinds := [], alts := [], laidByText := true, laidKinds := [.handle], laidTests := true, laidLooks := .later }
def DetDiagCardSaid : Prop := Claim7.holds Tryd.pinned (.plain (OpenSpec.ofChange detDiagSpec)) detDiagCard

/-- THE SECOND FORM's CARD OF 'leadlinelaw5.SymTells'. -/
def symTellsUptoCard : Claim7 := { stood := { row := symTellsUptoRow, standIns := [], harness := (true, "55a00f98bea0073a3952f70283c97164177e54d06c2273396a7809d4bb2f442a"), looks := true }, kinds := [], alts := [], laidByText := true, laidKinds := [.handle], laidTests := true, laidLooks := .later }
def SymTellsUptoCardSaid : Prop := Claim7.holds Tryd.pinned (.plain (OpenSpec.upto symTellsSpec)) symTellsUptoCard

/-- THE SECOND FORM's CARD OF 'leadlinelaw5.SymKeeps'. -/
def symKeepsUptoCard : Claim7 := { stood := { row := symKeepsUptoRow, standIns := [], harness := (true, "55a00f98bea0073a3952f70283c97164177e54d06c2273396a7809d4bb2f442a"), looks := true }, kinds := [], alts := [], laidByText := true, laidKinds := [.handle], laidTests := true, laidLooks := .later }
def SymKeepsUptoCardSaid : Prop := Claim7.holds Tryd.pinned (.plain (OpenSpec.upto symKeepsSpec)) symKeepsUptoCard

/-- THE SECOND FORM's CARD OF 'leadlinelaw5.SymRows'. -/
def symRowsUptoCard : Claim7 := { stood := { row := symRowsUptoRow, standIns := [], harness := (true, "55a00f98bea0073a3952f70283c97164177e54d06c2273396a7809d4bb2f442a"), looks := true }, kinds := [], alts := [], laidByText := true, laidKinds := [.handle], laidTests := true, laidLooks := .later }
def SymRowsUptoCardSaid : Prop := Claim7.holds Tryd.pinned (.plain (OpenSpec.upto symRowsSpec)) symRowsUptoCard

/-- THE SECOND FORM's CARD OF 'leadlinelaw6.DetDiag'. -/
def detDiagUptoCard : Claim7 := { stood := { row := detDiagUptoRow, standIns := [], harness := (true, "55a00f98bea0073a3952f70283c97164177e54d06c2273396a7809d4bb2f442a"), looks := true }, kinds := [], alts := [], laidByText := true, laidKinds := [.handle], laidTests := true, laidLooks := .later }
def DetDiagUptoCardSaid : Prop := Claim7.holds Tryd.pinned (.plain (OpenSpec.upto detDiagSpec)) detDiagUptoCard
end Rows
end Go.Proofs.YtdcpoamjmoceiaaDoor
