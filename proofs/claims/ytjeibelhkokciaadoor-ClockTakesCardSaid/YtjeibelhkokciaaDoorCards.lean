/-
  DERIVED. GIVEN WITH THE SEED: THE CARDS: each row of YtjeibelhkokciaaDoorRows.lean that lists a variable, with what it lists TIED to the program's text (the seventh form; the later family's looks); each row that meets fmt, with fmt's text TOLD by the authors' own Lean function (tested against real Go, not proved from fmt's source: count such statements apart). THE CARD IS WHAT COUNTS. Prove the row's statement (the work); the ties are given (YtjeibelhkokciaaDoorTie.lean); close each card by the builder's one call (the guide's Derived/Test/ToyasCard.lean, 'card_holds'). Laid BY PROGRAM, IN A SANDBOX (cutbox-door.mjs). By AI agents, Wed Nov 11 2026. No macro, syntax, notation, axiom, sorry.
-/
import Derived.Test.YtjeibelhkokciaaDoorRows
import GoSem.ClaimSeven
namespace Go.Proofs.YtjeibelhkokciaaDoor
namespace Rows

/-- THE TIED CARD OF 'leadlinelaw14.ClockTakes'. -/
def clockTakesCard : Claim7 := { stood := { row := clockTakesRow, standIns := [], harness := (true, "c59741d1b946b2cecf5ec72d837cb72d6d988349c6b0d409c9107bdd277f00a9"), looks := true }, kinds := [], alts := [], laidByText := true, laidKinds := [.handle], laidTests := true, laidLooks := .later }
def ClockTakesCardSaid : Prop := Claim7.holds Tryd.pinned (.plain (OpenSpec.ofChange clockTakesSpec)) clockTakesCard

/-- THE TIED CARD OF 'leadlinelaw14.ClockRound'. -/
def clockRoundCard : Claim7 := { stood := { row := clockRoundRow, standIns := [], harness := (true, "c59741d1b946b2cecf5ec72d837cb72d6d988349c6b0d409c9107bdd277f00a9"), looks := true }, kinds := [], alts := [], laidByText := true, laidKinds := [.handle], laidTests := true, laidLooks := .later }
def ClockRoundCardSaid : Prop := Claim7.holds Tryd.pinned (.plain (OpenSpec.ofChange clockRoundSpec)) clockRoundCard

/-- THE SECOND FORM's CARD OF 'leadlinelaw14.ClockTakes'. -/
def clockTakesUptoCard : Claim7 := { stood := { row := clockTakesUptoRow, standIns := [], harness := (true, "c59741d1b946b2cecf5ec72d837cb72d6d988349c6b0d409c9107bdd277f00a9"), looks := true }, kinds := [], alts := [], laidByText := true, laidKinds := [.handle], laidTests := true, laidLooks := .later }
def ClockTakesUptoCardSaid : Prop := Claim7.holds Tryd.pinned (.plain (OpenSpec.upto clockTakesSpec)) clockTakesUptoCard

/-- THE SECOND FORM's CARD OF 'leadlinelaw14.ClockRound'. -/
def clockRoundUptoCard : Claim7 := { stood := { row := clockRoundUptoRow, standIns := [], harness := (true, "c59741d1b946b2cecf5ec72d837cb72d6d988349c6b0d409c9107bdd277f00a9"), looks := true }, kinds := [], alts := [], laidByText := true, laidKinds := [.handle], laidTests := true, laidLooks := .later }
def ClockRoundUptoCardSaid : Prop := Claim7.holds Tryd.pinned (.plain (OpenSpec.upto clockRoundSpec)) clockRoundUptoCard
end Rows
end Go.Proofs.YtjeibelhkokciaaDoor
