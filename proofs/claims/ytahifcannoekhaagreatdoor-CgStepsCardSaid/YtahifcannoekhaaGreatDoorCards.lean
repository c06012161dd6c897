/-
  DERIVED. GIVEN WITH THE SEED: THE CARDS: each row of YtahifcannoekhaaGreatDoorRows.lean that lists a variable, with what it lists TIED to the program's text (the seventh form; the later family's looks); each row that meets fmt, with fmt's text TOLD by the authors' own Lean function (tested against real Go, not proved from fmt's source: count such statements apart). THE CARD IS WHAT COUNTS. Prove the row's statement (the work); the ties are given (YtahifcannoekhaaGreatDoorTie.lean); close each card by the builder's one call (the guide's Derived/Test/ToyasCard.lean, 'card_holds'). Laid BY PROGRAM, IN A SANDBOX (cutbox-door.mjs). By AI agents, Wed Nov 11 2026. No macro, syntax, notation, axiom, sorry.
-/
import Derived.Test.YtahifcannoekhaaGreatDoorRows
import GoSem.ClaimSeven
namespace Go.Proofs.YtahifcannoekhaaGreatDoor
namespace Rows

/-- THE TIED CARD OF 'leadlinelaw8.CgSteps'. -/
def cgStepsCard : Claim7 := { stood := { row := cgStepsRow, standIns := [], harness := (true, "875d18eafed850c46f202163eec06637898386e080d0c36bc9a23975dc4e5cbe"), looks := true }, kinds := [], alts := [], laidByText := true, laidKinds := [.handle], laidTests := true, laidLooks := .later }
def CgStepsCardSaid : Prop := Claim7.holds Tryz.pinned (.plain (OpenSpec.ofChange cgStepsSpec)) cgStepsCard

/-- THE TIED CARD OF 'leadlinelaw8.CgSettles'. -/
def cgSettlesCard : Claim7 := { stood := { row := cgSettlesRow, standIns := [], harness := (true, "875d18eafed850c46f202163eec06637898386e080d0c36bc9a23975dc4e5cbe"), looks := true }, kinds := [], alts := [], laidByText := true, laidKinds := [.handle], laidTests := true, laidLooks := .later }
def CgSettlesCardSaid : Prop := Claim7.holds Tryz.pinned (.plain (OpenSpec.ofChange cgSettlesSpec)) cgSettlesCard

/-- THE SECOND FORM's CARD OF 'leadlinelaw8.CgSteps'. -/
def cgStepsUptoCard : Claim7 := { stood := { row := cgStepsUptoRow, standIns := [], harness := (true, "875d18eafed850c46f202163eec06637898386e080d0c36bc9a23975dc4e5cbe"), looks := true }, kinds := [], alts := [], laidByText := true, laidKinds := [.handle], laidTests := true, laidLooks := .later }
def CgStepsUptoCardSaid : Prop := Claim7.holds Tryz.pinned (.plain (OpenSpec.upto cgStepsSpec)) cgStepsUptoCard

/-- THE SECOND FORM's CARD OF 'leadlinelaw8.CgSettles'. -/
def cgSettlesUptoCard : Claim7 := { stood := { row := cgSettlesUptoRow, standIns := [], harness := (true, "875d18eafed850c46f202163eec06637898386e080d0c36bc9a23975dc4e5cbe"), looks := true }, kinds := [], alts := [], laidByText := true, laidKinds := [.handle], laidTests := true, laidLooks := .later }
def CgSettlesUptoCardSaid : Prop := Claim7.holds Tryz.pinned (.plain (OpenSpec.upto cgSettlesSpec)) cgSettlesUptoCard
end Rows
end Go.Proofs.YtahifcannoekhaaGreatDoor
