/-
  DERIVED. GIVEN WITH THE SEED: THE CARDS: each row of YthnjmgoininkoaaDoorRows.lean that lists a variable, with what it lists TIED to the program's text (the seventh form; the later family's looks); each row that meets fmt, with fmt's text TOLD by the authors' own Lean function (tested against real Go, not proved from fmt's source: count such statements apart). THE CARD IS WHAT COUNTS. Prove the row's statement (the work); the ties are given (YthnjmgoininkoaaDoorTie.lean); close each card by the builder's one call (the guide's Derived/Test/ToyasCard.lean, 'card_holds'). Laid BY PROGRAM, IN A SANDBOX (cutbox-door.mjs). By AI agents, Wed Nov 11 2026. No macro, syntax, notation, axiom, sorry.
-/
import Derived.Test.YthnjmgoininkoaaDoorRows
import GoSem.ClaimSeven
namespace Go.Proofs.YthnjmgoininkoaaDoor
namespace Rows

/-- THE TIED CARD OF 'leadlinelaw13.SoundSlants'. -/
def soundSlantsCard : Claim7 := { stood := { row := soundSlantsRow, standIns := [], harness := (true, "6b80bff718eda89e23609bae707bf7e3d6651d84ab5b5eed91f804c164a8d4c3"), looks := true }, kinds := [], alts := [], laidByText := true, laidKinds := [.handle], laidTests := true, laidLooks := .later }
def SoundSlantsCardSaid : Prop := Claim7.holds Tryd.pinned (.plain (OpenSpec.ofChange soundSlantsSpec)) soundSlantsCard

/-- THE TIED CARD OF 'leadlinelaw13.SoundLine'. -/
def soundLineCard : Claim7 := { stood := { row := soundLineRow, standIns := [], harness := (true, "6b80bff718eda89e23609bae707bf7e3d6651d84ab5b5eed91f804c164a8d4c3"), looks := true }, kinds := [], alts := [], laidByText := true, laidKinds := [.handle], laidTests := true, laidLooks := .later }
def SoundLineCardSaid : Prop := Claim7.holds Tryd.pinned (.plain (OpenSpec.ofChange soundLineSpec)) soundLineCard

/-- THE TIED CARD OF 'leadlinelaw13.SoundWater'. -/
def soundWaterCard : Claim7 := { stood := { row := soundWaterRow, standIns := [], harness := (true, "6b80bff718eda89e23609bae707bf7e3d6651d84ab5b5eed91f804c164a8d4c3"), looks := true }, kinds := [], alts := [], laidByText := true, laidKinds := [.handle], laidTests := true, laidLooks := .later }
def SoundWaterCardSaid : Prop := Claim7.holds Tryd.pinned (.plain (OpenSpec.ofChange soundWaterSpec)) soundWaterCard

/-- THE SECOND FORM's CARD OF 'leadlinelaw13.SoundSlants'. -/
def soundSlantsUptoCard : Claim7 := { stood := { row := soundSlantsUptoRow, standIns := [], harness := (true, "6b80bff718eda89e23609bae707bf7e3d6651d84ab5b5eed91f804c164a8d4c3"), looks := true }, kinds := [], alts := [], laidByText := true, laidKinds := [.handle], laidTests := true, laidLooks := .later }
def SoundSlantsUptoCardSaid : Prop := Claim7.holds Tryd.pinned (.plain (OpenSpec.upto soundSlantsSpec)) soundSlantsUptoCard

/-- THE SECOND FORM's CARD OF 'leadlinelaw13.SoundLine'. -/
def soundLineUptoCard : Claim7 := { stood := { row := soundLineUptoRow, standIns := [], harness := (true, "6b80bff718eda89e23609bae707bf7e3d6651d84ab5b5eed91f804c164a8d4c3"), looks := true }, kinds := [], alts := [], laidByText := true, laidKinds := [.handle], laidTests := true, laidLooks := .later }
def SoundLineUptoCardSaid : Prop := Claim7.holds Tryd.pinned (.plain (OpenSpec.upto soundLineSpec)) soundLineUptoCard

/-- THE SECOND FORM's CARD OF 'leadlinelaw13.SoundWater'. -/
def soundWaterUptoCard : Claim7 := { stood := { row := soundWaterUptoRow, standIns := [], harness := (true, "6b80bff718eda89e23609bae707bf7e3d6651d84ab5b5eed91f804c164a8d4c3"), looks := true }, kinds := [], alts := [], laidByText := true, laidKinds := [.handle], laidTests := true, laidLooks := .later }
def SoundWaterUptoCardSaid : Prop := Claim7.holds Tryd.pinned (.plain (OpenSpec.upto soundWaterSpec)) soundWaterUptoCard
end Rows
end Go.Proofs.YthnjmgoininkoaaDoor
