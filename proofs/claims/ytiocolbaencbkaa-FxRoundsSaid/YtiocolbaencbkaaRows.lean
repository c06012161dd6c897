/-
  No cell of these rows narrows 'for every input' (looked for: loops, veiled, ifaces, maps, wideKeys, modest, calm, conditions, laid).
  DERIVED. THE GIVEN ROWS OF THIS SEAT. 14 by the template 'for every input the law returns true; each argument reads behind the call as it read before'; 0 by the template 'total and deterministic' (their statements: YtiocolbaencbkaaTotals.lean).
  GIVEN WITH THE SEED: the statements are not yours to turn. If you find one false, say at which input.
  Laid BY PROGRAM, IN A SANDBOX (cutbox-rows.mjs): the forced cells as the released guide's own fill.sh prints them over the translation 0f03de27a96971b7… (all of the seat's roots in one cut). By AI agents, Wed Nov 11 2026. No macro, syntax, notation, axiom, sorry.
-/
import Derived.Test.YtiocolbaencbkaaChecked
import GoSem.Claim
import GoSem.ClaimJoined
import GoSem.ClaimMapViews
import Derived.JoinedTies
import Derived.KernelRfl
namespace Go.Proofs.Ytiocolbaencbkaa
/- THE CELL 'sum', in the pinned program and in every row, IS THE sha256 OF THE DUMP (.gsa) THAT YtiocolbaencbkaaProg.lean LOADS. Nothing in Lean hashes anything: it is a label: what it is worth is what the hold of that sum in a sandbox is worth. -/
noncomputable def Try.pinned : Pinned := { name := "ytiocolbaencbkaa", sum := "0f03de27a96971b7def1aabfc98bf5feab552f8f20195ce79cb96e4594c33d49", checked := Try.checked }
namespace Rows
def none {H : Type} : Left H := { results := [], args := [] }

/-- 'leadlinelaw1.WideSums': WHATEVER THE INPUT: true; the input reads as it did. -/
def wideSumsSpec : ChangeSpec := { name := "wideSums", fn := fun _ => fun
  | [d1, d2, d3, d4, d5, d6, d7, d8] => { results := [.lit (.bool true)], args := [d1, d2, d3, d4, d5, d6, d7, d8] }
  | _ => none }
def wideSumsRow : OpenClaim := { program := "ytiocolbaencbkaa", sum := "0f03de27a96971b7def1aabfc98bf5feab552f8f20195ce79cb96e4594c33d49", func := "leadline/leadlinelaw1.WideSums", spec := "wideSums", inPlace := ["math/bits.Add64", "math/bits.Sub64"], named := ["math/bits.divideError", "math/bits.overflowError"], apart := false }
def WideSumsSaid : Prop := wideSumsRow.holds Try.pinned (OpenSpec.ofChange wideSumsSpec)

/-- ITS FALSE NEIGHBOUR: 'it returns false'. Refute it at one input. -/
def wideSumsWrong : ChangeSpec := { name := "wideSums", fn := fun _ => fun
  | [d1, d2, d3, d4, d5, d6, d7, d8] => { results := [.lit (.bool false)], args := [d1, d2, d3, d4, d5, d6, d7, d8] }
  | _ => none }
def WideSumsWrongFalsely : Prop := wideSumsRow.holds Try.pinned (OpenSpec.ofChange wideSumsWrong)

/-- 'leadlinelaw1.WideParts': WHATEVER THE INPUT: true; the input reads as it did. -/
def widePartsSpec : ChangeSpec := { name := "wideParts", fn := fun _ => fun
  | [d1, d2, d3, d4, d5, d6, d7, d8] => { results := [.lit (.bool true)], args := [d1, d2, d3, d4, d5, d6, d7, d8] }
  | _ => none }
def widePartsRow : OpenClaim := { program := "ytiocolbaencbkaa", sum := "0f03de27a96971b7def1aabfc98bf5feab552f8f20195ce79cb96e4594c33d49", func := "leadline/leadlinelaw1.WideParts", spec := "wideParts", inPlace := ["math/bits.Add64", "math/bits.Sub64"], named := ["math/bits.divideError", "math/bits.overflowError"], apart := false }
def WidePartsSaid : Prop := widePartsRow.holds Try.pinned (OpenSpec.ofChange widePartsSpec)

/-- ITS FALSE NEIGHBOUR: 'it returns false'. Refute it at one input. -/
def widePartsWrong : ChangeSpec := { name := "wideParts", fn := fun _ => fun
  | [d1, d2, d3, d4, d5, d6, d7, d8] => { results := [.lit (.bool false)], args := [d1, d2, d3, d4, d5, d6, d7, d8] }
  | _ => none }
def WidePartsWrongFalsely : Prop := widePartsRow.holds Try.pinned (OpenSpec.ofChange widePartsWrong)

/-- 'leadlinelaw1.WideSmall': WHATEVER THE INPUT: true; the input reads as it did. -/
def wideSmallSpec : ChangeSpec := { name := "wideSmall", fn := fun _ => fun
  | [d1, d2, d3, d4, d5, d6] => { results := [.lit (.bool true)], args := [d1, d2, d3, d4, d5, d6] }
  | _ => none }
def wideSmallRow : OpenClaim := { program := "ytiocolbaencbkaa", sum := "0f03de27a96971b7def1aabfc98bf5feab552f8f20195ce79cb96e4594c33d49", func := "leadline/leadlinelaw1.WideSmall", spec := "wideSmall", inPlace := ["math/bits.Add64", "math/bits.Sub64"], named := ["math/bits.divideError", "math/bits.overflowError"], apart := false }
def WideSmallSaid : Prop := wideSmallRow.holds Try.pinned (OpenSpec.ofChange wideSmallSpec)

/-- ITS FALSE NEIGHBOUR: 'it returns false'. Refute it at one input. -/
def wideSmallWrong : ChangeSpec := { name := "wideSmall", fn := fun _ => fun
  | [d1, d2, d3, d4, d5, d6] => { results := [.lit (.bool false)], args := [d1, d2, d3, d4, d5, d6] }
  | _ => none }
def WideSmallWrongFalsely : Prop := wideSmallRow.holds Try.pinned (OpenSpec.ofChange wideSmallWrong)

/-- 'leadlinelaw1.WideBack': WHATEVER THE INPUT: true; the input reads as it did. -/
def wideBackSpec : ChangeSpec := { name := "wideBack", fn := fun _ => fun
  | [d1, d2, d3, d4, d5, d6] => { results := [.lit (.bool true)], args := [d1, d2, d3, d4, d5, d6] }
  | _ => none }
def wideBackRow : OpenClaim := { program := "ytiocolbaencbkaa", sum := "0f03de27a96971b7def1aabfc98bf5feab552f8f20195ce79cb96e4594c33d49", func := "leadline/leadlinelaw1.WideBack", spec := "wideBack", inPlace := ["math/bits.Add64", "math/bits.Sub64"], named := ["math/bits.divideError", "math/bits.overflowError"], apart := false }
def WideBackSaid : Prop := wideBackRow.holds Try.pinned (OpenSpec.ofChange wideBackSpec)

/-- ITS FALSE NEIGHBOUR: 'it returns false'. Refute it at one input. -/
def wideBackWrong : ChangeSpec := { name := "wideBack", fn := fun _ => fun
  | [d1, d2, d3, d4, d5, d6] => { results := [.lit (.bool false)], args := [d1, d2, d3, d4, d5, d6] }
  | _ => none }
def WideBackWrongFalsely : Prop := wideBackRow.holds Try.pinned (OpenSpec.ofChange wideBackWrong)

/-- 'leadlinelaw1.WideLine': WHATEVER THE INPUT: true; the input reads as it did. -/
def wideLineSpec : ChangeSpec := { name := "wideLine", fn := fun _ => fun
  | [d1, d2, d3, d4, d5, d6, d7] => { results := [.lit (.bool true)], args := [d1, d2, d3, d4, d5, d6, d7] }
  | _ => none }
def wideLineRow : OpenClaim := { program := "ytiocolbaencbkaa", sum := "0f03de27a96971b7def1aabfc98bf5feab552f8f20195ce79cb96e4594c33d49", func := "leadline/leadlinelaw1.WideLine", spec := "wideLine", inPlace := ["math/bits.Add64", "math/bits.Sub64"], named := ["math/bits.divideError", "math/bits.overflowError"], apart := false }
def WideLineSaid : Prop := wideLineRow.holds Try.pinned (OpenSpec.ofChange wideLineSpec)

/-- ITS FALSE NEIGHBOUR: 'it returns false'. Refute it at one input. -/
def wideLineWrong : ChangeSpec := { name := "wideLine", fn := fun _ => fun
  | [d1, d2, d3, d4, d5, d6, d7] => { results := [.lit (.bool false)], args := [d1, d2, d3, d4, d5, d6, d7] }
  | _ => none }
def WideLineWrongFalsely : Prop := wideLineRow.holds Try.pinned (OpenSpec.ofChange wideLineWrong)

/-- 'leadlinelaw1.WideRing': WHATEVER THE INPUT: true; the input reads as it did. -/
def wideRingSpec : ChangeSpec := { name := "wideRing", fn := fun _ => fun
  | [d1, d2, d3, d4, d5, d6, d7, d8] => { results := [.lit (.bool true)], args := [d1, d2, d3, d4, d5, d6, d7, d8] }
  | _ => none }
def wideRingRow : OpenClaim := { program := "ytiocolbaencbkaa", sum := "0f03de27a96971b7def1aabfc98bf5feab552f8f20195ce79cb96e4594c33d49", func := "leadline/leadlinelaw1.WideRing", spec := "wideRing", inPlace := ["math/bits.Add64", "math/bits.Sub64"], named := ["math/bits.divideError", "math/bits.overflowError"], apart := false }
def WideRingSaid : Prop := wideRingRow.holds Try.pinned (OpenSpec.ofChange wideRingSpec)

/-- ITS FALSE NEIGHBOUR: 'it returns false'. Refute it at one input. -/
def wideRingWrong : ChangeSpec := { name := "wideRing", fn := fun _ => fun
  | [d1, d2, d3, d4, d5, d6, d7, d8] => { results := [.lit (.bool false)], args := [d1, d2, d3, d4, d5, d6, d7, d8] }
  | _ => none }
def WideRingWrongFalsely : Prop := wideRingRow.holds Try.pinned (OpenSpec.ofChange wideRingWrong)

/-- 'leadlinelaw1.WideEdges': WHATEVER THE INPUT: true; the input reads as it did. -/
def wideEdgesSpec : ChangeSpec := { name := "wideEdges", fn := fun _ => fun
  | [d1, d2] => { results := [.lit (.bool true)], args := [d1, d2] }
  | _ => none }
def wideEdgesRow : OpenClaim := { program := "ytiocolbaencbkaa", sum := "0f03de27a96971b7def1aabfc98bf5feab552f8f20195ce79cb96e4594c33d49", func := "leadline/leadlinelaw1.WideEdges", spec := "wideEdges", inPlace := ["math/bits.Add64", "math/bits.Sub64"], named := ["math/bits.divideError", "math/bits.overflowError"], apart := false }
def WideEdgesSaid : Prop := wideEdgesRow.holds Try.pinned (OpenSpec.ofChange wideEdgesSpec)

/-- ITS FALSE NEIGHBOUR: 'it returns false'. Refute it at one input. -/
def wideEdgesWrong : ChangeSpec := { name := "wideEdges", fn := fun _ => fun
  | [d1, d2] => { results := [.lit (.bool false)], args := [d1, d2] }
  | _ => none }
def WideEdgesWrongFalsely : Prop := wideEdgesRow.holds Try.pinned (OpenSpec.ofChange wideEdgesWrong)

/-- 'leadlinelaw2.FxSums': WHATEVER THE INPUT: true; the input reads as it did. -/
def fxSumsSpec : ChangeSpec := { name := "fxSums", fn := fun _ => fun
  | [d1, d2, d3, d4] => { results := [.lit (.bool true)], args := [d1, d2, d3, d4] }
  | _ => none }
def fxSumsRow : OpenClaim := { program := "ytiocolbaencbkaa", sum := "0f03de27a96971b7def1aabfc98bf5feab552f8f20195ce79cb96e4594c33d49", func := "leadline/leadlinelaw2.FxSums", spec := "fxSums", inPlace := ["math/bits.Sub64", "math/bits.Add64"], named := ["math/bits.divideError", "math/bits.overflowError"], apart := false }
def FxSumsSaid : Prop := fxSumsRow.holds Try.pinned (OpenSpec.ofChange fxSumsSpec)

/-- ITS FALSE NEIGHBOUR: 'it returns false'. Refute it at one input. -/
def fxSumsWrong : ChangeSpec := { name := "fxSums", fn := fun _ => fun
  | [d1, d2, d3, d4] => { results := [.lit (.bool false)], args := [d1, d2, d3, d4] }
  | _ => none }
def FxSumsWrongFalsely : Prop := fxSumsRow.holds Try.pinned (OpenSpec.ofChange fxSumsWrong)

/-- 'leadlinelaw2.FxRounds': WHATEVER THE INPUT: true; the input reads as it did. -/
def fxRoundsSpec : ChangeSpec := { name := "fxRounds", fn := fun _ => fun
  | [d1, d2, d3, d4, d5, d6] => { results := [.lit (.bool true)], args := [d1, d2, d3, d4, d5, d6] }
  | _ => none }
def fxRoundsRow : OpenClaim := { program := "ytiocolbaencbkaa", sum := "0f03de27a96971b7def1aabfc98bf5feab552f8f20195ce79cb96e4594c33d49", func := "leadline/leadlinelaw2.FxRounds", spec := "fxRounds", inPlace := ["math/bits.Sub64", "math/bits.Add64"], named := ["math/bits.divideError", "math/bits.overflowError"], apart := false }
def FxRoundsSaid : Prop := fxRoundsRow.holds Try.pinned (OpenSpec.ofChange fxRoundsSpec)

/-- ITS FALSE NEIGHBOUR: 'it returns false'. Refute it at one input. -/
def fxRoundsWrong : ChangeSpec := { name := "fxRounds", fn := fun _ => fun
  | [d1, d2, d3, d4, d5, d6] => { results := [.lit (.bool false)], args := [d1, d2, d3, d4, d5, d6] }
  | _ => none }
def FxRoundsWrongFalsely : Prop := fxRoundsRow.holds Try.pinned (OpenSpec.ofChange fxRoundsWrong)

/-- 'leadlinelaw2.FxRoots': WHATEVER THE INPUT: true; the input reads as it did. -/
def fxRootsSpec : ChangeSpec := { name := "fxRoots", fn := fun _ => fun
  | [d1, d2, d3, d4, d5] => { results := [.lit (.bool true)], args := [d1, d2, d3, d4, d5] }
  | _ => none }
def fxRootsRow : OpenClaim := { program := "ytiocolbaencbkaa", sum := "0f03de27a96971b7def1aabfc98bf5feab552f8f20195ce79cb96e4594c33d49", func := "leadline/leadlinelaw2.FxRoots", spec := "fxRoots", inPlace := ["math/bits.Sub64", "math/bits.Add64"], named := ["math/bits.divideError", "math/bits.overflowError"], apart := false }
def FxRootsSaid : Prop := fxRootsRow.holds Try.pinned (OpenSpec.ofChange fxRootsSpec)

/-- ITS FALSE NEIGHBOUR: 'it returns false'. Refute it at one input. -/
def fxRootsWrong : ChangeSpec := { name := "fxRoots", fn := fun _ => fun
  | [d1, d2, d3, d4, d5] => { results := [.lit (.bool false)], args := [d1, d2, d3, d4, d5] }
  | _ => none }
def FxRootsWrongFalsely : Prop := fxRootsRow.holds Try.pinned (OpenSpec.ofChange fxRootsWrong)

/-- 'leadlinelaw2.FxSquares': WHATEVER THE INPUT: true; the input reads as it did. -/
def fxSquaresSpec : ChangeSpec := { name := "fxSquares", fn := fun _ => fun
  | [d1, d2] => { results := [.lit (.bool true)], args := [d1, d2] }
  | _ => none }
def fxSquaresRow : OpenClaim := { program := "ytiocolbaencbkaa", sum := "0f03de27a96971b7def1aabfc98bf5feab552f8f20195ce79cb96e4594c33d49", func := "leadline/leadlinelaw2.FxSquares", spec := "fxSquares", inPlace := ["math/bits.Sub64", "math/bits.Add64"], named := ["math/bits.divideError", "math/bits.overflowError"], apart := false }
def FxSquaresSaid : Prop := fxSquaresRow.holds Try.pinned (OpenSpec.ofChange fxSquaresSpec)

/-- ITS FALSE NEIGHBOUR: 'it returns false'. Refute it at one input. -/
def fxSquaresWrong : ChangeSpec := { name := "fxSquares", fn := fun _ => fun
  | [d1, d2] => { results := [.lit (.bool false)], args := [d1, d2] }
  | _ => none }
def FxSquaresWrongFalsely : Prop := fxSquaresRow.holds Try.pinned (OpenSpec.ofChange fxSquaresWrong)

/-- 'leadlinelaw2.FxBack': WHATEVER THE INPUT: true; the input reads as it did. -/
def fxBackSpec : ChangeSpec := { name := "fxBack", fn := fun _ => fun
  | [d1, d2, d3, d4] => { results := [.lit (.bool true)], args := [d1, d2, d3, d4] }
  | _ => none }
def fxBackRow : OpenClaim := { program := "ytiocolbaencbkaa", sum := "0f03de27a96971b7def1aabfc98bf5feab552f8f20195ce79cb96e4594c33d49", func := "leadline/leadlinelaw2.FxBack", spec := "fxBack", inPlace := ["math/bits.Sub64", "math/bits.Add64"], named := ["math/bits.divideError", "math/bits.overflowError"], apart := false }
def FxBackSaid : Prop := fxBackRow.holds Try.pinned (OpenSpec.ofChange fxBackSpec)

/-- ITS FALSE NEIGHBOUR: 'it returns false'. Refute it at one input. -/
def fxBackWrong : ChangeSpec := { name := "fxBack", fn := fun _ => fun
  | [d1, d2, d3, d4] => { results := [.lit (.bool false)], args := [d1, d2, d3, d4] }
  | _ => none }
def FxBackWrongFalsely : Prop := fxBackRow.holds Try.pinned (OpenSpec.ofChange fxBackWrong)

/-- 'leadlinelaw2.FxHalves': WHATEVER THE INPUT: true; the input reads as it did. -/
def fxHalvesSpec : ChangeSpec := { name := "fxHalves", fn := fun _ => fun
  | [d1, d2] => { results := [.lit (.bool true)], args := [d1, d2] }
  | _ => none }
def fxHalvesRow : OpenClaim := { program := "ytiocolbaencbkaa", sum := "0f03de27a96971b7def1aabfc98bf5feab552f8f20195ce79cb96e4594c33d49", func := "leadline/leadlinelaw2.FxHalves", spec := "fxHalves", inPlace := ["math/bits.Sub64", "math/bits.Add64"], named := ["math/bits.divideError", "math/bits.overflowError"], apart := false }
def FxHalvesSaid : Prop := fxHalvesRow.holds Try.pinned (OpenSpec.ofChange fxHalvesSpec)

/-- ITS FALSE NEIGHBOUR: 'it returns false'. Refute it at one input. -/
def fxHalvesWrong : ChangeSpec := { name := "fxHalves", fn := fun _ => fun
  | [d1, d2] => { results := [.lit (.bool false)], args := [d1, d2] }
  | _ => none }
def FxHalvesWrongFalsely : Prop := fxHalvesRow.holds Try.pinned (OpenSpec.ofChange fxHalvesWrong)

/-- 'leadlinelaw2.FxSides': WHATEVER THE INPUT: true; the input reads as it did. -/
def fxSidesSpec : ChangeSpec := { name := "fxSides", fn := fun _ => fun
  | [d1, d2] => { results := [.lit (.bool true)], args := [d1, d2] }
  | _ => none }
def fxSidesRow : OpenClaim := { program := "ytiocolbaencbkaa", sum := "0f03de27a96971b7def1aabfc98bf5feab552f8f20195ce79cb96e4594c33d49", func := "leadline/leadlinelaw2.FxSides", spec := "fxSides", inPlace := ["math/bits.Sub64", "math/bits.Add64"], named := ["math/bits.divideError", "math/bits.overflowError"], apart := false }
def FxSidesSaid : Prop := fxSidesRow.holds Try.pinned (OpenSpec.ofChange fxSidesSpec)

/-- ITS FALSE NEIGHBOUR: 'it returns false'. Refute it at one input. -/
def fxSidesWrong : ChangeSpec := { name := "fxSides", fn := fun _ => fun
  | [d1, d2] => { results := [.lit (.bool false)], args := [d1, d2] }
  | _ => none }
def FxSidesWrongFalsely : Prop := fxSidesRow.holds Try.pinned (OpenSpec.ofChange fxSidesWrong)

/- THE SECOND FORM. 'bulk': how many values and letters a reading holds, each counted each time it is reached (what is shared counts as often as it is met; a slice's spare places count too). A statement '..UptoSaid' is the law's where the arguments, and the package variables that the reading takes, are together of bulk at most 1048576: NARROWER than '..Said'. Prove '..Said' where nothing that the law and all that it calls make is longer than what came in: it says more and counts as full. Else prove '..UptoSaid'. A law counts once. -/
mutual
def uptoBulk {H : Type} : DataW H → Nat
  | .lit (.string bytes) => bytes.length + 1
  | .lit _ => 1
  | .nil => 1
  | .ptr d => uptoBulk d + 1
  | .slice elems spare => uptoBulkAll elems + uptoBulkAll spare + 1
  | .agg parts => uptoBulkAll parts + 1
  | .iface _ d => uptoBulk d + 1
  | .map entries => uptoBulkEntries entries + 1
  | .held _ => 1
def uptoBulkAll {H : Type} : List (DataW H) → Nat
  | [] => 0
  | d :: r => uptoBulk d + uptoBulkAll r
def uptoBulkEntries {H : Type} : List (Lit × DataW H) → Nat
  | [] => 0
  | x :: r => uptoBulkEntry x + uptoBulkEntries r
def uptoBulkEntry {H : Type} : Lit × DataW H → Nat
  | (.string bytes, d) => bytes.length + uptoBulk d + 1
  | (_, d) => uptoBulk d + 1
 end
def uptoSmall : (H : Type) → List (DataW H) → Bool := fun _ ds => decide (uptoBulkAll ds ≤ 1048576)
def OpenSpec.upto (s : _root_.Go.ChangeSpec) : _root_.Go.OpenSpec := { _root_.Go.OpenSpec.ofChange s with cond := some uptoSmall }

/-- 'leadlinelaw1.WideSums', WHERE WHAT IT READS IS OF BULK AT MOST 1048576: true; the input reads as it did. -/
def wideSumsUptoRow : OpenClaim := { program := "ytiocolbaencbkaa", sum := "0f03de27a96971b7def1aabfc98bf5feab552f8f20195ce79cb96e4594c33d49", func := "leadline/leadlinelaw1.WideSums", spec := "wideSums", inPlace := ["math/bits.Add64", "math/bits.Sub64"], named := ["math/bits.divideError", "math/bits.overflowError"], apart := false, narrowed := true }
def WideSumsUptoSaid : Prop := wideSumsUptoRow.holds Try.pinned (OpenSpec.upto wideSumsSpec)

/-- 'leadlinelaw1.WideParts', WHERE WHAT IT READS IS OF BULK AT MOST 1048576: true; the input reads as it did. -/
def widePartsUptoRow : OpenClaim := { program := "ytiocolbaencbkaa", sum := "0f03de27a96971b7def1aabfc98bf5feab552f8f20195ce79cb96e4594c33d49", func := "leadline/leadlinelaw1.WideParts", spec := "wideParts", inPlace := ["math/bits.Add64", "math/bits.Sub64"], named := ["math/bits.divideError", "math/bits.overflowError"], apart := false, narrowed := true }
def WidePartsUptoSaid : Prop := widePartsUptoRow.holds Try.pinned (OpenSpec.upto widePartsSpec)

/-- 'leadlinelaw1.WideSmall', WHERE WHAT IT READS IS OF BULK AT MOST 1048576: true; the input reads as it did. -/
def wideSmallUptoRow : OpenClaim := { program := "ytiocolbaencbkaa", sum := "0f03de27a96971b7def1aabfc98bf5feab552f8f20195ce79cb96e4594c33d49", func := "leadline/leadlinelaw1.WideSmall", spec := "wideSmall", inPlace := ["math/bits.Add64", "math/bits.Sub64"], named := ["math/bits.divideError", "math/bits.overflowError"], apart := false, narrowed := true }
def WideSmallUptoSaid : Prop := wideSmallUptoRow.holds Try.pinned (OpenSpec.upto wideSmallSpec)

/-- 'leadlinelaw1.WideBack', WHERE WHAT IT READS IS OF BULK AT MOST 1048576: true; the input reads as it did. -/
def wideBackUptoRow : OpenClaim := { program := "ytiocolbaencbkaa", sum := "0f03de27a96971b7def1aabfc98bf5feab552f8f20195ce79cb96e4594c33d49", func := "leadline/leadlinelaw1.WideBack", spec := "wideBack", inPlace := ["math/bits.Add64", "math/bits.Sub64"], named := ["math/bits.divideError", "math/bits.overflowError"], apart := false, narrowed := true }
def WideBackUptoSaid : Prop := wideBackUptoRow.holds Try.pinned (OpenSpec.upto wideBackSpec)

/-- 'leadlinelaw1.WideLine', WHERE WHAT IT READS IS OF BULK AT MOST 1048576: true; the input reads as it did. -/
def wideLineUptoRow : OpenClaim := { program := "ytiocolbaencbkaa", sum := "0f03de27a96971b7def1aabfc98bf5feab552f8f20195ce79cb96e4594c33d49", func := "leadline/leadlinelaw1.WideLine", spec := "wideLine", inPlace := ["math/bits.Add64", "math/bits.Sub64"], named := ["math/bits.divideError", "math/bits.overflowError"], apart := false, narrowed := true }
def WideLineUptoSaid : Prop := wideLineUptoRow.holds Try.pinned (OpenSpec.upto wideLineSpec)

/-- 'leadlinelaw1.WideRing', WHERE WHAT IT READS IS OF BULK AT MOST 1048576: true; the input reads as it did. -/
def wideRingUptoRow : OpenClaim := { program := "ytiocolbaencbkaa", sum := "0f03de27a96971b7def1aabfc98bf5feab552f8f20195ce79cb96e4594c33d49", func := "leadline/leadlinelaw1.WideRing", spec := "wideRing", inPlace := ["math/bits.Add64", "math/bits.Sub64"], named := ["math/bits.divideError", "math/bits.overflowError"], apart := false, narrowed := true }
def WideRingUptoSaid : Prop := wideRingUptoRow.holds Try.pinned (OpenSpec.upto wideRingSpec)

/-- 'leadlinelaw1.WideEdges', WHERE WHAT IT READS IS OF BULK AT MOST 1048576: true; the input reads as it did. -/
def wideEdgesUptoRow : OpenClaim := { program := "ytiocolbaencbkaa", sum := "0f03de27a96971b7def1aabfc98bf5feab552f8f20195ce79cb96e4594c33d49", func := "leadline/leadlinelaw1.WideEdges", spec := "wideEdges", inPlace := ["math/bits.Add64", "math/bits.Sub64"], named := ["math/bits.divideError", "math/bits.overflowError"], apart := false, narrowed := true }
def WideEdgesUptoSaid : Prop := wideEdgesUptoRow.holds Try.pinned (OpenSpec.upto wideEdgesSpec)

/-- 'leadlinelaw2.FxSums', WHERE WHAT IT READS IS OF BULK AT MOST 1048576: true; the input reads as it did. -/
def fxSumsUptoRow : OpenClaim := { program := "ytiocolbaencbkaa", sum := "0f03de27a96971b7def1aabfc98bf5feab552f8f20195ce79cb96e4594c33d49", func := "leadline/leadlinelaw2.FxSums", spec := "fxSums", inPlace := ["math/bits.Sub64", "math/bits.Add64"], named := ["math/bits.divideError", "math/bits.overflowError"], apart := false, narrowed := true }
def FxSumsUptoSaid : Prop := fxSumsUptoRow.holds Try.pinned (OpenSpec.upto fxSumsSpec)

/-- 'leadlinelaw2.FxRounds', WHERE WHAT IT READS IS OF BULK AT MOST 1048576: true; the input reads as it did. -/
def fxRoundsUptoRow : OpenClaim := { program := "ytiocolbaencbkaa", sum := "0f03de27a96971b7def1aabfc98bf5feab552f8f20195ce79cb96e4594c33d49", func := "leadline/leadlinelaw2.FxRounds", spec := "fxRounds", inPlace := ["math/bits.Sub64", "math/bits.Add64"], named := ["math/bits.divideError", "math/bits.overflowError"], apart := false, narrowed := true }
def FxRoundsUptoSaid : Prop := fxRoundsUptoRow.holds Try.pinned (OpenSpec.upto fxRoundsSpec)

/-- 'leadlinelaw2.FxRoots', WHERE WHAT IT READS IS OF BULK AT MOST 1048576: true; the input reads as it did. -/
def fxRootsUptoRow : OpenClaim := { program := "ytiocolbaencbkaa", sum := "0f03de27a96971b7def1aabfc98bf5feab552f8f20195ce79cb96e4594c33d49", func := "leadline/leadlinelaw2.FxRoots", spec := "fxRoots", inPlace := ["math/bits.Sub64", "math/bits.Add64"], named := ["math/bits.divideError", "math/bits.overflowError"], apart := false, narrowed := true }
def FxRootsUptoSaid : Prop := fxRootsUptoRow.holds Try.pinned (OpenSpec.upto fxRootsSpec)

/-- 'leadlinelaw2.FxSquares', WHERE WHAT IT READS IS OF BULK AT MOST 1048576: true; the input reads as it did. -/
def fxSquaresUptoRow : OpenClaim := { program := "ytiocolbaencbkaa", sum := "0f03de27a96971b7def1aabfc98bf5feab552f8f20195ce79cb96e4594c33d49", func := "leadline/leadlinelaw2.FxSquares", spec := "fxSquares", inPlace := ["math/bits.Sub64", "math/bits.Add64"], named := ["math/bits.divideError", "math/bits.overflowError"], apart := false, narrowed := true }
def FxSquaresUptoSaid : Prop := fxSquaresUptoRow.holds Try.pinned (OpenSpec.upto fxSquaresSpec)

/-- 'leadlinelaw2.FxBack', WHERE WHAT IT READS IS OF BULK AT MOST 1048576: true; the input reads as it did. -/
def fxBackUptoRow : OpenClaim := { program := "ytiocolbaencbkaa", sum := "0f03de27a96971b7def1aabfc98bf5feab552f8f20195ce79cb96e4594c33d49", func := "leadline/leadlinelaw2.FxBack", spec := "fxBack", inPlace := ["math/bits.Sub64", "math/bits.Add64"], named := ["math/bits.divideError", "math/bits.overflowError"], apart := false, narrowed := true }
def FxBackUptoSaid : Prop := fxBackUptoRow.holds Try.pinned (OpenSpec.upto fxBackSpec)

/-- 'leadlinelaw2.FxHalves', WHERE WHAT IT READS IS OF BULK AT MOST 1048576: true; the input reads as it did. -/
def fxHalvesUptoRow : OpenClaim := { program := "ytiocolbaencbkaa", sum := "0f03de27a96971b7def1aabfc98bf5feab552f8f20195ce79cb96e4594c33d49", func := "leadline/leadlinelaw2.FxHalves", spec := "fxHalves", inPlace := ["math/bits.Sub64", "math/bits.Add64"], named := ["math/bits.divideError", "math/bits.overflowError"], apart := false, narrowed := true }
def FxHalvesUptoSaid : Prop := fxHalvesUptoRow.holds Try.pinned (OpenSpec.upto fxHalvesSpec)

/-- 'leadlinelaw2.FxSides', WHERE WHAT IT READS IS OF BULK AT MOST 1048576: true; the input reads as it did. -/
def fxSidesUptoRow : OpenClaim := { program := "ytiocolbaencbkaa", sum := "0f03de27a96971b7def1aabfc98bf5feab552f8f20195ce79cb96e4594c33d49", func := "leadline/leadlinelaw2.FxSides", spec := "fxSides", inPlace := ["math/bits.Sub64", "math/bits.Add64"], named := ["math/bits.divideError", "math/bits.overflowError"], apart := false, narrowed := true }
def FxSidesUptoSaid : Prop := fxSidesUptoRow.holds Try.pinned (OpenSpec.upto fxSidesSpec)

end Rows
end Go.Proofs.Ytiocolbaencbkaa
