/-
  NARROWER THAN 'FOR EVERY INPUT', by the rows' own cells (each row's printed sentence says how): SymAdds: laid · DetTells: laid · DetBlocks: laid · DetTurns: laid · MinorsBegin: laid.
  DERIVED. THE GIVEN ROWS OF THIS SEAT. 5 by the template 'for every input the law returns true; each argument reads behind the call as it read before'; 0 by the template 'total and deterministic' (their statements: YtdcpoamjmoceiaaGreatDoorTotals.lean).
  GIVEN WITH THE SEED: the statements are not yours to turn. If you find one false, say at which input.
  Laid BY PROGRAM, IN A SANDBOX (cutbox-rows.mjs): the forced cells as the released guide's own fill.sh prints them over the translation 997459233c32446d… (all of the seat's roots in one cut). By AI agents, Wed Nov 11 2026. No macro, syntax, notation, axiom, sorry.
-/
import Derived.Test.YtdcpoamjmoceiaaGreatDoorChecked
import GoSem.Claim
import GoSem.ClaimJoined
import GoSem.ClaimMapViews
import Derived.JoinedTies
import Derived.KernelRfl
namespace Go.Proofs.YtdcpoamjmoceiaaGreatDoor
/- THE CELL 'sum', in the pinned program and in every row, IS THE sha256 OF THE DUMP (.gsa) THAT YtdcpoamjmoceiaaGreatDoorProg.lean LOADS. Nothing in Lean hashes anything: it is a label: what it is worth is what the hold of that sum in a sandbox is worth. -/
noncomputable def Tryz.pinned : Pinned := { name := "ytdcpoamjmoceiaagreatdoor", sum := "997459233c32446d4356f673717aad9aa3104eb1f7a487e280d082fe50612b2e", checked := Tryz.checked }
namespace Rows
def none {H : Type} : Left H := { results := [], args := [] }

/- WHAT THE LISTED PACKAGE-LEVEL VARIABLES READ AS WHEN THE CALL BEGINS. Each datum BY PROGRAM (the guide's laid-datum.mjs) off the statement by which the dump's own 'gosem.cut.vars' lays the variable. In a bare row this is a premise. The card (YtdcpoamjmoceiaaGreatDoorCards.lean) ties it to the program's text. -/
def laid_errors_errorType {H : Type} : DataW H := .iface "internal/reflectlite.rtype" (.agg [.ptr (.lit (.string [101, 114, 114, 111, 114]))])

/-- 'leadlinelaw5.SymAdds': WHATEVER THE INPUT: true; the input reads as it did. -/
def symAddsSpec : ChangeSpec := { name := "symAdds", fn := fun _ => fun
  | [d1, d2, d3, d4, d5, d6, d7, d8] => { results := [.lit (.bool true)], args := [d1, d2, d3, d4, d5, d6, d7, d8] }
  | _ => none }
def symAddsRow : OpenClaim := { program := "ytdcpoamjmoceiaagreatdoor", sum := "997459233c32446d4356f673717aad9aa3104eb1f7a487e280d082fe50612b2e", func := "leadline/leadlinelaw5.SymAdds", spec := "symAdds", inPlace := ["math/bits.Sub64", "math/bits.Add64", "internal/reflectlite.ValueOf", "(internal/reflectlite.Value).Type", "(internal/reflectlite.Value).IsNil", "internal/reflectlite.TypeOf", "(internal/reflectlite.Value).Elem", "(internal/reflectlite.Value).Set"], unfollowed := true, recurses := true, named := ["errors.errorType"], apart := false, laid := [("errors.errorType", laid_errors_errorType)] }
def SymAddsSaid : Prop := symAddsRow.holds Tryz.pinned (OpenSpec.ofChange symAddsSpec)

/-- ITS FALSE NEIGHBOUR: 'it returns false'. Refute it at one input. -/
def symAddsWrong : ChangeSpec := { name := "symAdds", fn := fun _ => fun
  | [d1, d2, d3, d4, d5, d6, d7, d8] => { results := [.lit (.bool false)], args := [d1, d2, d3, d4, d5, d6, d7, d8] }
  | _ => none }
def SymAddsWrongFalsely : Prop := symAddsRow.holds Tryz.pinned (OpenSpec.ofChange symAddsWrong)

/-- 'leadlinelaw6.DetTells': WHATEVER THE INPUT: true; the input reads as it did. -/
def detTellsSpec : ChangeSpec := { name := "detTells", fn := fun _ => fun
  | [d1, d2, d3, d4, d5, d6] => { results := [.lit (.bool true)], args := [d1, d2, d3, d4, d5, d6] }
  | _ => none }
def detTellsRow : OpenClaim := { program := "ytdcpoamjmoceiaagreatdoor", sum := "997459233c32446d4356f673717aad9aa3104eb1f7a487e280d082fe50612b2e", func := "leadline/leadlinelaw6.DetTells", spec := "detTells", inPlace := ["math/bits.Add64", "math/bits.Sub64", "internal/reflectlite.ValueOf", "(internal/reflectlite.Value).Type", "(internal/reflectlite.Value).IsNil", "internal/reflectlite.TypeOf", "(internal/reflectlite.Value).Elem", "(internal/reflectlite.Value).Set"], unfollowed := true, recurses := true, named := ["math/bits.divideError", "math/bits.overflowError", "errors.errorType"], apart := false, laid := [("errors.errorType", laid_errors_errorType)] }
def DetTellsSaid : Prop := detTellsRow.holds Tryz.pinned (OpenSpec.ofChange detTellsSpec)

/-- ITS FALSE NEIGHBOUR: 'it returns false'. Refute it at one input. -/
def detTellsWrong : ChangeSpec := { name := "detTells", fn := fun _ => fun
  | [d1, d2, d3, d4, d5, d6] => { results := [.lit (.bool false)], args := [d1, d2, d3, d4, d5, d6] }
  | _ => none }
def DetTellsWrongFalsely : Prop := detTellsRow.holds Tryz.pinned (OpenSpec.ofChange detTellsWrong)

/-- 'leadlinelaw6.DetBlocks': WHATEVER THE INPUT: true; the input reads as it did. -/
def detBlocksSpec : ChangeSpec := { name := "detBlocks", fn := fun _ => fun
  | [d1, d2, d3, d4, d5, d6] => { results := [.lit (.bool true)], args := [d1, d2, d3, d4, d5, d6] }
  | _ => none }
def detBlocksRow : OpenClaim := { program := "ytdcpoamjmoceiaagreatdoor", sum := "997459233c32446d4356f673717aad9aa3104eb1f7a487e280d082fe50612b2e", func := "leadline/leadlinelaw6.DetBlocks", spec := "detBlocks", inPlace := ["math/bits.Add64", "math/bits.Sub64", "internal/reflectlite.ValueOf", "(internal/reflectlite.Value).Type", "(internal/reflectlite.Value).IsNil", "internal/reflectlite.TypeOf", "(internal/reflectlite.Value).Elem", "(internal/reflectlite.Value).Set"], unfollowed := true, recurses := true, named := ["math/bits.divideError", "math/bits.overflowError", "errors.errorType"], apart := false, laid := [("errors.errorType", laid_errors_errorType)] }
def DetBlocksSaid : Prop := detBlocksRow.holds Tryz.pinned (OpenSpec.ofChange detBlocksSpec)

/-- ITS FALSE NEIGHBOUR: 'it returns false'. Refute it at one input. -/
def detBlocksWrong : ChangeSpec := { name := "detBlocks", fn := fun _ => fun
  | [d1, d2, d3, d4, d5, d6] => { results := [.lit (.bool false)], args := [d1, d2, d3, d4, d5, d6] }
  | _ => none }
def DetBlocksWrongFalsely : Prop := detBlocksRow.holds Tryz.pinned (OpenSpec.ofChange detBlocksWrong)

/-- 'leadlinelaw6.DetTurns': WHATEVER THE INPUT: true; the input reads as it did. -/
def detTurnsSpec : ChangeSpec := { name := "detTurns", fn := fun _ => fun
  | [d1, d2, d3, d4, d5] => { results := [.lit (.bool true)], args := [d1, d2, d3, d4, d5] }
  | _ => none }
def detTurnsRow : OpenClaim := { program := "ytdcpoamjmoceiaagreatdoor", sum := "997459233c32446d4356f673717aad9aa3104eb1f7a487e280d082fe50612b2e", func := "leadline/leadlinelaw6.DetTurns", spec := "detTurns", inPlace := ["math/bits.Add64", "math/bits.Sub64", "internal/reflectlite.ValueOf", "(internal/reflectlite.Value).Type", "(internal/reflectlite.Value).IsNil", "internal/reflectlite.TypeOf", "(internal/reflectlite.Value).Elem", "(internal/reflectlite.Value).Set"], unfollowed := true, recurses := true, named := ["math/bits.divideError", "math/bits.overflowError", "errors.errorType"], apart := false, laid := [("errors.errorType", laid_errors_errorType)] }
def DetTurnsSaid : Prop := detTurnsRow.holds Tryz.pinned (OpenSpec.ofChange detTurnsSpec)

/-- ITS FALSE NEIGHBOUR: 'it returns false'. Refute it at one input. -/
def detTurnsWrong : ChangeSpec := { name := "detTurns", fn := fun _ => fun
  | [d1, d2, d3, d4, d5] => { results := [.lit (.bool false)], args := [d1, d2, d3, d4, d5] }
  | _ => none }
def DetTurnsWrongFalsely : Prop := detTurnsRow.holds Tryz.pinned (OpenSpec.ofChange detTurnsWrong)

/-- 'leadlinelaw6.MinorsBegin': WHATEVER THE INPUT: true; the input reads as it did. -/
def minorsBeginSpec : ChangeSpec := { name := "minorsBegin", fn := fun _ => fun
  | [d1, d2, d3, d4] => { results := [.lit (.bool true)], args := [d1, d2, d3, d4] }
  | _ => none }
def minorsBeginRow : OpenClaim := { program := "ytdcpoamjmoceiaagreatdoor", sum := "997459233c32446d4356f673717aad9aa3104eb1f7a487e280d082fe50612b2e", func := "leadline/leadlinelaw6.MinorsBegin", spec := "minorsBegin", inPlace := ["math/bits.Add64", "math/bits.Sub64", "internal/reflectlite.ValueOf", "(internal/reflectlite.Value).Type", "(internal/reflectlite.Value).IsNil", "internal/reflectlite.TypeOf", "(internal/reflectlite.Value).Elem", "(internal/reflectlite.Value).Set"], unfollowed := true, recurses := true, named := ["math/bits.divideError", "math/bits.overflowError", "errors.errorType"], apart := false, laid := [("errors.errorType", laid_errors_errorType)] }
def MinorsBeginSaid : Prop := minorsBeginRow.holds Tryz.pinned (OpenSpec.ofChange minorsBeginSpec)

/-- ITS FALSE NEIGHBOUR: 'it returns false'. Refute it at one input. -/
def minorsBeginWrong : ChangeSpec := { name := "minorsBegin", fn := fun _ => fun
  | [d1, d2, d3, d4] => { results := [.lit (.bool false)], args := [d1, d2, d3, d4] }
  | _ => none }
def MinorsBeginWrongFalsely : Prop := minorsBeginRow.holds Tryz.pinned (OpenSpec.ofChange minorsBeginWrong)

/- THE SECOND FORM. 'bulk': how many values and letters a reading holds, each counted each time it is reached (what is shared counts as often as it is met; a slice's spare places count too). A statement '..UptoSaid' is the law's where the arguments, and the package variables that the reading takes, are together of bulk at most 1048576: NARROWER than '..Said'. Prove '..Said' where nothing that the law and all that it calls make is longer than what came in: it says more and counts as full. Else prove '..UptoSaid'. A law counts once. -/
mutual
def uptoBulk {H : Type} : DataW H → Nat
  | .lit (.string bytes) => bytes.length + 1
  | .lit _ => 1
  | .nil => 1
  | .ptr d => uptoBulk d + 1
  | .slice elems spare => uptoBulkAll elems + uptoBulkAll spare + 1
  | .agg parts => uptoBulkAll parts + 1
  | .iface _ d => uptoBulk d + 1
  | .map entries => uptoBulkEntries entries + 1
  | .held _ => 1
def uptoBulkAll {H : Type} : List (DataW H) → Nat
  | [] => 0
  | d :: r => uptoBulk d + uptoBulkAll r
def uptoBulkEntries {H : Type} : List (Lit × DataW H) → Nat
  | [] => 0
  | x :: r => uptoBulkEntry x + uptoBulkEntries r
def uptoBulkEntry {H : Type} : Lit × DataW H → Nat
  | (.string bytes, d) => bytes.length + uptoBulk d + 1
  | (_, d) => uptoBulk d + 1
 end
def uptoSmall : (H : Type) → List (DataW H) → Bool := fun _ ds => decide (uptoBulkAll ds ≤ 1048576)
def OpenSpec.upto (s : _root_.Go.ChangeSpec) : _root_.Go.OpenSpec := { _root_.Go.OpenSpec.ofChange s with cond := some uptoSmall }

/-- 'leadlinelaw5.SymAdds', WHERE WHAT IT READS IS OF BULK AT MOST 1048576: true; the input reads as it did. -/
def symAddsUptoRow : OpenClaim := { program := "ytdcpoamjmoceiaagreatdoor", sum := "997459233c32446d4356f673717aad9aa3104eb1f7a487e280d082fe50612b2e", func := "leadline/leadlinelaw5.SymAdds", spec := "symAdds", inPlace := ["math/bits.Sub64", "math/bits.Add64", "internal/reflectlite.ValueOf", "(internal/reflectlite.Value).Type", "(internal/reflectlite.Value).IsNil", "internal/reflectlite.TypeOf", "(internal/reflectlite.Value).Elem", "(internal/reflectlite.Value).Set"], unfollowed := true, recurses := true, named := ["errors.errorType"], apart := false, laid := [("errors.errorType", laid_errors_errorType)], narrowed := true }
def SymAddsUptoSaid : Prop := symAddsUptoRow.holds Tryz.pinned (OpenSpec.upto symAddsSpec)

/-- 'leadlinelaw6.DetTells', WHERE WHAT IT READS IS OF BULK AT MOST 1048576: true; the input reads as it did. -/
def detTellsUptoRow : OpenClaim := { program := "ytdcpoamjmoceiaagreatdoor", sum := "997459233c32446d4356f673717aad9aa3104eb1f7a487e280d082fe50612b2e", func := "leadline/leadlinelaw6.DetTells", spec := "detTells", inPlace := ["math/bits.Add64", "math/bits.Sub64", "internal/reflectlite.ValueOf", "(internal/reflectlite.Value).Type", "(internal/reflectlite.Value).IsNil", "internal/reflectlite.TypeOf", "(internal/reflectlite.Value).Elem", "(internal/reflectlite.Value).Set"], unfollowed := true, recurses := true, named := ["math/bits.divideError", "math/bits.overflowError", "errors.errorType"], apart := false, laid := [("errors.errorType", laid_errors_errorType)], narrowed := true }
def DetTellsUptoSaid : Prop := detTellsUptoRow.holds Tryz.pinned (OpenSpec.upto detTellsSpec)

/-- 'leadlinelaw6.DetBlocks', WHERE WHAT IT READS IS OF BULK AT MOST 1048576: true; the input reads as it did. -/
def detBlocksUptoRow : OpenClaim := { program := "ytdcpoamjmoceiaagreatdoor", sum := "997459233c32446d4356f673717aad9aa3104eb1f7a487e280d082fe50612b2e", func := "leadline/leadlinelaw6.DetBlocks", spec := "detBlocks", inPlace := ["math/bits.Add64", "math/bits.Sub64", "internal/reflectlite.ValueOf", "(internal/reflectlite.Value).Type", "(internal/reflectlite.Value).IsNil", "internal/reflectlite.TypeOf", "(internal/reflectlite.Value).Elem", "(internal/reflectlite.Value).Set"], unfollowed := true, recurses := true, named := ["math/bits.divideError", "math/bits.overflowError", "errors.errorType"], apart := false, laid := [("errors.errorType", laid_errors_errorType)], narrowed := true }
def DetBlocksUptoSaid : Prop := detBlocksUptoRow.holds Tryz.pinned (OpenSpec.upto detBlocksSpec)

/-- 'leadlinelaw6.DetTurns', WHERE WHAT IT READS IS OF BULK AT MOST 1048576: true; the input reads as it did. -/
def detTurnsUptoRow : OpenClaim := { program := "ytdcpoamjmoceiaagreatdoor", sum := "997459233c32446d4356f673717aad9aa3104eb1f7a487e280d082fe50612b2e", func := "leadline/leadlinelaw6.DetTurns", spec := "detTurns", inPlace := ["math/bits.Add64", "math/bits.Sub64", "internal/reflectlite.ValueOf", "(internal/reflectlite.Value).Type", "(internal/reflectlite.Value).IsNil", "internal/reflectlite.TypeOf", "(internal/reflectlite.Value).Elem", "(internal/reflectlite.Value).Set"], unfollowed := true, recurses := true, named := ["math/bits.divideError", "math/bits.overflowError", "errors.errorType"], apart := false, laid := [("errors.errorType", laid_errors_errorType)], narrowed := true }
def DetTurnsUptoSaid : Prop := detTurnsUptoRow.holds Tryz.pinned (OpenSpec.upto detTurnsSpec)

/-- 'leadlinelaw6.MinorsBegin', WHERE WHAT IT READS IS OF BULK AT MOST 1048576: true; the input reads as it did. -/
def minorsBeginUptoRow : OpenClaim := { program := "ytdcpoamjmoceiaagreatdoor", sum := "997459233c32446d4356f673717aad9aa3104eb1f7a487e280d082fe50612b2e", func := "leadline/leadlinelaw6.MinorsBegin", spec := "minorsBegin", inPlace := ["math/bits.Add64", "math/bits.Sub64", "internal/reflectlite.ValueOf", "(internal/reflectlite.Value).Type", "(internal/reflectlite.Value).IsNil", "internal/reflectlite.TypeOf", "(internal/reflectlite.Value).Elem", "(internal/reflectlite.Value).Set"], unfollowed := true, recurses := true, named := ["math/bits.divideError", "math/bits.overflowError", "errors.errorType"], apart := false, laid := [("errors.errorType", laid_errors_errorType)], narrowed := true }
def MinorsBeginUptoSaid : Prop := minorsBeginUptoRow.holds Tryz.pinned (OpenSpec.upto minorsBeginSpec)

end Rows
end Go.Proofs.YtdcpoamjmoceiaaGreatDoor
