/-
  A whole number told as an int64, or that there is none: the two ways.
-/
import Derived.Test.YtlkolfnklbldcaaArith
namespace Go.Proofs.Ytlkolfnklbldcaa
open Go Go.RowKit
set_option maxRecDepth 100000

theorem i64V_yes {z : Int} (h : -9223372036854775808 ≤ z ∧ z < 9223372036854775808) : i64V z = .tuple #[.int .i64 z, .bool true] := by
  unfold i64V
  rw [if_pos h, decide_eq_true h]
theorem i64V_no {z : Int} (h : ¬ (-9223372036854775808 ≤ z ∧ z < 9223372036854775808)) : i64V z = .tuple #[.int .i64 0, .bool false] := by
  unfold i64V
  rw [if_neg h, decide_eq_false h]
end Go.Proofs.Ytlkolfnklbldcaa
