/-
  What a law is told of a slice of limbs that came in, as the walks want it.
-/
import Derived.Test.YtlkolfnklbldcaaMade
import Derived.OpenShut
namespace Go.Proofs.Ytlkolfnklbldcaa
open Go Go.RowKit
set_option maxRecDepth 100000

theorem lim_of {w : World} {a : Option Addr} {len cap : Nat} {zs : List Int}
    (h : (a = none ∧ len = 0 ∧ cap = 0 ∧ zs = []) ∨ ∃ x, a = some x ∧ len ≤ cap ∧ cap ≤ maxLen ∧ zs.length = cap ∧ (∀ i, i < zs.length → w.cell? (x.add i) = some (.int .u64 (zs.getD i 0))) ∧ ∀ n ∈ zs, (Lit.int .u64 n).wf = true) :
    Lim w a len (fun i => (zs.getD i 0).toNat) := by
  rcases h with ⟨rfl, rfl, rfl, rfl⟩ | ⟨x, rfl, h1, h2, h3, h4, h5⟩
  · exact ⟨by omega, fun i => by simp, fun i hi => by omega⟩
  · have hb : ∀ i, 0 ≤ zs.getD i 0 ∧ zs.getD i 0 ≤ 18446744073709551615 := fun i => by
      by_cases hi : i < zs.length
      · have e : zs.getD i 0 = zs[i] := by simp [List.getD, hi]
        rw [e]
        exact bounds_u64 (h5 _ (List.getElem_mem hi))
      · have e : zs.getD i 0 = 0 := by simp [List.getD, hi]
        rw [e]; decide
    refine ⟨?_, fun i => ?_, fun i hi => ?_⟩
    · unfold maxLen at h2; omega
    · have := hb i; omega
    · obtain ⟨b, off, rfl, hc⟩ := ints_at h4 (by omega)
      refine ⟨b, off, rfl, fun w' hu => ?_⟩
      rw [Int.toNat_of_nonneg (hb i).1]
      exact hu.cell (hc i (by omega))
end Go.Proofs.Ytlkolfnklbldcaa
