/-
  Division of two limbs by one, by halves: the numbers alone.
-/
import Derived.Test.YtlkolfnklbldcaaPlain
namespace Go.Proofs.Ytlkolfnklbldcaa

/-- What a half's quotient is. -/
def hq (u v n1 : Nat) : Nat := (4294967296 * u + n1) / v
/-- A guess of it, that isn't too small. -/
structure Half (u v1 v0 n1 q r : Nat) : Prop where
  eq : q * v1 + r = u
  ge : hq u (4294967296 * v1 + v0) n1 ≤ q
  le : q ≤ 4294967297
  lt : r < 4294967296
theorem hq_lt {u v n1 : Nat} (hu : u < v) (h1 : n1 < 4294967296) : hq u v n1 < 4294967296 := by
  unfold hq
  rw [Nat.div_lt_iff_lt_mul (by omega)]
  omega
theorem half_start {u v1 v0 n1 : Nat} (hv1 : 2147483648 ≤ v1) (hv2 : v1 < 4294967296) (hv0 : v0 < 4294967296) (hn : n1 < 4294967296) (hu : u < 4294967296 * v1 + v0) : Half u v1 v0 n1 (u / v1) (u % v1) := by
  refine ⟨by rw [Nat.mul_comm]; exact Nat.div_add_mod u v1, ?_, ?_, Nat.lt_trans (Nat.mod_lt _ (by omega)) hv2⟩
  · rw [Nat.le_div_iff_mul_le (by omega)]
    have h1 : hq u (4294967296 * v1 + v0) n1 * (4294967296 * v1 + v0) ≤ 4294967296 * u + n1 := Nat.div_mul_le_self _ _
    generalize hq u (4294967296 * v1 + v0) n1 = q at *
    rw [Nat.mul_add, Nat.mul_left_comm] at h1
    generalize q * v1 = p at *
    generalize q * v0 = p0 at *
    omega
  · have : u / v1 < 4294967298 := by
      rw [Nat.div_lt_iff_lt_mul (by omega)]
      omega
    omega
theorem half_gt {u n1 p p0 r : Nat} (h : p + r = u) (hc : 4294967296 * r + n1 < p0) : 4294967296 * u + n1 < 4294967296 * p + p0 := by omega
theorem half_more {u v1 v0 n1 q r : Nat} (h : Half u v1 v0 n1 q r) (hu : u < 4294967296 * v1 + v0) (hn : n1 < 4294967296) (_ : 0 < v1) (hc : 4294967296 ≤ q ∨ 4294967296 * r + n1 < q * v0) :
    1 ≤ q ∧ (q - 1) * v1 + (r + v1) = u ∧ hq u (4294967296 * v1 + v0) n1 ≤ q - 1 ∧ q - 1 ≤ 4294967296 := by
  have h1 : hq u (4294967296 * v1 + v0) n1 < q := by
    rcases hc with hc | hc
    · exact Nat.lt_of_lt_of_le (hq_lt hu hn) hc
    · unfold hq
      rw [Nat.div_lt_iff_lt_mul (by omega), Nat.mul_add, Nat.mul_left_comm]
      exact half_gt h.eq hc
  obtain ⟨k, rfl⟩ : ∃ k, q = k + 1 := ⟨q - 1, by omega⟩
  have h2 := h.eq
  have h3 := h.le
  rw [Nat.add_mul] at h2
  simp only [Nat.add_sub_cancel]
  exact ⟨by omega, by omega, by omega, by omega⟩
theorem half_next {u v1 v0 n1 q r : Nat} (h : Half u v1 v0 n1 q r) (hu : u < 4294967296 * v1 + v0) (hn : n1 < 4294967296) (hv : 0 < v1) (hc : 4294967296 ≤ q ∨ 4294967296 * r + n1 < q * v0) (hr : r + v1 < 4294967296) : Half u v1 v0 n1 (q - 1) (r + v1) := by
  obtain ⟨_, h2, h3, h4⟩ := half_more h hu hn hv hc
  exact ⟨h2, h3, by omega, hr⟩
theorem half_end {u v1 v0 n1 q r : Nat} (h1 : q * v1 + r = u) (h2 : hq u (4294967296 * v1 + v0) n1 ≤ q) (hv : 0 < v1) (hc : q * v0 ≤ 4294967296 * r + n1) : q = hq u (4294967296 * v1 + v0) n1 := by
  have h3 : q ≤ hq u (4294967296 * v1 + v0) n1 := by
    unfold hq
    rw [Nat.le_div_iff_mul_le (by omega), Nat.mul_add, Nat.mul_left_comm]
    generalize q * v1 = p at *
    generalize q * v0 = p0 at *
    omega
  omega
theorem half_break {u v1 v0 n1 q r : Nat} (h : Half u v1 v0 n1 q r) (hu : u < 4294967296 * v1 + v0) (hn : n1 < 4294967296) (hv : 0 < v1) (hv0 : v0 < 4294967296) (hc : 4294967296 ≤ q ∨ 4294967296 * r + n1 < q * v0) (hr : 4294967296 ≤ r + v1) :
    q - 1 = hq u (4294967296 * v1 + v0) n1 := by
  obtain ⟨_, h2, h3, h4⟩ := half_more h hu hn hv hc
  refine half_end h2 h3 hv ?_
  have h5 : (q - 1) * v0 ≤ 4294967296 * 4294967295 := Nat.mul_le_mul h4 (by omega)
  omega
theorem half_stop {u v1 v0 n1 q r : Nat} (h : Half u v1 v0 n1 q r) (hv : 0 < v1) (hc : q * v0 ≤ 4294967296 * r + n1) : q = hq u (4294967296 * v1 + v0) n1 := half_end h.eq h.ge hv hc
theorem half_rest_aux {u v n1 p r : Nat} (hv : v < 18446744073709551616) (h2 : r < v) (h1 : p + r = 4294967296 * u + n1) :
    ((4294967296 * u % 18446744073709551616 + n1) % 18446744073709551616 + 18446744073709551616 - p % 18446744073709551616) % 18446744073709551616 = r := by omega
/-- What is left behind a half's quotient, reckoned round 2 to the 64. -/
theorem half_rest {u v n1 : Nat} (hv : v < 18446744073709551616) (hv0 : 0 < v) :
    ((4294967296 * u % 18446744073709551616 + n1) % 18446744073709551616 + 18446744073709551616 - hq u v n1 * v % 18446744073709551616) % 18446744073709551616 = (4294967296 * u + n1) % v := by
  refine half_rest_aux hv (Nat.mod_lt _ hv0) ?_
  unfold hq
  rw [Nat.mul_comm]
  exact Nat.div_add_mod _ _
theorem half_both_aux {t v n0 q r : Nat} (hv0 : 0 < v) (h1 : v * q + r = t) : 4294967296 * q + (4294967296 * r + n0) / v = (4294967296 * t + n0) / v ∧ (4294967296 * r + n0) % v = (4294967296 * t + n0) % v := by
  have e : 4294967296 * t + n0 = (4294967296 * r + n0) + v * (4294967296 * q) := by rw [← h1]; grind
  rw [e]
  constructor
  · rw [Nat.add_mul_div_left _ _ hv0]; omega
  · rw [Nat.add_mul_mod_self_left]
/-- Both halves together. -/
theorem half_both {u v n1 n0 : Nat} (hv0 : 0 < v) :
    4294967296 * hq u v n1 + hq ((4294967296 * u + n1) % v) v n0 = (4294967296 * (4294967296 * u + n1) + n0) / v ∧
    (4294967296 * ((4294967296 * u + n1) % v) + n0) % v = (4294967296 * (4294967296 * u + n1) + n0) % v :=
  half_both_aux hv0 (Nat.div_add_mod _ _)
end Go.Proofs.Ytlkolfnklbldcaa
