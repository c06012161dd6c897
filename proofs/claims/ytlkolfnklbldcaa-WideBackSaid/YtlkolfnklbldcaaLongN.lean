/-
  A quotient limb by limb from above: the numbers.
-/
import Derived.Test.YtlkolfnklbldcaaOff
namespace Go.Proofs.Ytlkolfnklbldcaa
open Go Go.RowKit
set_option maxRecDepth 100000

theorem sumL_split (f : Nat → Nat) (a b : Nat) : sumL f (a + b) = sumL f a + sumL (fun j => f (a + j)) b * bp a := by
  induction b with
  | zero => simp [sumL_zero]
  | succ b ih =>
    rw [← Nat.add_assoc, sumL_succ, ih, sumL_succ, bp_add, Nat.add_mul]
    generalize sumL (fun j => f (a + j)) b = t at *
    generalize bp a = p at *
    generalize bp b = q at *
    grind
theorem zero_above {f : Nat → Nat} {n k : Nat} (h : sumL f n < bp k) : ∀ j, k ≤ j → j < n → f j = 0 := by
  induction n with
  | zero => intro j _ hj; omega
  | succ n ih =>
    rw [sumL_succ] at h
    intro j h1 h2
    by_cases e : j = n
    · subst e
      rcases Nat.eq_zero_or_pos (f j) with h3 | h3
      · exact h3
      · have h4 : 1 * bp j ≤ f j * bp j := Nat.mul_le_mul_right _ h3
        have h5 := bp_mono h1
        omega
    · exact ih (by omega) j h1 (by omega)
theorem sum_cut {f : Nat → Nat} {n k : Nat} (hk : k ≤ n) (h : ∀ j, k ≤ j → j < n → f j = 0) : sumL f n = sumL f k := by
  obtain ⟨d, rfl⟩ := Nat.exists_eq_add_of_le hk
  rw [sumL_split]
  rw [sumL_congr (g := fun _ => 0) (fun j hj => h (k + j) (by omega) (by omega)), sumL_zeros]
  omega
theorem guess_ge {F V : Nat → Nat} {m P W : Nat} (hF : ∀ j, j < m + 2 → F j < 18446744073709551616) (hW : sumL F (m + 2) = W) (hP : sumL V (m + 1) = P) (h0 : 0 < P) (hlt : W < P * 18446744073709551616) : W / P ≤ guessN (F (m + 1)) (F m) (V m) := by
  unfold guessN
  split
  · have : W / P < 18446744073709551616 := by rw [Nat.div_lt_iff_lt_mul h0, Nat.mul_comm]; exact hlt
    omega
  · rename_i hv
    rw [Nat.le_div_iff_mul_le (by omega)]
    have h1 := sumL_lt (f := F) (k := m) fun j hj => hF j (by omega)
    rw [sumL_succ, sumL_succ, bp_succ] at hW
    rw [sumL_succ] at hP
    have h2 := Nat.div_mul_le_self W P
    generalize W / P = q at *
    have h3 : q * (V m * bp m) ≤ q * P := Nat.mul_le_mul_left _ (by omega)
    have h4 : q * V m * bp m < (18446744073709551616 * F (m + 1) + F m + 1) * bp m := by
      have e : (18446744073709551616 * F (m + 1) + F m + 1) * bp m = F m * bp m + F (m + 1) * (bp m * 18446744073709551616) + bp m := by grind
      rw [e, Nat.mul_assoc]
      omega
    have h5 := Nat.lt_of_mul_lt_mul_right h4
    omega
/-- The round's end: the guess that isn't too much. -/
theorem round_end {W1 W P g : Nat} (h : W1 + g * P = W) (hge : W / P ≤ g) (h0 : 0 < P) : W1 < P ∧ g = W / P := by
  have h1 : g ≤ W / P := by rw [Nat.le_div_iff_mul_le h0]; omega
  have h2 : g = W / P := by omega
  refine ⟨?_, h2⟩
  have h3 := Nat.mod_lt W h0
  have h4 := Nat.div_add_mod W P
  rw [← h2, Nat.mul_comm] at h4
  omega
theorem round_more {W1 W P g B : Nat} (h : W1 + g * P = W + B) (hB : W1 < B) (h0 : 0 < P) : 1 ≤ g ∧ W / P ≤ g - 1 := by
  have h1 : W < g * P := by omega
  have h2 : W / P < g := by rw [Nat.div_lt_iff_lt_mul h0]; exact h1
  generalize W / P = q at *
  omega
theorem round_next {W1 W2 W P g B b : Nat} (h : W1 + g * P = W + B) (h2 : W2 + b * B = W1 + P) (hg : 1 ≤ g) (hb : b ≤ 1) : W2 + (g - 1) * P = W + (1 - b) * B := by
  obtain ⟨k, rfl⟩ : ∃ k, g = k + 1 := ⟨g - 1, by omega⟩
  rw [Nat.add_sub_cancel, Nat.add_mul, Nat.one_mul] at *
  have hb2 : b = 0 ∨ b = 1 := by omega
  rcases hb2 with rfl | rfl
  · simp at *; omega
  · simp at *; omega
/-- One limb of the quotient more. -/
theorem long_step {S S' T : Nat → Nat} {i m P W W1 g X : Nat} (hm : i + m < 17) (hi : i < 16) (hS : ∀ j, j < 17 → S j < 18446744073709551616) (hX : X = sumL T 16 * P + sumL S 17) (hT : T i = 0) (hR : sumL S 17 < bp (i + m + 1))
    (hW : sumL (fun j => S (i + j)) (m + 1) = W) (hW1 : sumL (fun j => S' (i + j)) (m + 1) = W1) (ho : ∀ j, j < i ∨ i + m < j → S' j = S j) (he : W1 + g * P = W) (hlt : W1 < P) :
    X = sumL (upd T i g) 16 * P + sumL S' 17 ∧ sumL S' 17 < P * bp i := by
  have hz := zero_above hR
  have e1 : sumL S 17 = sumL S i + W * bp i := by
    rw [sum_cut (show i + (m + 1) ≤ 17 by omega) (fun j h1 h2 => hz j (by omega) h2), sumL_split, hW]
  have e2 : sumL S' 17 = sumL S i + W1 * bp i := by
    rw [sum_cut (show i + (m + 1) ≤ 17 by omega) (fun j h1 h2 => by rw [ho j (by omega)]; exact hz j (by omega) h2), sumL_split, hW1, sumL_congr fun j hj => ho j (.inl hj)]
  have e3 := sumL_upd T g hi
  rw [hT, Nat.zero_mul, Nat.add_zero] at e3
  have h1 := sumL_lt (f := S) (k := i) fun j hj => hS j (by omega)
  constructor
  · rw [e2, e3, hX, e1, ← he]
    grind
  · rw [e2]
    have h2 : (W1 + 1) * bp i ≤ P * bp i := Nat.mul_le_mul_right _ hlt
    rw [Nat.add_mul] at h2
    omega
theorem long_end {x y s Q R : Nat} (h0 : 0 < y) (h : x * 2 ^ s = Q * (y * 2 ^ s) + R) (hR : R < y * 2 ^ s) : Q = x / y ∧ R / 2 ^ s = x % y := by
  have hp := Nat.two_pow_pos s
  generalize 2 ^ s = p at *
  have h1 : x * p / (y * p) = Q := by
    rw [h, Nat.mul_comm Q, Nat.mul_add_div (Nat.mul_pos h0 hp), Nat.div_eq_of_lt hR, Nat.add_zero]
  have h2 : x * p % (y * p) = R := by
    rw [h, Nat.mul_comm Q, Nat.mul_add_mod, Nat.mod_eq_of_lt hR]
  rw [Nat.mul_div_mul_right _ _ hp] at h1
  rw [Nat.mul_mod_mul_right] at h2
  exact ⟨h1.symm, by rw [← h2, Nat.mul_div_cancel _ hp]⟩
/-- Moved to the left till the highest bit is set. -/
theorem norm_part {y m s : Nat} (hy : y < bp m) (hm : 0 < m) (htop : limb y (m - 1) ≠ 0) (hs : s = 64 - Lib.bitLen (limb y (m - 1))) : y * 2 ^ s < bp m ∧ 9223372036854775808 * bp (m - 1) ≤ y * 2 ^ s ∧ s < 64 := by
  obtain ⟨k, rfl⟩ : ∃ k, m = k + 1 := ⟨m - 1, by omega⟩
  rw [Nat.add_sub_cancel] at *
  obtain ⟨b1, b2, b3, b4⟩ := bitLen_spec (limb_lt y k) htop
  have e : limb y k = y / bp k := by
    unfold limb
    exact Nat.mod_eq_of_lt (by rw [Nat.div_lt_iff_lt_mul (bp_pos k), Nat.mul_comm, ← bp_succ]; exact hy)
  generalize Lib.bitLen (limb y k) = L at *
  rw [e] at b2 b3
  have h1 : y < 2 ^ L * bp k := by rw [← Nat.div_lt_iff_lt_mul (bp_pos k)]; exact b3
  have h2 : 2 ^ (L - 1) * bp k ≤ y := by rw [← Nat.le_div_iff_mul_le (bp_pos k)]; exact b2
  have hp := Nat.two_pow_pos s
  have e1 : 2 ^ L * 2 ^ s = 18446744073709551616 := by rw [← Nat.pow_add, show L + s = 64 by omega]
  have e2 : 2 ^ (L - 1) * 2 ^ s = 9223372036854775808 := by rw [← Nat.pow_add, show L - 1 + s = 63 by omega]
  refine ⟨?_, ?_, by omega⟩
  · have h3 : y * 2 ^ s < 2 ^ L * bp k * 2 ^ s := Nat.mul_lt_mul_of_pos_right h1 hp
    rw [bp_succ, ← e1]
    calc y * 2 ^ s < 2 ^ L * bp k * 2 ^ s := h3
      _ = bp k * (2 ^ L * 2 ^ s) := by grind
  · have h3 : 2 ^ (L - 1) * bp k * 2 ^ s ≤ y * 2 ^ s := Nat.mul_le_mul_right _ h2
    rw [← e2]
    calc 2 ^ (L - 1) * 2 ^ s * bp k = 2 ^ (L - 1) * bp k * 2 ^ s := by grind
      _ ≤ y * 2 ^ s := h3
end Go.Proofs.Ytlkolfnklbldcaa
