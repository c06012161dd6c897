/-
  Plain numbers by limbs of 64 bits: nothing here names the program.
-/
namespace Go.Proofs.Ytlkolfnklbldcaa

/-- A limb's base to the k-th power. -/
def bp : Nat → Nat
  | 0 => 1
  | k + 1 => bp k * 18446744073709551616
/-- The number that the first limbs of f make. -/
def sumL (f : Nat → Nat) : Nat → Nat
  | 0 => 0
  | k + 1 => sumL f k + f k * bp k
/-- Limb i of x. -/
def limb (x i : Nat) : Nat := x / bp i % 18446744073709551616
def upd (f : Nat → Nat) (k v : Nat) : Nat → Nat := fun i => if i = k then v else f i

theorem bp_zero : bp 0 = 1 := rfl
theorem bp_succ (k : Nat) : bp (k + 1) = bp k * 18446744073709551616 := rfl
theorem bp_pos (k : Nat) : 0 < bp k := by
  induction k with
  | zero => decide
  | succ k ih => rw [bp_succ]; omega
theorem bp_add (i k : Nat) : bp (i + k) = bp i * bp k := by
  induction k with
  | zero => simp [bp_zero]
  | succ k ih => rw [← Nat.add_assoc, bp_succ, bp_succ, ih, Nat.mul_assoc]
theorem bp_mono {i k : Nat} (h : i ≤ k) : bp i ≤ bp k := by
  obtain ⟨d, rfl⟩ := Nat.exists_eq_add_of_le h
  rw [bp_add]
  exact Nat.le_mul_of_pos_right _ (bp_pos d)
theorem sumL_zero (f : Nat → Nat) : sumL f 0 = 0 := rfl
theorem sumL_succ (f : Nat → Nat) (k : Nat) : sumL f (k + 1) = sumL f k + f k * bp k := rfl

theorem sumL_congr {f g : Nat → Nat} {k : Nat} (h : ∀ i, i < k → f i = g i) : sumL f k = sumL g k := by
  induction k with
  | zero => rfl
  | succ k ih => rw [sumL_succ, sumL_succ, ih fun i hi => h i (by omega), h k (by omega)]

theorem sumL_lt {f : Nat → Nat} {k : Nat} (h : ∀ i, i < k → f i < 18446744073709551616) : sumL f k < bp k := by
  induction k with
  | zero => simp [sumL_zero, bp_zero]
  | succ k ih =>
    have h1 := ih fun i hi => h i (by omega)
    have h2 := h k (by omega)
    rw [sumL_succ, bp_succ]
    have h3 : f k * bp k ≤ 18446744073709551615 * bp k := Nat.mul_le_mul_right _ (by omega)
    omega

theorem limb_lt (x i : Nat) : limb x i < 18446744073709551616 := Nat.mod_lt _ (by decide)

theorem sumL_limb (x k : Nat) : sumL (limb x) k = x % bp k := by
  induction k with
  | zero => rw [sumL_zero, bp_zero, Nat.mod_one]
  | succ k ih =>
    rw [sumL_succ, ih, bp_succ, limb, Nat.mod_mul, Nat.mul_comm (bp k)]

theorem limb_sumL {f : Nat → Nat} {n i : Nat} (h : ∀ i, i < n → f i < 18446744073709551616) (hi : i < n) : limb (sumL f n) i = f i := by
  induction n with
  | zero => omega
  | succ n ih =>
    have hn := sumL_lt (f := f) (k := n) fun i hi => h i (by omega)
    by_cases e : i = n
    · subst e
      rw [limb, sumL_succ, Nat.add_mul_div_right _ _ (bp_pos i), Nat.div_eq_of_lt hn, Nat.zero_add, Nat.mod_eq_of_lt (h i hi)]
    · have hin : i < n := by omega
      rw [← ih (fun i hi => h i (by omega)) hin, sumL_succ]
      unfold limb
      obtain ⟨d, rfl⟩ := Nat.exists_eq_add_of_le (show i + 1 ≤ n by omega)
      rw [bp_add, bp_succ, show sumL f (i + 1 + d) + f (i + 1 + d) * (bp i * 18446744073709551616 * bp d) = sumL f (i + 1 + d) + (f (i + 1 + d) * bp d * 18446744073709551616) * bp i by grind, Nat.add_mul_div_right _ _ (bp_pos i), Nat.add_mul_mod_self_right]

theorem limb_ext {f g : Nat → Nat} {n : Nat} (hf : ∀ i, i < n → f i < 18446744073709551616) (hg : ∀ i, i < n → g i < 18446744073709551616) (h : sumL f n = sumL g n) : ∀ i, i < n → f i = g i := by
  intro i hi
  rw [← limb_sumL hf hi, h, limb_sumL hg hi]

theorem limb_of_small {x i k : Nat} (h : x < bp k) (hi : k ≤ i) : limb x i = 0 := by
  unfold limb
  rw [Nat.div_eq_of_lt (Nat.lt_of_lt_of_le h (bp_mono hi)), Nat.zero_mod]

theorem limb_mod {x i n : Nat} (hi : i < n) : limb (x % bp n) i = limb x i := by
  rw [← sumL_limb, limb_sumL (fun i _ => limb_lt x i) hi]

theorem upd_same (f : Nat → Nat) (k v : Nat) : upd f k v k = v := by simp [upd]
theorem upd_other (f : Nat → Nat) (k v : Nat) {i : Nat} (h : i ≠ k) : upd f k v i = f i := by simp [upd, h]
theorem upd_lt {f : Nat → Nat} {k v n m : Nat} (h : ∀ i, i < n → f i < m) (hv : v < m) : ∀ i, i < n → upd f k v i < m := by
  intro i hi
  unfold upd
  split
  · exact hv
  · exact h i hi
theorem sumL_upd_above (f : Nat → Nat) {k v n : Nat} (h : n ≤ k) : sumL (upd f k v) n = sumL f n :=
  sumL_congr fun i hi => upd_other f k v (by omega)
theorem sumL_upd_succ (f : Nat → Nat) (k v : Nat) : sumL (upd f k v) (k + 1) = sumL f k + v * bp k := by
  rw [sumL_succ, sumL_upd_above f (Nat.le_refl k), upd_same]

/-- One limb of a sum: what is stored, what is carried. -/
theorem add_step (s x y : Nat) (c bpk sx sy : Nat) (h : s + c * bpk = sx + sy) :
    s + (x + y + c) % 18446744073709551616 * bpk + (x + y + c) / 18446744073709551616 * (bpk * 18446744073709551616) = (sx + x * bpk) + (sy + y * bpk) := by
  have h1 := Nat.div_add_mod (x + y + c) 18446744073709551616
  generalize (x + y + c) / 18446744073709551616 = q at *
  generalize (x + y + c) % 18446744073709551616 = r at *
  have : (18446744073709551616 * q + r) * bpk = (x + y + c) * bpk := by rw [h1]
  grind

/-- What stands above every limb is nought, and both sums are one. -/
theorem mod_of_carry {s c b t : Nat} (hs : s < b) (h : s + c * b = t) : s = t % b := by
  rw [← h, Nat.add_mul_mod_self_right, Nat.mod_eq_of_lt hs]

/-- One limb of a difference. -/
theorem sub_step (s x y r : Nat) (c c' bpk sx sy : Nat) (h : s + sy = sx + c * bpk) (hr : r + y + c = x + c' * 18446744073709551616) :
    (s + r * bpk) + (sy + y * bpk) = (sx + x * bpk) + c' * (bpk * 18446744073709551616) := by
  have : (r + y + c) * bpk = (x + c' * 18446744073709551616) * bpk := by rw [hr]
  grind

/-- The highest limb in which two numbers part tells which is less. -/
theorem sumL_lt_of {f g : Nat → Nat} {n i : Nat} (hf : ∀ j, j < n → f j < 18446744073709551616) (hi : i < n) (ht : ∀ j, i < j → j < n → f j = g j) (h : f i < g i) : sumL f n < sumL g n := by
  induction n with
  | zero => omega
  | succ n ih =>
    rw [sumL_succ, sumL_succ]
    by_cases e : i = n
    · subst e
      have h1 := sumL_lt (f := f) (k := i) fun j hj => hf j (by omega)
      have h2 : (f i + 1) * bp i ≤ g i * bp i := Nat.mul_le_mul_right _ h
      rw [Nat.add_mul] at h2
      omega
    · have := ih (fun j hj => hf j (by omega)) (by omega) fun j h1 h2 => ht j h1 (by omega)
      rw [ht n (by omega) (by omega)]
      omega

/-- How many limbs stand below the noughts. -/
def lenL (f : Nat → Nat) : Nat → Nat
  | 0 => 0
  | k + 1 => if f k = 0 then lenL f k else k + 1
theorem lenL_le (f : Nat → Nat) (n : Nat) : lenL f n ≤ n := by
  induction n with
  | zero => exact Nat.le_refl _
  | succ n ih => unfold lenL; split <;> omega
theorem lenL_succ (f : Nat → Nat) (n : Nat) : lenL f (n + 1) = if f n = 0 then lenL f n else n + 1 := rfl
theorem lenL_top (f : Nat → Nat) (n : Nat) (h : 0 < lenL f n) : f (lenL f n - 1) ≠ 0 := by
  induction n with
  | zero => simp [lenL] at h
  | succ n ih =>
    rw [lenL_succ] at *
    by_cases h0 : f n = 0
    · rw [if_pos h0] at *; exact ih h
    · rw [if_neg h0] at *; exact h0
theorem lenL_above (f : Nat → Nat) (n i : Nat) (h : lenL f n ≤ i) (hi : i < n) : f i = 0 := by
  induction n with
  | zero => omega
  | succ n ih =>
    unfold lenL at h
    split at h
    · rename_i h0
      by_cases e : i = n
      · rw [e]; exact h0
      · exact ih h (by omega)
    · omega
theorem lenL_sum (f : Nat → Nat) (n : Nat) : sumL f (lenL f n) = sumL f n := by
  induction n with
  | zero => rfl
  | succ n ih =>
    unfold lenL
    split
    · rename_i h0; rw [ih, sumL_succ, h0]; omega
    · rfl
theorem lenL_of (f : Nat → Nat) {n k : Nat} (hk : k ≤ n) (h0 : ∀ i, k ≤ i → i < n → f i = 0) (ht : k = 0 ∨ f (k - 1) ≠ 0) : lenL f n = k := by
  induction n with
  | zero => unfold lenL; omega
  | succ n ih =>
    unfold lenL
    by_cases e : k = n + 1
    · subst e
      rw [if_neg]
      rcases ht with ht | ht
      · omega
      · exact ht
    · rw [if_pos (h0 n (by omega) (by omega))]
      exact ih (by omega) fun i h1 h2 => h0 i h1 (by omega)
theorem lenL_congr {f g : Nat → Nat} {n : Nat} (h : ∀ i, i < n → f i = g i) : lenL f n = lenL g n := by
  induction n with
  | zero => rfl
  | succ n ih => unfold lenL; rw [h n (by omega), ih fun i hi => h i (by omega)]
theorem bp_le_of_len (f : Nat → Nat) (n : Nat) (h : 0 < lenL f n) : bp (lenL f n - 1) ≤ sumL f n := by
  rw [← lenL_sum]
  have ht := lenL_top f n h
  generalize lenL f n = k at *
  obtain ⟨j, rfl⟩ : ∃ j, k = j + 1 := ⟨k - 1, by omega⟩
  rw [sumL_succ]
  simp only [Nat.add_sub_cancel] at *
  have : 1 * bp j ≤ f j * bp j := Nat.mul_le_mul_right _ (by omega)
  omega
theorem lenL_zero_iff (f : Nat → Nat) (n : Nat) : lenL f n = 0 ↔ sumL f n = 0 := by
  constructor
  · intro h
    rw [← lenL_sum, h]; rfl
  · intro h
    by_cases e : lenL f n = 0
    · exact e
    · have := bp_le_of_len f n (by omega)
      have := bp_pos (lenL f n - 1)
      omega
theorem sub_final {s x y c b : Nat} (h : s + y = x + c * b) (hs : s < b) (_ : x < b) (hy : y < b) : s = (x + b - y) % b := by
  have hc : c = 0 ∨ c = 1 := by
    rcases Nat.lt_or_ge c 2 with h1 | h1
    · omega
    · have : 2 * b ≤ c * b := Nat.mul_le_mul_right _ h1
      omega
  rcases hc with rfl | rfl
  · rw [show x + b - y = s + b from by omega, Nat.add_mod_right, Nat.mod_eq_of_lt hs]
  · rw [show x + b - y = s from by omega, Nat.mod_eq_of_lt hs]
/-- How two numbers lie, as the program tells it. -/
def ordZ (x y : Nat) : Int := if x < y then -1 else if y < x then 1 else 0
/-- Half of what a wide number's limbs make: from there on they are numbers below nought. -/
def hb : Nat := bp 15 * 9223372036854775808
theorem bp16 : bp 16 = 2 * hb := by unfold hb; rw [bp_succ 15]; omega
theorem hb_pos : 0 < hb := by have := bp_pos 16; rw [bp16] at this; omega
theorem top_iff {x : Nat} (hx : x < bp 16) : 9223372036854775808 ≤ limb x 15 ↔ hb ≤ x := by
  unfold limb hb
  have h1 : x / bp 15 < 18446744073709551616 := by
    rw [Nat.div_lt_iff_lt_mul (bp_pos 15), Nat.mul_comm]
    exact hx
  rw [Nat.mod_eq_of_lt h1, Nat.le_div_iff_mul_le (bp_pos 15), Nat.mul_comm]
/-- Which whole numbers a wide number may be. -/
def InR (z : Int) : Prop := -(hb : Int) ≤ z ∧ z < hb
instance (z : Int) : Decidable (InR z) := by unfold InR; infer_instance
/-- The limbs' number of a whole number, in two's complement. -/
def enc (z : Int) : Nat := (z % (bp 16 : Int)).toNat
theorem enc_lt (z : Int) : enc z < bp 16 := by
  unfold enc
  have h := bp_pos 16
  have := Int.emod_lt_of_pos z (show (0 : Int) < (bp 16 : Int) by omega)
  have := Int.emod_nonneg z (show ((bp 16 : Nat) : Int) ≠ 0 by omega)
  omega
theorem enc_nn {z : Int} (h : InR z) (h0 : 0 ≤ z) : enc z = z.natAbs ∧ enc z < hb := by
  obtain ⟨_, h2⟩ := h
  have h3 := bp16
  unfold enc
  rw [Int.emod_eq_of_lt h0 (by omega)]
  omega
theorem enc_neg {z : Int} (h : InR z) (h0 : z < 0) : enc z = bp 16 - z.natAbs ∧ hb ≤ enc z := by
  obtain ⟨h1, h2⟩ := h
  have h3 := bp16
  have h4 : z % (bp 16 : Int) = z + bp 16 := by
    rw [← Int.add_emod_right, Int.emod_eq_of_lt (by omega) (by omega)]
  unfold enc
  rw [h4]
  omega
theorem enc_inj {a b : Int} (ha : InR a) (hb' : InR b) (h : enc a = enc b) : a = b := by
  have h3 := bp16
  have h1 : (a % (bp 16 : Int)).toNat = (b % (bp 16 : Int)).toNat := h
  by_cases a0 : 0 ≤ a
  · have := enc_nn ha a0
    by_cases b0 : 0 ≤ b
    · have := enc_nn hb' b0; omega
    · have := enc_neg hb' (by omega); omega
  · have := enc_neg ha (by omega)
    by_cases b0 : 0 ≤ b
    · have := enc_nn hb' b0; omega
    · have := enc_neg hb' (by omega)
      obtain ⟨_, _⟩ := ha; obtain ⟨_, _⟩ := hb'; omega
theorem enc_neg_iff {z : Int} (h : InR z) : hb ≤ enc z ↔ z < 0 := by
  by_cases h0 : 0 ≤ z
  · have := enc_nn h h0; omega
  · have := enc_neg h (by omega); omega
theorem enc_zero : enc 0 = 0 := by unfold enc; simp
/-- Each number of that many limbs is some whole number's. -/
theorem enc_surj {x : Nat} (hx : x < bp 16) : ∃ z, InR z ∧ enc z = x := by
  have h3 := bp16
  by_cases h : x < hb
  · refine ⟨x, ⟨by omega, by omega⟩, ?_⟩
    have := enc_nn (z := x) ⟨by omega, by omega⟩ (by omega)
    omega
  · refine ⟨(x : Int) - bp 16, ⟨by omega, by omega⟩, ?_⟩
    have := enc_neg (z := (x : Int) - bp 16) ⟨by omega, by omega⟩ (by omega)
    omega
theorem enc_add (a b : Int) : (enc a + enc b) % bp 16 = enc (a + b) := by
  have h := bp_pos 16
  have ha := Int.emod_nonneg a (show ((bp 16 : Nat) : Int) ≠ 0 by omega)
  have hb' := Int.emod_nonneg b (show ((bp 16 : Nat) : Int) ≠ 0 by omega)
  unfold enc
  rw [Int.add_emod a b]
  generalize a % (bp 16 : Int) = u at *
  generalize b % (bp 16 : Int) = v at *
  obtain ⟨u, rfl⟩ := Int.eq_ofNat_of_zero_le ha
  obtain ⟨v, rfl⟩ := Int.eq_ofNat_of_zero_le hb'
  simp only [Int.toNat_natCast]
  rw [← Int.natCast_add, ← Int.natCast_emod, Int.toNat_natCast]
theorem enc_sub (a b : Int) : (enc a + bp 16 - enc b) % bp 16 = enc (a - b) := by
  have h := bp_pos 16
  have hlb := enc_lt b
  have ha := Int.emod_nonneg a (show ((bp 16 : Nat) : Int) ≠ 0 by omega)
  have hb' := Int.emod_nonneg b (show ((bp 16 : Nat) : Int) ≠ 0 by omega)
  unfold enc at *
  rw [Int.sub_emod a b]
  generalize a % (bp 16 : Int) = u at *
  generalize b % (bp 16 : Int) = v at *
  obtain ⟨u, rfl⟩ := Int.eq_ofNat_of_zero_le ha
  obtain ⟨v, rfl⟩ := Int.eq_ofNat_of_zero_le hb'
  simp only [Int.toNat_natCast] at *
  rw [← Int.add_emod_right, show (u : Int) - (v : Int) + (bp 16 : Int) = ((u + bp 16 - v : Nat) : Int) by omega, ← Int.natCast_emod, Int.toNat_natCast]
theorem enc_natAbs {z : Int} (h : InR z) : z.natAbs ≤ hb ∧ z.natAbs < bp 16 := by
  have h3 := bp16; have := hb_pos; obtain ⟨_, _⟩ := h; omega
theorem InR.out {z : Int} (h : InR z) : -(hb : Int) ≤ z ∧ z < hb := h
theorem InR.mk' {z : Int} (h : -(hb : Int) ≤ z ∧ z < hb) : InR z := h
attribute [irreducible] bp hb InR enc limb sumL
end Go.Proofs.Ytlkolfnklbldcaa
