/-
  Plain: sums of bytes (for layer 10): a step is one-to-one, a byte that is another one makes another sum, a sum behind its own bytes is nought.
-/
namespace Go.Proofs.Ytmpikkhfeogdcaa

/-- One step: moved to the left by one, and changed by 0x1021, if the highest bit was 1. -/
def crS (s : Nat) : Nat := if 32768 ≤ s then (2 * s - 65536) ^^^ 4129 else 2 * s
theorem xor_back (a c : Nat) : (a ^^^ c) ^^^ c = a := by rw [Nat.xor_assoc, Nat.xor_self, Nat.xor_zero]
theorem xor_lt16 {a b : Nat} (ha : a < 65536) (hb : b < 65536) : a ^^^ b < 65536 := Nat.xor_lt_two_pow (n := 16) ha hb
theorem crS_lt {s : Nat} (h : s < 65536) : crS s < 65536 := by
  unfold crS
  split
  · exact xor_lt16 (by omega) (by decide)
  · omega
theorem crS_inj {s t : Nat} (hs : s < 65536) (ht : t < 65536) (h : crS s = crS t) : s = t := by
  have p1 : ∀ a, ((2 * a) ^^^ 4129) % 2 = 1 := fun a => by
    rw [Nat.mod_two_eq_one_iff_testBit_zero, Nat.testBit_xor, Nat.testBit_zero, Nat.testBit_zero, show 2 * a % 2 = 0 by omega]
    rfl
  have e : ∀ a, 32768 ≤ a → 2 * a - 65536 = 2 * (a - 32768) := fun a h => by omega
  unfold crS at h
  by_cases h1 : 32768 ≤ s <;> by_cases h2 : 32768 ≤ t
  · rw [if_pos h1, if_pos h2] at h
    have h3 : ((2 * s - 65536) ^^^ 4129) ^^^ 4129 = ((2 * t - 65536) ^^^ 4129) ^^^ 4129 := by rw [h]
    rw [xor_back, xor_back] at h3
    omega
  · rw [if_pos h1, if_neg h2, e s h1] at h
    have h3 := p1 (s - 32768)
    omega
  · rw [if_neg h1, if_pos h2, e t h2] at h
    have h3 := p1 (t - 32768)
    omega
  · rw [if_neg h1, if_neg h2] at h
    omega
/-- k steps. -/
def crI : Nat → Nat → Nat
  | 0, s => s
  | k + 1, s => crI k (crS s)
theorem crI_lt : ∀ (k : Nat) {s : Nat}, s < 65536 → crI k s < 65536
  | 0, _, h => h
  | k + 1, _, h => crI_lt k (crS_lt h)
theorem crI_inj : ∀ (k : Nat) {s t : Nat}, s < 65536 → t < 65536 → crI k s = crI k t → s = t
  | 0, _, _, _, _, h => h
  | k + 1, _, _, hs, ht, h => crS_inj hs ht (crI_inj k (crS_lt hs) (crS_lt ht) h)
theorem crI_succ : ∀ (k s : Nat), crI (k + 1) s = crS (crI k s)
  | 0, _ => rfl
  | k + 1, s => crI_succ k (crS s)
/-- A byte more. -/
def crM (s b : Nat) : Nat := crI 8 (s ^^^ (b * 256))
theorem crM_lt {s b : Nat} (hs : s < 65536) (hb : b < 256) : crM s b < 65536 := crI_lt 8 (xor_lt16 hs (by omega))
theorem crM_sum {s t b : Nat} (hs : s < 65536) (ht : t < 65536) (hb : b < 256) (h : crM s b = crM t b) : s = t := by
  have h0 := crI_inj 8 (xor_lt16 hs (by omega)) (xor_lt16 ht (by omega)) h
  have h1 : (s ^^^ (b * 256)) ^^^ (b * 256) = (t ^^^ (b * 256)) ^^^ (b * 256) := by rw [h0]
  rw [xor_back, xor_back] at h1
  exact h1
theorem crM_byte {s b c : Nat} (hs : s < 65536) (hb : b < 256) (hc : c < 256) (h : crM s b = crM s c) : b = c := by
  have h0 := crI_inj 8 (xor_lt16 hs (by omega)) (xor_lt16 hs (by omega)) h
  have h1 : s ^^^ (s ^^^ (b * 256)) = s ^^^ (s ^^^ (c * 256)) := by rw [h0]
  rw [← Nat.xor_assoc, ← Nat.xor_assoc, Nat.xor_self, Nat.zero_xor, Nat.zero_xor] at h1
  omega
/-- All bytes, from s on. -/
def crL (s : Nat) (l : List Nat) : Nat := l.foldl crM s
theorem crL_app (s : Nat) (l m : List Nat) : crL s (l ++ m) = crL (crL s l) m := by unfold crL; rw [List.foldl_append]
theorem crL_nil (s : Nat) : crL s [] = s := by unfold crL; rw [List.foldl_nil]
theorem crL_cons (s b : Nat) (l : List Nat) : crL s (b :: l) = crL (crM s b) l := by unfold crL; rw [List.foldl_cons]
theorem crL_lt {l : List Nat} : ∀ {s : Nat}, s < 65536 → (∀ b ∈ l, b < 256) → crL s l < 65536 := by
  induction l with
  | nil => intro s hs _; rw [crL_nil]; exact hs
  | cons b l ih => intro s hs h; rw [crL_cons]; exact ih (crM_lt hs (h b (by simp))) fun c hc => h c (by simp [hc])
theorem crL_inj {l : List Nat} : ∀ {s t : Nat}, s < 65536 → t < 65536 → (∀ b ∈ l, b < 256) → crL s l = crL t l → s = t := by
  induction l with
  | nil => intro s t _ _ _ h; rw [crL_nil, crL_nil] at h; exact h
  | cons b l ih =>
    intro s t hs ht hb h
    rw [crL_cons, crL_cons] at h
    have h9 := hb b (by simp)
    exact crM_sum hs ht h9 (ih (crM_lt hs h9) (crM_lt ht h9) (fun c hc => hb c (by simp [hc])) h)
/-- A byte that is another one makes another sum. -/
theorem crL_sees {l m : List Nat} {b c s : Nat} (hs : s < 65536) (hl : ∀ x ∈ l, x < 256) (hm : ∀ x ∈ m, x < 256) (hb : b < 256) (hc : c < 256) (hbc : b ≠ c) : crL s (l ++ b :: m) ≠ crL s (l ++ c :: m) := fun h => by
  rw [crL_app, crL_app, crL_cons, crL_cons] at h
  have hq := crL_lt hs hl
  exact hbc (crM_byte hq hb hc (crL_inj (l := m) (crM_lt hq hb) (crM_lt hq hc) hm h))
theorem cr_high : ((List.range 256).all fun h => (List.range 256).all fun l => (h * 256 + l) ^^^ (h * 256) == l) = true := by decide +kernel
theorem cr_low : ((List.range 256).all fun l => crI 8 l == l * 256) = true := by decide +kernel
theorem cr_nought : crI 8 0 = 0 := by decide +kernel
/-- A sum behind its own bytes is nought. -/
theorem crM_self {s : Nat} (hs : s < 65536) : crM (crM s (s / 256)) (s % 256) = 0 := by
  have h1 := List.all_eq_true.1 cr_high (s / 256) (List.mem_range.2 (by omega))
  have h1 := List.all_eq_true.1 h1 (s % 256) (List.mem_range.2 (by omega))
  have h2 := List.all_eq_true.1 cr_low (s % 256) (List.mem_range.2 (by omega))
  have e : s / 256 * 256 + s % 256 = s := by omega
  rw [e] at h1
  have g1 := beq_iff_eq.1 h1
  have g2 := beq_iff_eq.1 h2
  have e1 : crM s (s / 256) = s % 256 * 256 := by unfold crM; rw [g1, g2]
  rw [e1]
  unfold crM
  rw [Nat.xor_self]
  exact cr_nought
theorem crL_self {l : List Nat} {s : Nat} (hs : s < 65536) (hl : ∀ x ∈ l, x < 256) : crL s (l ++ [crL s l / 256, crL s l % 256]) = 0 := by
  rw [crL_app, crL_cons, crL_cons, crL_nil]
  exact crM_self (crL_lt hs hl)
theorem cr_known : crL 65535 [49, 50, 51, 52, 53, 54, 55, 56, 57] = 10673 := by decide +kernel
end Go.Proofs.Ytmpikkhfeogdcaa
