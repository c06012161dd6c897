/-
  The reference's amounts: slices of limbs without noughts behind.
-/
import Derived.Test.YtlkolfnklbldcaaPow
namespace Go.Proofs.Ytlkolfnklbldcaa
open Go Go.RowKit
set_option maxRecDepth 100000

/-! ### How many limbs a number has -/
theorem lt_bp_self (x : Nat) : x < bp x := by
  induction x with
  | zero => rw [bp_zero]; omega
  | succ n ih => rw [bp_succ]; omega
def nl (x : Nat) : Nat := lenL (limb x) x
theorem sum_len {x N : Nat} (h : x < bp N) : sumL (limb x) (lenL (limb x) N) = x := by
  rw [lenL_sum, sumL_limb, Nat.mod_eq_of_lt h]
theorem lt_bp_len {x N : Nat} (h : x < bp N) : x < bp (lenL (limb x) N) := by
  have h1 := sum_len h
  have h2 := sumL_lt (f := limb x) (k := lenL (limb x) N) fun i _ => limb_lt x i
  omega
theorem nl_eq {x N : Nat} (h : x < bp N) : lenL (limb x) N = nl x := by
  have h1 := lt_bp_len h
  have h2 := lenL_top (limb x) N
  have hle : lenL (limb x) N ≤ x ∨ lenL (limb x) N = 0 := by
    rcases Nat.eq_zero_or_pos (lenL (limb x) N) with h0 | h0
    · exact .inr h0
    · have h3 := bp_le_of_len (limb x) N h0
      rw [sumL_limb, Nat.mod_eq_of_lt h] at h3
      have h4 := lt_bp_self (lenL (limb x) N - 1)
      exact .inl (by omega)
  refine (lenL_of (limb x) (by omega) (fun i hi _ => limb_of_small h1 hi) ?_).symm
  rcases Nat.eq_zero_or_pos (lenL (limb x) N) with h0 | h0
  · exact .inl h0
  · exact .inr (h2 h0)
theorem lt_bp_nl (x : Nat) : x < bp (nl x) := lt_bp_len (lt_bp_self x)
theorem bp_le_nl {x : Nat} (h : 0 < nl x) : bp (nl x - 1) ≤ x := by
  have h3 := bp_le_of_len (limb x) x h
  rw [sumL_limb, Nat.mod_eq_of_lt (lt_bp_self x)] at h3
  exact h3
theorem nl_le {x k : Nat} (h : x < bp k) : nl x ≤ k := by rw [← nl_eq h]; exact lenL_le _ _
theorem nl_zero : nl 0 = 0 := rfl
theorem nl_pos {x : Nat} (h : 0 < x) : 0 < nl x := by
  rcases Nat.eq_zero_or_pos (nl x) with h0 | h0
  · have := lt_bp_nl x
    rw [h0, bp_zero] at this
    omega
  · exact h0
theorem nl_pos_iff {x : Nat} : 0 < nl x ↔ 0 < x := by
  constructor
  · intro h
    rcases Nat.eq_zero_or_pos x with h0 | h0
    · subst h0; simp [nl_zero] at h
    · exact h0
  · exact nl_pos
theorem limb_nl {x i : Nat} (h : nl x ≤ i) : limb x i = 0 := limb_of_small (lt_bp_nl x) h
theorem sum_nl (x : Nat) : sumL (limb x) (nl x) = x := sum_len (lt_bp_self x)
theorem nl_sum {S : Nat → Nat} {n : Nat} (hS : ∀ i, i < n → S i < 18446744073709551616) : nl (sumL S n) = lenL S n := by
  rw [← nl_eq (sumL_lt hS)]
  exact lenL_congr fun i hi => limb_sumL hS hi

/-! ### An amount in memory -/
def Am (w : World) (v : Value) (x : Nat) : Prop :=
  ∃ a c, v = .slice a (nl x) c ∧ nl x ≤ c ∧ (0 < nl x → ∃ b C, a = some ⟨b, 0, none⟩ ∧ Blk w b 25 C ∧ ∀ i, i < nl x → C[i]? = some (.int .u64 (limb x i : Nat)))
theorem Am.up {w w' : World} {v : Value} {x : Nat} (h : Am w v x) (hu : Up w w') : Am w' v x := by
  obtain ⟨a, c, h1, h2, h3⟩ := h
  refine ⟨a, c, h1, h2, fun h0 => ?_⟩
  obtain ⟨b, C, h4, h6, h7⟩ := h3 h0
  exact ⟨b, C, h4, h6.up hu, h7⟩
/-- As a walk wants it: the slice, and its cells in every world that stands above. -/
theorem Am.open {w : World} {v : Value} {x : Nat} (h : Am w v x) : ∃ a c, v = .slice a (nl x) c ∧ nl x ≤ c ∧
    ∀ i, i < nl x → ∃ b, a = some ⟨b, 0, none⟩ ∧ b < w.heap.size ∧ ∀ w', Up w w' → w'.cell? ⟨b, i, none⟩ = some (.int .u64 (limb x i : Nat)) := by
  obtain ⟨a, c, h1, h2, h3⟩ := h
  refine ⟨a, c, h1, h2, fun i hi => ?_⟩
  obtain ⟨b, C, h4, h6, h7⟩ := h3 (by omega)
  exact ⟨b, h4, h6.lt, fun w' hu => (h6.up hu).cell i (h7 i hi)⟩
theorem am_nil (w : World) : Am w (.slice none 0 0) 0 := ⟨none, 0, by rw [nl_zero], by rw [nl_zero]; exact Nat.le_refl _, fun h => by rw [nl_zero] at h; omega⟩
theorem am_blk {w : World} {b n c : Nat} {S : Nat → Nat} {C : Array Value} (hB : Blk w b 25 C) (hC : ∀ i, i < n → C[i]? = some (.int .u64 (S i : Nat))) (hc : n ≤ c) (hS : ∀ i, i < n → S i < 18446744073709551616) :
    Am w (.slice (some ⟨b, 0, none⟩) (lenL S n) c) (sumL S n) := by
  have h1 := lenL_le S n
  refine ⟨_, c, by rw [nl_sum hS], by rw [nl_sum hS]; omega, fun _ => ⟨b, C, rfl, hB, fun i hi => ?_⟩⟩
  rw [nl_sum hS] at hi
  rw [limb_sumL hS (by omega)]
  exact hC i (by omega)
theorem am_row {w : World} {b n N c : Nat} {S : Nat → Nat} (hR : Row w b 25 N S) (hN : n ≤ N) (hc : n ≤ c) (hS : ∀ i, i < n → S i < 18446744073709551616) :
    Am w (.slice (some ⟨b, 0, none⟩) (lenL S n) c) (sumL S n) := am_blk hR (fun i hi => cells_get N S i (by omega)) hc hS
def slen : Value → Nat
  | .slice _ n _ => n
  | _ => 0
set_option maxHeartbeats 400000 in
theorem trim_cells (b n c : Nat) (S : Nat → Nat) (w : World) (hR : ∀ i, i < n → w.cell? ⟨b, i, none⟩ = some (.int .u64 (S i : Nat))) (hc : n ≤ c) (hn : n < 1000000) :
    Calls Try.prog 38 #[.slice (some ⟨b, 0, none⟩) n c] w fun e w' => e = .returned (.slice (some ⟨b, 0, none⟩) (lenL S n) c) ∧ Up w w' := by
  go_enter Try.func38, Try.ntmps38
  go_wp2
  go_loopw [0] (fun t wr => ∃ k : Nat, k ≤ n ∧ t = .slice (some ⟨b, 0, none⟩) k c ∧ lenL S k = lenL S n ∧ wr = w) (fun t _ => slen t)
  case atStart => exact ⟨n, Nat.le_refl _, rfl, rfl, rfl⟩
  case round =>
    obtain ⟨k, hk, rfl, hl, rfl⟩ := hrel
    by_cases h0 : 0 < k
    · obtain ⟨j, rfl⟩ : ∃ j, k = j + 1 := ⟨k - 1, by omega⟩
      have hcx := hR j (by omega)
      have hstep := lenL_succ S j
      have hjc : (j : Int) ≤ c := by omega
      generalize S j = s at *
      by_cases hs : s = 0
      · subst hs
        rw [if_pos rfl] at hstep
        have HL := hid (hstep.symm.trans hl)
        clear hstep hl
        go_wp2
        go_roundw
        case rel => exact ⟨j, by omega, rfl, HL.out, trivial⟩
        case measure => simp [slen]
      · rw [if_neg hs] at hstep
        have HL := hid (hstep.symm.trans hl)
        have hb : ((s : Int) == 0) = false := by simpa using hs
        clear hstep hl hs
        go_wp2
        go_ret
        exact ⟨by rw [← HL.out]; rfl, (by repeat (first | assumption | (with_reducible apply Up.of) | (with_reducible exact Below.refl _ _) | (with_reducible exact Up.refl _) | ((with_reducible apply bl_setRow); (focus (first | exact Nat.le_refl _ | (simp; done) | (simp; omega) | omega))) | (with_reducible apply below_drewN) | (with_reducible apply Below.drew) | ((with_reducible apply bl_alloc); (focus (first | exact Nat.le_refl _ | (simp; done) | (simp; omega) | omega))) | ((with_reducible apply bl_setCell); (focus (first | exact Nat.le_refl _ | (simp; done) | (simp; omega) | omega))) | ((with_reducible apply up_tr); assumption)))⟩
    · obtain rfl : k = 0 := by omega
      have HL := hid hl
      clear hl
      go_wp2
      go_ret
      exact ⟨by rw [← HL.out]; rfl, (by repeat (first | assumption | (with_reducible apply Up.of) | (with_reducible exact Below.refl _ _) | (with_reducible exact Up.refl _) | ((with_reducible apply bl_setRow); (focus (first | exact Nat.le_refl _ | (simp; done) | (simp; omega) | omega))) | (with_reducible apply below_drewN) | (with_reducible apply Below.drew) | ((with_reducible apply bl_alloc); (focus (first | exact Nat.le_refl _ | (simp; done) | (simp; omega) | omega))) | ((with_reducible apply bl_setCell); (focus (first | exact Nat.le_refl _ | (simp; done) | (simp; omega) | omega))) | ((with_reducible apply up_tr); assumption)))⟩
theorem trim_row (b n N c : Nat) (S : Nat → Nat) (w : World) (hR : Row w b 25 N S) (hN : n ≤ N) (hc : n ≤ c) (hn : n < 1000000) :
    Calls Try.prog 38 #[.slice (some ⟨b, 0, none⟩) n c] w fun e w' => e = .returned (.slice (some ⟨b, 0, none⟩) (lenL S n) c) ∧ Up w w' :=
  trim_cells b n c S w (fun i hi => hR.cell i (by omega)) hc hn
end Go.Proofs.Ytlkolfnklbldcaa
