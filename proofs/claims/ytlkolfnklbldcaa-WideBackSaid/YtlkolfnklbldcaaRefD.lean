/-
  The reference's order of amounts; its sums and differences of whole numbers.
-/
import Derived.Test.YtlkolfnklbldcaaRefC
import Derived.BigQuiet
import Derived.Deep.QuietTactic
namespace Go.Proofs.Ytlkolfnklbldcaa
open Go Go.RowKit
set_option maxRecDepth 100000

theorem ord_len {x y : Nat} (h : nl x < nl y) : x < y := by
  have h1 := lt_bp_nl x
  have h2 := bp_le_nl (show 0 < nl y by omega)
  have h3 := bp_mono (show nl x ≤ nl y - 1 by omega)
  omega
set_option maxHeartbeats 1000000 in
theorem cmp_am {x y : Nat} {va vb : Value} {w : World} (ha : Am w va x) (hb : Am w vb y) (_ : nl x < 1000000) (hy : nl y < 1000000) :
    Calls Try.prog 47 #[va, vb] w fun e w' => e = .returned (.int .i64 (ordZ x y)) ∧ Up w w' := by
  obtain ⟨a, ca, rfl, hca1, hca0⟩ := ha.open
  obtain ⟨b, cb, rfl, hcb1, hcb0⟩ := hb.open
  clear ha hb
  rcases Nat.lt_trichotomy (nl x) (nl y) with h | h | h
  · have e : ordZ x y = -1 := by unfold ordZ; rw [if_pos (ord_len h)]
    rw [e]
    have d0 : ((nl x : Int) != (nl y : Nat)) = true := by simp; omega
    have d1 : decide ((nl x : Int) < (nl y : Nat)) = true := decide_eq_true (by omega)
    clear e hca0 hcb0
    generalize nl x = p at *
    generalize nl y = q at *
    go_enter Try.func47, Try.ntmps47
    go_wp2
    go_ret
    exact ⟨rfl, (by repeat (first | assumption | (with_reducible apply Up.of) | (with_reducible exact Below.refl _ _) | (with_reducible exact Up.refl _) | ((with_reducible apply bl_setRow); (focus (first | exact Nat.le_refl _ | (simp; done) | (simp; omega) | omega))) | (with_reducible apply below_drewN) | (with_reducible apply Below.drew) | ((with_reducible apply bl_alloc); (focus (first | exact Nat.le_refl _ | (simp; done) | (simp; omega) | omega))) | ((with_reducible apply bl_setCell); (focus (first | exact Nat.le_refl _ | (simp; done) | (simp; omega) | omega))) | ((with_reducible apply up_tr); assumption)))⟩
  · have H := hid h
    go_enter Try.func47, Try.ntmps47
    rw [h]
    clear h
    go_wp2
    go_loopw [5] (fun i wr => ∃ m : Nat, m ≤ nl y ∧ i = .int .i64 ((m : Int) - 1) ∧ (∀ i, m ≤ i → i < nl y → limb x i = limb y i) ∧ Below w.heap.size w wr)
      (fun i _ => (intOf i + 1).toNat)
    case atStart => exact ⟨nl y, Nat.le_refl _, rfl, fun i h1 h2 => by omega, Below.refl _ _⟩
    case round =>
      obtain ⟨m, hm, rfl, hgx, hB⟩ := hrel
      have Hgx := hid hgx
      clear hgx
      by_cases hlt : 0 < m
      · obtain ⟨k, rfl⟩ : ∃ k, m = k + 1 := ⟨m - 1, by omega⟩
        have e : (((k + 1 : Nat) : Int) - 1) = (k : Int) := by omega
        rw [e]
        clear e
        have hHy := H.out
        obtain ⟨ba, rfl, hba, hca⟩ := hca0 k (by omega)
        obtain ⟨bb, rfl, hbb, hcb⟩ := hcb0 k (by omega)
        clear hHy
        have hcx := hca wr hB
        have hcy := hcb wr hB
        have hl1 := limb_lt x k
        have hl2 := limb_lt y k
        have sx : sumL (limb x) (nl y) = x := by rw [← H.out]; exact sum_nl x
        have sy := sum_nl y
        have h1 : limb x k < limb y k → ordZ x y = -1 := fun h => by
          have := sumL_lt_of (fun i _ => limb_lt x i) (show k < nl y by omega) (fun j h1 h2 => Hgx.out j (by omega) h2) h
          rw [sx, sy] at this
          simp [ordZ, this]
        have h2 : limb y k < limb x k → ordZ x y = 1 := fun h => by
          have := sumL_lt_of (fun i _ => limb_lt y i) (show k < nl y by omega) (fun j h1 h2 => (Hgx.out j (by omega) h2).symm) h
          rw [sx, sy] at this
          have h3 : ¬ x < y := by omega
          simp [ordZ, this, h3]
        have hE : limb x k = limb y k → ∀ i, k ≤ i → i < nl y → limb x i = limb y i := fun h i h1 h2 => by
          by_cases e : i = k
          · rw [e]; exact h
          · exact Hgx.out i (by omega) h2
        have H1 := hid h1
        have H2 := hid h2
        have HE := hid hE
        clear sx sy h1 h2 hE hca hcb hca0 hcb0
        generalize limb x k = lx at *
        generalize limb y k = ly at *
        rcases Nat.lt_trichotomy lx ly with h | h | h
        · have d0 : ((lx : Int) != ly) = true := by simp; omega
          have d1 : decide ((lx : Int) < ly) = true := decide_eq_true (by omega)
          go_wp2
          go_quiet (fail)
          go_wp2
          go_quiet (fail)
          go_wp2
          go_ret
          exact ⟨ret_int (H1.out h).symm, below_drewN (below_drewN hB _) _⟩
        · have HF := hid (HE.out h)
          have d0 : ((lx : Int) != ly) = false := by simp; omega
          clear HE
          go_wp2
          go_quiet (fail)
          go_wp2
          go_roundw
          case rel => exact ⟨k, by omega, by go_num, HF.out, below_drewN hB _⟩
          case measure => simp [intOf] <;> omega
        · have d0 : ((lx : Int) != ly) = true := by simp; omega
          have d1 : decide ((lx : Int) < ly) = false := decide_eq_false (by omega)
          go_wp2
          go_quiet (fail)
          go_wp2
          go_quiet (fail)
          go_wp2
          go_ret
          exact ⟨ret_int (H2.out h).symm, below_drewN (below_drewN hB _) _⟩
      · obtain rfl : m = 0 := by omega
        have h0 : x = y := by
          rw [← sum_nl x, ← sum_nl y, H.out]
          exact sumL_congr fun i hi => Hgx.out i (by omega) hi
        have H0 := hid h0
        clear h0
        go_wp2
        go_ret
        exact ⟨ret_int (by simp [ordZ, H0.out]), hB⟩
  · have e : ordZ x y = 1 := by
      have := ord_len h
      unfold ordZ
      rw [if_neg (by omega)]
      first | rw [if_neg (by omega)] | rw [if_pos (by omega)]
    rw [e]
    have d0 : ((nl x : Int) != (nl y : Nat)) = true := by simp; omega
    have d1 : decide ((nl x : Int) < (nl y : Nat)) = false := decide_eq_false (by omega)
    clear e hca0 hcb0
    generalize nl x = p at *
    generalize nl y = q at *
    go_enter Try.func47, Try.ntmps47
    go_wp2
    go_ret
    exact ⟨rfl, (by repeat (first | assumption | (with_reducible apply Up.of) | (with_reducible exact Below.refl _ _) | (with_reducible exact Up.refl _) | ((with_reducible apply bl_setRow); (focus (first | exact Nat.le_refl _ | (simp; done) | (simp; omega) | omega))) | (with_reducible apply below_drewN) | (with_reducible apply Below.drew) | ((with_reducible apply bl_alloc); (focus (first | exact Nat.le_refl _ | (simp; done) | (simp; omega) | omega))) | ((with_reducible apply bl_setCell); (focus (first | exact Nat.le_refl _ | (simp; done) | (simp; omega) | omega))) | ((with_reducible apply up_tr); assumption)))⟩
end Go.Proofs.Ytlkolfnklbldcaa
