/-
  wide: order, how many limbs, how many bits.
-/
import Derived.Test.YtlkolfnklbldcaaFaces
namespace Go.Proofs.Ytlkolfnklbldcaa
open Go Go.RowKit
set_option maxRecDepth 100000
set_option maxHeartbeats 400000 in
theorem order_any (x y : Nat) (hx : x < bp 16) (hy : y < bp 16) (w : World) :
    Calls Try.prog 50 #[wideV x, wideV y] w fun e w' => e = .returned (.int .i64 (ordZ x y)) ∧ Up w w' := by
  unfold wideV
  go_enter Try.func50, Try.ntmps50
  go_wp2
  go_loopw [5] (fun i wr => ∃ m : Nat, m ≤ 16 ∧ i = .int .i64 ((m : Int) - 1) ∧ (∀ i, m ≤ i → i < 16 → limb x i = limb y i) ∧
      Row wr w.heap.size 27 16 (limb x) ∧ Row wr (w.heap.size + 1) 27 16 (limb y) ∧ Below w.heap.size w wr)
    (fun i _ => (intOf i + 1).toNat)
  case atStart =>
    refine ⟨16, by omega, rfl, fun i _ _ => by omega, (row_new _ 16 (limb x) _ rfl rfl).up (Up.alloc _ _), (row_new _ 16 (limb y) _ (by simp) rfl), ?_⟩
    exact (((Below.refl _ _).alloc (Nat.le_refl _) _).alloc (by simp) _)
  case round =>
    obtain ⟨m, hm, rfl, hgx, hX, hY, hB⟩ := hrel
    have Hgx := hid hgx
    clear hgx
    by_cases hlt : 0 < m
    · obtain ⟨k, rfl⟩ : ∃ k, m = k + 1 := ⟨m - 1, by omega⟩
      have e : (((k + 1 : Nat) : Int) - 1) = (k : Int) := by omega
      rw [e]
      clear e
      have hcx := hX.cell k (by omega)
      have hcy := hY.cell k (by omega)
      have hl1 := limb_lt x k
      have hl2 := limb_lt y k
      have hlx : (∀ i, i < 16 → limb x i < 18446744073709551616) := fun i _ => limb_lt x i
      have hly : (∀ i, i < 16 → limb y i < 18446744073709551616) := fun i _ => limb_lt y i
      have sx := sumL_limb x 16
      have sy := sumL_limb y 16
      rw [Nat.mod_eq_of_lt hx] at sx
      rw [Nat.mod_eq_of_lt hy] at sy
      have h1 : limb x k < limb y k → ordZ x y = -1 := fun h => by
        have := sumL_lt_of hlx (show k < 16 by omega) (fun j h1 h2 => Hgx.out j (by omega) h2) h
        rw [sx, sy] at this
        simp [ordZ, this]
      have h2 : limb y k < limb x k → ordZ x y = 1 := fun h => by
        have := sumL_lt_of hly (show k < 16 by omega) (fun j h1 h2 => (Hgx.out j (by omega) h2).symm) h
        rw [sx, sy] at this
        have h3 : ¬ x < y := by omega
        simp [ordZ, this, h3]
      have H1 := hid h1
      have H2 := hid h2
      have hE : limb x k = limb y k → ∀ i, k ≤ i → i < 16 → limb x i = limb y i := fun h i h1 h2 => by
        by_cases e : i = k
        · rw [e]; exact h
        · exact Hgx.out i (by omega) h2
      have HE := hid hE
      clear hlx hly sx sy h1 h2 hE
      generalize limb x k = a at *
      generalize limb y k = b at *
      rcases Nat.lt_trichotomy a b with h | h | h
      · go_wp2
        go_quiet (fail)
        go_wp2
        go_ret
        exact ⟨ret_int (H1.out h).symm, below_drewN hB _⟩
      · subst h
        have HF := hid (HE.out rfl)
        clear HE
        go_wp2
        go_quiet (fail)
        go_wp2
        go_quiet (fail)
        go_wp2
        go_roundw
        case rel => exact ⟨k, by omega, by go_num, HF.out, hX, hY, below_drewN hB _⟩
        case measure => simp [intOf] <;> omega
      · have h' : ¬ a < b := by omega
        go_wp2
        go_quiet (fail)
        go_wp2
        go_quiet (fail)
        go_wp2
        go_ret
        exact ⟨ret_int (H2.out h).symm, below_drewN (below_drewN hB _) _⟩
    · obtain rfl : m = 0 := by omega
      have h0 : x = y := by
        rw [← Nat.mod_eq_of_lt hx, ← Nat.mod_eq_of_lt hy, ← sumL_limb, ← sumL_limb]
        exact sumL_congr fun i hi => Hgx.out i (by omega) hi
      have H0 := hid h0
      clear h0
      go_wp2
      go_ret
      exact ⟨ret_int (by simp [ordZ, H0.out]), hB⟩

set_option maxHeartbeats 400000 in
theorem length_any (x : Nat) (w : World) :
    Calls Try.prog 57 #[wideV x] w fun e w' => e = .returned (.int .i64 (lenL (limb x) 16 : Nat)) ∧ Up w w' := by
  unfold wideV
  go_enter Try.func57, Try.ntmps57
  go_wp2
  go_loopw [3] (fun i wr => ∃ m : Nat, m ≤ 16 ∧ i = .int .i64 m ∧ (∀ i, m ≤ i → i < 16 → limb x i = 0) ∧
      Row wr w.heap.size 27 16 (limb x) ∧ Below w.heap.size w wr)
    (fun i _ => (intOf i).toNat)
  case atStart => exact ⟨16, by omega, rfl, fun i _ _ => by omega, (by (repeat (first | assumption | ((with_reducible apply row_newc); (focus (first | rfl | (simp; done)))) | ((with_reducible apply row_newz); (focus (first | rfl | (simp; done)))) | (with_reducible apply row_same) | ((with_reducible apply row_else); (focus (first | (simp; done) | (simp; omega) | omega))) | (with_reducible apply row_alloc) | (with_reducible apply row_drew) | (with_reducible apply row_drewN) | ((with_reducible apply row_up); assumption)))), (by repeat (first | assumption | (with_reducible apply Up.of) | (with_reducible exact Below.refl _ _) | (with_reducible exact Up.refl _) | ((with_reducible apply bl_setRow); (focus (first | exact Nat.le_refl _ | (simp; done) | (simp; omega) | omega))) | (with_reducible apply below_drewN) | (with_reducible apply Below.drew) | ((with_reducible apply bl_alloc); (focus (first | exact Nat.le_refl _ | (simp; done) | (simp; omega) | omega))) | ((with_reducible apply bl_setCell); (focus (first | exact Nat.le_refl _ | (simp; done) | (simp; omega) | omega))) | ((with_reducible apply up_tr); assumption)))⟩
  case round =>
    obtain ⟨m, hm, rfl, hg, hX, hB⟩ := hrel
    have Hg := hid hg
    clear hg
    by_cases hlt : 0 < m
    · obtain ⟨k, rfl⟩ : ∃ k, m = k + 1 := ⟨m - 1, by omega⟩
      have hc := hX.cell k (by omega)
      have hl := limb_lt x k
      have hA : limb x k = 0 → ∀ i, k ≤ i → i < 16 → limb x i = 0 := fun h i h1 h2 => by
        by_cases e : i = k
        · rw [e]; exact h
        · exact Hg.out i (by omega) h2
      have hE : limb x k ≠ 0 → lenL (limb x) 16 = k + 1 := fun h => lenL_of _ hm (fun i h1 h2 => Hg.out i h1 h2) (.inr (by simpa using h))
      have HA := hid hA
      have HE := hid hE
      clear hA hE
      generalize limb x k = a at *
      by_cases h0 : a = 0
      · have HF := hid (HA.out h0)
        subst h0
        clear HA HE
        go_wp2
        go_roundw
        case rel => exact ⟨k, by omega, by go_num, HF.out, hX, hB⟩
        case measure => simp [intOf]
      · have HF := hid (HE.out h0)
        have hb : ((a : Int) == 0) = false := by simpa using h0
        clear HA HE h0
        go_wp2
        go_ret
        exact ⟨ret_int (by rw [HF.out]; first | done | go_num), hB⟩
    · obtain rfl : m = 0 := by omega
      have HF := hid (lenL_of (limb x) (Nat.zero_le 16) (fun i h1 h2 => Hg.out i h1 h2) (.inl rfl))
      go_wp2
      go_ret
      exact ⟨ret_int (by rw [HF.out]; first | done | rfl), hB⟩
end Go.Proofs.Ytlkolfnklbldcaa
