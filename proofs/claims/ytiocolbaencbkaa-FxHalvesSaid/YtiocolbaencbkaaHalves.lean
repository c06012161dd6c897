/-
  FxHalves and FxBack: of two that are as near the greater one is told; what is added is taken off again.
-/
import Derived.Test.YtiocolbaencbkaaFxSide
import Derived.Test.YtiocolbaencbkaaPow
namespace Go.Proofs.Ytiocolbaencbkaa
open Go Go.RowKit
set_option maxRecDepth 100000

theorem nearV_in {a b c z : Int} (hc : 0 < c) (h : (2 * (a * b) + c) / (2 * c) = z) (z1 : -9223372036854775808 ≤ z) (z2 : z < 9223372036854775808) : nearV a b c = .tuple #[.int .i64 z, .bool true] := by
  unfold nearV
  rw [if_pos hc, h, i64V_yes ⟨z1, z2⟩]
theorem near_half {v d : Int} (hd : 0 < d) : (2 * ((2 * v + 1) * d) + 2 * d) / (2 * (2 * d)) = v + 1 := by
  rw [show 2 * ((2 * v + 1) * d) + 2 * d = (v + 1) * (2 * (2 * d)) by grind]
  exact Int.mul_ediv_cancel _ (by omega)
theorem near_unit {v d : Int} (hd : 0 < d) : ∃ b m : Int, (2 * (v * 1) + d) / (2 * d) = b ∧ b * d = m ∧ -d ≤ 2 * (v - m) ∧ 2 * (v - m) < d := by
  refine ⟨_, _, rfl, rfl, ?_, ?_⟩
  all_goals
    have h1 := Int.ediv_mul_add_emod (2 * (v * 1) + d) (2 * d)
    have h2 := Int.emod_nonneg (2 * (v * 1) + d) (show 2 * d ≠ 0 by omega)
    have h3 := Int.emod_lt_of_pos (2 * (v * 1) + d) (show 0 < 2 * d by omega)
    generalize (2 * (v * 1) + d) / (2 * d) = q at *
    generalize (2 * (v * 1) + d) % (2 * d) = r at *
    rw [show q * (2 * d) = 2 * (q * d) by grind] at h1
    generalize q * d = m at *
    omega
theorem mul_bound {b d m v : Int} (hd : 0 < d) (h : b * d = m) (h1 : -d ≤ 2 * (v - m)) (h2 : 2 * (v - m) < d) (v1 : -2147483648 ≤ v) (v2 : v < 2147483648) (hd2 : d ≤ 65536) : -2147483648 - 65536 ≤ b ∧ b ≤ 2147483648 + 65536 := by
  rcases Int.lt_or_le b 0 with hb | hb
  · have h3 : b * d ≤ b * 1 := Int.mul_le_mul_of_nonpos_left (by omega) (by omega)
    omega
  · have h3 : b * 1 ≤ b * d := Int.mul_le_mul_of_nonneg_left (by omega) (by omega)
    omega
theorem halves_w (v c : Int) (v1 : -2147483648 ≤ v) (v2 : v < 2147483648) (c1 : 0 ≤ c) (c2 : c ≤ 65535) (w : World) :
    Calls Try.prog 15 #[.int .i32 v, .int .u16 c] w fun e w' => e = .returned (.bool true) ∧ Up w w' := by
  have HK := hid known2_true
  have hA := fun w => fx_muldiv (2 * v + 1) (c + 1) (2 * (c + 1)) (by omega) (by omega) (by omega) (by omega) (by omega) (by omega) w
  rw [nearV_in (by omega) (near_half (by omega)) (by omega) (by omega)] at hA
  have HA := hid hA
  obtain ⟨b, m, hb, hm, h1, h2⟩ := near_unit (v := v) (d := c + 1) (by omega)
  have hbb := mul_bound (by omega) hm h1 h2 v1 v2 (by omega)
  have hB := fun w => fx_muldiv v 1 (c + 1) (by omega) (by omega) (by omega) (by omega) (by omega) (by omega) w
  rw [nearV_in (by omega) hb (by omega) (by omega)] at hB
  have HB := hid hB
  have d1 : decide (2 * (v - m) < c + 1) = true := decide_eq_true h2
  have d2 : decide (-(c + 1) ≤ 2 * (v - m)) = true := decide_eq_true h1
  have hm1 : -2147549184 ≤ m ∧ m ≤ 2147549184 := by omega
  clear hA hB hb
  go_enter Try.func15, Try.ntmps15
  go_wp2_with (first | (go_at_call 43; refine (HK.out _).mono ?_; rintro e w' ⟨rfl, hu⟩) | (go_at_call 51; (first | (with_reducible refine (HA.out _).mono ?_) | (with_reducible refine (HB.out _).mono ?_)); rintro e w' ⟨rfl, hu⟩))
  go_ret
  exact ⟨rfl, (by repeat (first | assumption | (with_reducible apply Up.of) | (with_reducible exact Below.refl _ _) | (with_reducible exact Up.refl _) | ((with_reducible apply bl_setRow); (focus (first | exact Nat.le_refl _ | (simp; done) | (simp; omega) | omega))) | (with_reducible apply below_drewN) | (with_reducible apply Below.drew) | ((with_reducible apply bl_alloc); (focus (first | exact Nat.le_refl _ | (simp; done) | (simp; omega) | omega))) | ((with_reducible apply bl_setCell); (focus (first | exact Nat.le_refl _ | (simp; done) | (simp; omega) | omega))) | ((with_reducible apply up_tr); assumption)))⟩
theorem near_back {x y : Int} (hy : 0 < y) : (2 * (x * y) + y) / (2 * y) = x := by
  rw [show 2 * (x * y) + y = y + 2 * y * x by grind, Int.add_mul_ediv_left _ _ (by omega), Int.ediv_eq_zero_of_lt (by omega) (by omega)]
  omega
theorem back_w (a b : Int) (k m : Nat) (a1 : -9223372036854775808 ≤ a) (a2 : a < 9223372036854775808) (b1 : -9223372036854775808 ≤ b) (b2 : b < 9223372036854775808) (hk : k < 256) (hm : m < 256) (w : World) :
    Calls Try.prog 14 #[.int .i64 a, .int .i64 b, .int .u8 k, .int .u8 m] w fun e w' => e = .returned (.bool true) ∧ Up w w' := by
  have HK := hid known2_true
  obtain ⟨x, x1, x2, hx⟩ := near_any a a1 a2 k hk
  obtain ⟨y, y1, y2, hy⟩ := near_any b b1 b2 m hm
  have HX := hid hx
  have HY := hid hy
  have hA := fun w => fx_add x y x1 x2 y1 y2 w
  have hP := fun w => fx_mul x y x1 x2 y1 y2 w
  have hQ := fun w => fx_muldiv x y 1 x1 x2 y1 y2 (by decide) (by decide) w
  rw [show nearV x y 1 = i64V (x * y) by
    unfold nearV
    rw [if_pos (by decide), show (2 * (x * y) + 1) / (2 * 1) = x * y by omega]] at hQ
  have hD : ∀ w, Calls Try.prog 51 #[.int .i64 x, .int .i64 y, .int .i64 y] w fun e w' => e = .returned (nearV x y y) ∧ Up w w' := fun w => fx_muldiv x y y x1 x2 y1 y2 y1 y2 w
  obtain ⟨p, ok, hp⟩ : ∃ p ok, i64V (x * y) = .tuple #[.int .i64 p, .bool ok] := ⟨_, _, rfl⟩
  rw [hp] at hP hQ
  have HP := hid hP
  have HQ := hid hQ
  clear hP hQ hp hx hy
  by_cases h : -9223372036854775808 ≤ x + y ∧ x + y < 9223372036854775808
  · have hS := fun w => fx_sub (x + y) y h.1 h.2 y1 y2 w
    rw [Int.add_sub_cancel, i64V_yes ⟨x1, x2⟩] at hS
    rw [i64V_yes h] at hA
    have HA := hid hA
    have HS := hid hS
    clear hS hA
    by_cases h0 : 0 < y
    · rw [nearV_in h0 (near_back h0) x1 x2] at hD
      have HD := hid hD
      clear hD
      have d1 : decide (0 < y) = true := decide_eq_true h0
      go_enter Try.func14, Try.ntmps14
      go_wp2_with (first | (go_at_call 43; refine (HK.out _).mono ?_; rintro e w' ⟨rfl, hu⟩) | (go_at_call 44; (first | (with_reducible refine (HX.out _).mono ?_) | (with_reducible refine (HY.out _).mono ?_)); rintro e w' ⟨rfl, hu⟩) | (go_at_call 51; (first | (with_reducible refine (HQ.out _).mono ?_) | (with_reducible refine (HD.out _).mono ?_)); rintro e w' ⟨rfl, hu⟩) | (go_at_call 45; refine (HA.out _).mono ?_; rintro e w' ⟨rfl, hu⟩) | (go_at_call 46; refine (HS.out _).mono ?_; rintro e w' ⟨rfl, hu⟩) | (go_at_call 47; refine (HP.out _).mono ?_; rintro e w' ⟨rfl, hu⟩))
      go_ret
      exact ⟨rfl, (by repeat (first | assumption | (with_reducible apply Up.of) | (with_reducible exact Below.refl _ _) | (with_reducible exact Up.refl _) | ((with_reducible apply bl_setRow); (focus (first | exact Nat.le_refl _ | (simp; done) | (simp; omega) | omega))) | (with_reducible apply below_drewN) | (with_reducible apply Below.drew) | ((with_reducible apply bl_alloc); (focus (first | exact Nat.le_refl _ | (simp; done) | (simp; omega) | omega))) | ((with_reducible apply bl_setCell); (focus (first | exact Nat.le_refl _ | (simp; done) | (simp; omega) | omega))) | ((with_reducible apply up_tr); assumption)))⟩
    · clear hD
      have d1 : decide (0 < y) = false := decide_eq_false h0
      go_enter Try.func14, Try.ntmps14
      go_wp2_with (first | (go_at_call 43; refine (HK.out _).mono ?_; rintro e w' ⟨rfl, hu⟩) | (go_at_call 44; (first | (with_reducible refine (HX.out _).mono ?_) | (with_reducible refine (HY.out _).mono ?_)); rintro e w' ⟨rfl, hu⟩) | (go_at_call 51; (first | (with_reducible refine (HQ.out _).mono ?_)); rintro e w' ⟨rfl, hu⟩) | (go_at_call 45; refine (HA.out _).mono ?_; rintro e w' ⟨rfl, hu⟩) | (go_at_call 46; refine (HS.out _).mono ?_; rintro e w' ⟨rfl, hu⟩) | (go_at_call 47; refine (HP.out _).mono ?_; rintro e w' ⟨rfl, hu⟩))
      go_ret
      exact ⟨rfl, (by repeat (first | assumption | (with_reducible apply Up.of) | (with_reducible exact Below.refl _ _) | (with_reducible exact Up.refl _) | ((with_reducible apply bl_setRow); (focus (first | exact Nat.le_refl _ | (simp; done) | (simp; omega) | omega))) | (with_reducible apply below_drewN) | (with_reducible apply Below.drew) | ((with_reducible apply bl_alloc); (focus (first | exact Nat.le_refl _ | (simp; done) | (simp; omega) | omega))) | ((with_reducible apply bl_setCell); (focus (first | exact Nat.le_refl _ | (simp; done) | (simp; omega) | omega))) | ((with_reducible apply up_tr); assumption)))⟩
  · rw [i64V_no h] at hA
    have HA := hid hA
    clear hA
    by_cases h0 : 0 < y
    · rw [nearV_in h0 (near_back h0) x1 x2] at hD
      have HD := hid hD
      clear hD
      have d1 : decide (0 < y) = true := decide_eq_true h0
      go_enter Try.func14, Try.ntmps14
      go_wp2_with (first | (go_at_call 43; refine (HK.out _).mono ?_; rintro e w' ⟨rfl, hu⟩) | (go_at_call 44; (first | (with_reducible refine (HX.out _).mono ?_) | (with_reducible refine (HY.out _).mono ?_)); rintro e w' ⟨rfl, hu⟩) | (go_at_call 51; (first | (with_reducible refine (HQ.out _).mono ?_) | (with_reducible refine (HD.out _).mono ?_)); rintro e w' ⟨rfl, hu⟩) | (go_at_call 45; refine (HA.out _).mono ?_; rintro e w' ⟨rfl, hu⟩)  | (go_at_call 47; refine (HP.out _).mono ?_; rintro e w' ⟨rfl, hu⟩))
      go_ret
      exact ⟨rfl, (by repeat (first | assumption | (with_reducible apply Up.of) | (with_reducible exact Below.refl _ _) | (with_reducible exact Up.refl _) | ((with_reducible apply bl_setRow); (focus (first | exact Nat.le_refl _ | (simp; done) | (simp; omega) | omega))) | (with_reducible apply below_drewN) | (with_reducible apply Below.drew) | ((with_reducible apply bl_alloc); (focus (first | exact Nat.le_refl _ | (simp; done) | (simp; omega) | omega))) | ((with_reducible apply bl_setCell); (focus (first | exact Nat.le_refl _ | (simp; done) | (simp; omega) | omega))) | ((with_reducible apply up_tr); assumption)))⟩
    · clear hD
      have d1 : decide (0 < y) = false := decide_eq_false h0
      go_enter Try.func14, Try.ntmps14
      go_wp2_with (first | (go_at_call 43; refine (HK.out _).mono ?_; rintro e w' ⟨rfl, hu⟩) | (go_at_call 44; (first | (with_reducible refine (HX.out _).mono ?_) | (with_reducible refine (HY.out _).mono ?_)); rintro e w' ⟨rfl, hu⟩) | (go_at_call 51; (first | (with_reducible refine (HQ.out _).mono ?_)); rintro e w' ⟨rfl, hu⟩) | (go_at_call 45; refine (HA.out _).mono ?_; rintro e w' ⟨rfl, hu⟩)  | (go_at_call 47; refine (HP.out _).mono ?_; rintro e w' ⟨rfl, hu⟩))
      go_ret
      exact ⟨rfl, (by repeat (first | assumption | (with_reducible apply Up.of) | (with_reducible exact Below.refl _ _) | (with_reducible exact Up.refl _) | ((with_reducible apply bl_setRow); (focus (first | exact Nat.le_refl _ | (simp; done) | (simp; omega) | omega))) | (with_reducible apply below_drewN) | (with_reducible apply Below.drew) | ((with_reducible apply bl_alloc); (focus (first | exact Nat.le_refl _ | (simp; done) | (simp; omega) | omega))) | ((with_reducible apply bl_setCell); (focus (first | exact Nat.le_refl _ | (simp; done) | (simp; omega) | omega))) | ((with_reducible apply up_tr); assumption)))⟩
end Go.Proofs.Ytiocolbaencbkaa
