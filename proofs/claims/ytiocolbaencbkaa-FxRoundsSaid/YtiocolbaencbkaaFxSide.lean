/-
  fx: Sqrt, Hypot, and the numbers that the laws of layer 2 ask first.
-/
import Derived.Test.YtiocolbaencbkaaFxRoot
import Derived.Test.YtiocolbaencbkaaFxDiv
namespace Go.Proofs.Ytiocolbaencbkaa
open Go Go.RowKit
set_option maxRecDepth 100000

theorem root_ex (N : Nat) : ∃ r, r * r ≤ N ∧ N < (r + 1) * (r + 1) := by
  induction N with
  | zero => exact ⟨0, by omega, by omega⟩
  | succ N ih =>
    obtain ⟨r, h1, h2⟩ := ih
    by_cases h : N + 1 < (r + 1) * (r + 1)
    · exact ⟨r, by omega, h⟩
    · refine ⟨r + 1, by omega, ?_⟩
      have : (r + 1 + 1) * (r + 1 + 1) = (r + 1) * (r + 1) + 2 * r + 3 := by grind
      omega
theorem sq_lt {r B N : Nat} (h1 : r * r ≤ N) (hN : N < B * B) : r < B := by
  rcases Nat.lt_or_ge r B with h | h
  · exact h
  · have := Nat.mul_le_mul h h
    omega
theorem fx_sqrt (v r : Nat) (hv : v < 18446744073709551616) (h1 : r * r ≤ v) (h2 : v < (r + 1) * (r + 1)) (w : World) :
    Calls Try.prog 53 #[.int .u64 v] w fun e w' => e = .returned (.int .u32 (r : Nat)) ∧ Up w w' := by
  have hr := sq_lt (B := 4294967296) h1 (by omega)
  have hR := fun w => fx_root 0 v r (by decide) hv (by omega) (by omega) w
  rw [show ((0 : Nat) : Int) = 0 from rfl] at hR
  have HR := hid hR
  have e : IntKind.u32.wrap (r : Int) = r := by rw [IntKind.wrap_u32]; omega
  clear hR h1 h2
  go_enter Try.func53, Try.ntmps53
  go_wp2_with (first | (go_at_call 54; refine (HR.out _).mono ?_; rintro e w' ⟨rfl, hu⟩))
  go_ret
  exact ⟨rfl, (by repeat (first | assumption | (with_reducible apply Up.of) | (with_reducible exact Below.refl _ _) | (with_reducible exact Up.refl _) | ((with_reducible apply bl_setRow); (focus (first | exact Nat.le_refl _ | (simp; done) | (simp; omega) | omega))) | (with_reducible apply below_drewN) | (with_reducible apply Below.drew) | ((with_reducible apply bl_alloc); (focus (first | exact Nat.le_refl _ | (simp; done) | (simp; omega) | omega))) | ((with_reducible apply bl_setCell); (focus (first | exact Nat.le_refl _ | (simp; done) | (simp; omega) | omega))) | ((with_reducible apply up_tr); assumption)))⟩
theorem fx_hypot (x y : Int) (r : Nat) (hx : x.natAbs ≤ 2147483648) (hy : y.natAbs ≤ 2147483648) (h1 : r * r ≤ x.natAbs * x.natAbs + y.natAbs * y.natAbs) (h2 : x.natAbs * x.natAbs + y.natAbs * y.natAbs < (r + 1) * (r + 1)) (w : World) :
    Calls Try.prog 56 #[.int .i64 x, .int .i64 y] w fun e w' => e = .returned (.tuple #[.int .i64 (r : Nat), .bool true]) ∧ Up w w' := by
  have HX := hid (fun w => fx_size x (by omega) (by omega) w)
  have HY := hid (fun w => fx_size y (by omega) (by omega) w)
  generalize x.natAbs = p at *
  generalize y.natAbs = q at *
  have hp := Nat.mul_le_mul hx hx
  have hq := Nat.mul_le_mul hy hy
  have e1 : IntKind.u64.wrap ((p : Int) * p) = ((p * p : Nat) : Int) := by
    rw [IntKind.wrap_u64, ← Int.natCast_mul]
    generalize p * p = pp at *
    omega
  have e2 : IntKind.u64.wrap ((q : Int) * q) = ((q * q : Nat) : Int) := by
    rw [IntKind.wrap_u64, ← Int.natCast_mul]
    generalize q * q = pp at *
    omega
  have HS := hid (fun w => fx_sqrt (p * p + q * q) r (by omega) h1 h2 w)
  have hr := sq_lt (B := 4294967296) h1 (by omega)
  generalize p * p = P at *
  generalize q * q = Q at *
  have e3 : IntKind.u64.wrap ((P : Int) + Q) = ((P + Q : Nat) : Int) := by rw [IntKind.wrap_u64]; omega
  generalize P + Q = S at *
  have d1 : decide ((2147483648 : Int) < p) = false := decide_eq_false (by omega)
  have d2 : decide ((2147483648 : Int) < q) = false := decide_eq_false (by omega)
  clear h1 h2 hp hq
  go_enter Try.func56, Try.ntmps56
  go_wp2_with (first | (go_at_call 79; (first | (with_reducible refine (HX.out _).mono ?_) | (with_reducible refine (HY.out _).mono ?_)); rintro e w' ⟨rfl, hu⟩) | (go_at_call 53; refine (HS.out _).mono ?_; rintro e w' ⟨rfl, hu⟩))
  go_ret2
  exact ⟨rfl, (by repeat (first | assumption | (with_reducible apply Up.of) | (with_reducible exact Below.refl _ _) | (with_reducible exact Up.refl _) | ((with_reducible apply bl_setRow); (focus (first | exact Nat.le_refl _ | (simp; done) | (simp; omega) | omega))) | (with_reducible apply below_drewN) | (with_reducible apply Below.drew) | ((with_reducible apply bl_alloc); (focus (first | exact Nat.le_refl _ | (simp; done) | (simp; omega) | omega))) | ((with_reducible apply bl_setCell); (focus (first | exact Nat.le_refl _ | (simp; done) | (simp; omega) | omega))) | ((with_reducible apply up_tr); assumption)))⟩
set_option maxHeartbeats 1000000 in
theorem known2_true (w : World) : Calls Try.prog 43 #[] w fun e w' => e = .returned (.bool true) ∧ Up w w' := by
  have hM := fun w => fx_muldiv 7 1 2 (by decide) (by decide) (by decide) (by decide) (by decide) (by decide) w
  rw [show nearV 7 1 2 = .tuple #[.int .i64 4, .bool true] from rfl] at hM
  have HM := hid hM
  have HH := hid (fun w => fx_hypot 3 4 5 (by decide) (by decide) (by decide) (by decide) w)
  have hA := fun w => fx_add 9223372036854775807 1 (by decide) (by decide) (by decide) (by decide) w
  rw [show i64V (9223372036854775807 + 1) = .tuple #[.int .i64 0, .bool false] from i64V_no (by decide)] at hA
  have HA := hid hA
  have HS := hid (fun w => fx_sqrt 24 4 (by decide) (by decide) (by decide) w)
  have HR := hid (fun w => fx_root 1 0 4294967296 (by decide) (by decide) (by decide) (by decide) w)
  clear hM hA
  go_enter Try.func43, Try.ntmps43
  go_wp2_with (first | (go_at_call 51; refine (HM.out _).mono ?_; rintro e w' ⟨rfl, hu⟩) | (go_at_call 56; refine (HH.out _).mono ?_; rintro e w' ⟨rfl, hu⟩) | (go_at_call 45; refine (HA.out _).mono ?_; rintro e w' ⟨rfl, hu⟩) | (go_at_call 53; refine (HS.out _).mono ?_; rintro e w' ⟨rfl, hu⟩) | (go_at_call 54; refine (HR.out _).mono ?_; rintro e w' ⟨rfl, hu⟩))
  go_ret
  exact ⟨rfl, (by repeat (first | assumption | (with_reducible apply Up.of) | (with_reducible exact Below.refl _ _) | (with_reducible exact Up.refl _) | ((with_reducible apply bl_setRow); (focus (first | exact Nat.le_refl _ | (simp; done) | (simp; omega) | omega))) | (with_reducible apply below_drewN) | (with_reducible apply Below.drew) | ((with_reducible apply bl_alloc); (focus (first | exact Nat.le_refl _ | (simp; done) | (simp; omega) | omega))) | ((with_reducible apply bl_setCell); (focus (first | exact Nat.le_refl _ | (simp; done) | (simp; omega) | omega))) | ((with_reducible apply up_tr); assumption)))⟩
end Go.Proofs.Ytiocolbaencbkaa
