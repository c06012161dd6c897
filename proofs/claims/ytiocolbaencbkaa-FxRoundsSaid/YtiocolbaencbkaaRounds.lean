/-
  FxRounds: which whole number is nearest to a product over a number.
-/
import Derived.Test.YtiocolbaencbkaaRefQ
namespace Go.Proofs.Ytiocolbaencbkaa
open Go Go.RowKit
set_option maxRecDepth 100000

set_option maxHeartbeats 1000000 in
theorem muldiv_big (a b c : Int) (a1 : -9223372036854775808 ≤ a) (a2 : a < 9223372036854775808) (b1 : -9223372036854775808 ≤ b) (b2 : b < 9223372036854775808) (c1 : -9223372036854775808 ≤ c) (c2 : c < 9223372036854775808) (w : World) :
    Calls Try.prog 52 #[.int .i64 a, .int .i64 b, .int .i64 c] w fun e w' => e = .returned (nearV a b c) ∧ Up w w' := by
  by_cases h0 : 0 < c
  · have hn : nearV a b c = i64V ((2 * (a * b) + c) / (2 * c)) := by unfold nearV; rw [if_pos h0]
    have hp := prod_small a1 a2 b1 b2
    have na := small_nl a1 (by omega)
    have nb := small_nl b1 (by omega)
    have nc := small_nl c1 (by omega)
    have np := small_nl2 hp.1 hp.2
    have n3 : ∀ z : Int, -170141183460469231731687303715884105729 - 9223372036854775808 ≤ z → z ≤ 170141183460469231731687303715884105728 + 9223372036854775808 → nl z.natAbs < 50000 := fun z h1 h2 => by
      have := nl_le (x := z.natAbs) (k := 2) (by rw [bp_succ, bp_succ, bp_zero]; omega)
      omega
    have n2p : nl (2 * (a * b)).natAbs < 50000 := n3 _ (by omega) (by omega)
    have ns : nl (2 * (a * b) + c).natAbs < 50000 := n3 _ (by omega) (by omega)
    have n2c : nl (2 * c).natAbs = 1 := by
      have h1 := nl_le (x := (2 * c).natAbs) (k := 1) (by rw [bp_succ, bp_zero]; omega)
      have h2 := nl_pos (x := (2 * c).natAbs) (by omega)
      omega
    have nq : nl ((2 * (a * b) + c) / (2 * c)).natAbs < 50000 := by
      have h1 : ((2 * (a * b) + c) / (2 * c)).natAbs ≤ (2 * (a * b) + c).natAbs + 1 := by
        have e1 := Int.ediv_mul_add_emod (2 * (a * b) + c) (2 * c)
        have e2 := Int.emod_nonneg (2 * (a * b) + c) (show 2 * c ≠ 0 by omega)
        have e3 := Int.emod_lt_of_pos (2 * (a * b) + c) (show 0 < 2 * c by omega)
        generalize (2 * (a * b) + c) / (2 * c) = q at *
        generalize (2 * (a * b) + c) % (2 * c) = r at *
        generalize 2 * (a * b) + c = s at *
        rcases Int.lt_or_le q 0 with hq | hq
        · have h7 : (q + 1) * (2 * c) ≤ (q + 1) * 1 := Int.mul_le_mul_of_nonpos_left (by omega) (by omega)
          rw [Int.add_mul, Int.one_mul] at h7
          omega
        · have h6 : q * 1 ≤ q * (2 * c) := Int.mul_le_mul_of_nonneg_left (by omega) (by omega)
          omega
      have := nl_le (x := ((2 * (a * b) + c) / (2 * c)).natAbs) (k := 3) (by rw [bp_succ, bp_succ, bp_succ, bp_zero]; omega)
      omega
    have HOA := hid (fun w => of_big a a1 a2 w)
    have HOB := hid (fun w => of_big b b1 b2 w)
    have HOC := hid (fun w => of_big c c1 c2 w)
    have d0 : decide (c < 1) = false := decide_eq_false (by omega)
    rw [hn]
    obtain ⟨z, ok, hz⟩ : ∃ z ok, i64V ((2 * (a * b) + c) / (2 * c)) = .tuple #[.int .i64 z, .bool ok] := ⟨_, _, rfl⟩
    rw [hz]
    have HZ := hid hz
    clear hp hn n3 hz a1 a2 b1 b2 c1 c2
    go_enter Try.func52, Try.ntmps52
    go_wp2_with (first | (go_at_call 37; (first | ((with_reducible refine (HOA.out _).mono ?_); rintro e w1 ⟨hu1, u, rfl, hBA⟩; obtain ⟨q1, z1, n1, k1, rfl⟩ := hBA.shape) | ((with_reducible refine (HOB.out _).mono ?_); rintro e w2 ⟨hu2, u, rfl, hBB⟩; obtain ⟨q2, z2, n2, k2, rfl⟩ := hBB.shape) | ((with_reducible refine (HOC.out _).mono ?_); rintro e w3 ⟨hu3, u, rfl, hBC⟩; obtain ⟨q3, z3, n3, k3, rfl⟩ := hBC.shape))) | (go_at_call 26; ((with_reducible refine (mul_big (x := a) (y := b) ?_ ?_ na nb).mono ?_); (focus ((repeat (first | assumption | ((with_reducible apply big_set); (focus (repeat (first | assumption | ((with_reducible apply blk_new); (focus (first | rfl | (simp; done)))) | (with_reducible apply blk_alloc) | (with_reducible apply blk_drew) | (with_reducible apply blk_drewN) | ((with_reducible apply blk_up); assumption) | (with_reducible apply blk_same) | ((with_reducible apply blk_else); (focus (first | (simp; done) | (simp; omega) | omega))))))) | (with_reducible apply big_alloc) | ((with_reducible apply big_up); assumption))); done)); (focus ((repeat (first | assumption | ((with_reducible apply big_set); (focus (repeat (first | assumption | ((with_reducible apply blk_new); (focus (first | rfl | (simp; done)))) | (with_reducible apply blk_alloc) | (with_reducible apply blk_drew) | (with_reducible apply blk_drewN) | ((with_reducible apply blk_up); assumption) | (with_reducible apply blk_same) | ((with_reducible apply blk_else); (focus (first | (simp; done) | (simp; omega) | omega))))))) | (with_reducible apply big_alloc) | ((with_reducible apply big_up); assumption))); done))); rintro e w4 ⟨hu4, u, rfl, hBP⟩; obtain ⟨q4, z4, n4, k4, rfl⟩ := hBP.shape) | (go_at_call 39; ((with_reducible refine (round_big (x := a * b) (y := c) ?_ ?_ h0 np nc n2p ns n2c).mono ?_); (focus ((repeat (first | assumption | ((with_reducible apply big_set); (focus (repeat (first | assumption | ((with_reducible apply blk_new); (focus (first | rfl | (simp; done)))) | (with_reducible apply blk_alloc) | (with_reducible apply blk_drew) | (with_reducible apply blk_drewN) | ((with_reducible apply blk_up); assumption) | (with_reducible apply blk_same) | ((with_reducible apply blk_else); (focus (first | (simp; done) | (simp; omega) | omega))))))) | (with_reducible apply big_alloc) | ((with_reducible apply big_up); assumption))); done)); (focus ((repeat (first | assumption | ((with_reducible apply big_set); (focus (repeat (first | assumption | ((with_reducible apply blk_new); (focus (first | rfl | (simp; done)))) | (with_reducible apply blk_alloc) | (with_reducible apply blk_drew) | (with_reducible apply blk_drewN) | ((with_reducible apply blk_up); assumption) | (with_reducible apply blk_same) | ((with_reducible apply blk_else); (focus (first | (simp; done) | (simp; omega) | omega))))))) | (with_reducible apply big_alloc) | ((with_reducible apply big_up); assumption))); done))); rintro e w5 ⟨hu5, u, rfl, hBR⟩; obtain ⟨q5, z5, n5, k5, rfl⟩ := hBR.shape) | (go_at_call 42; (with_reducible refine (int64_big hBR nq).mono ?_); rintro e w6 ⟨rfl, hu6⟩; rw [HZ.out]))
    go_ret2
    exact ⟨rfl, (by repeat (first | assumption | (with_reducible apply Up.of) | (with_reducible exact Below.refl _ _) | (with_reducible exact Up.refl _) | ((with_reducible apply bl_setRow); (focus (first | exact Nat.le_refl _ | (simp; done) | (simp; omega) | omega))) | (with_reducible apply below_drewN) | (with_reducible apply Below.drew) | ((with_reducible apply bl_alloc); (focus (first | exact Nat.le_refl _ | (simp; done) | (simp; omega) | omega))) | ((with_reducible apply bl_setCell); (focus (first | exact Nat.le_refl _ | (simp; done) | (simp; omega) | omega))) | ((with_reducible apply up_tr); assumption)))⟩
  · have hn : nearV a b c = .tuple #[.int .i64 0, .bool false] := by unfold nearV; rw [if_neg h0]
    have d0 : decide (c < 1) = true := decide_eq_true (by omega)
    rw [hn]
    clear hn
    go_enter Try.func52, Try.ntmps52
    go_wp2
    go_ret2
    exact ⟨rfl, (by repeat (first | assumption | (with_reducible apply Up.of) | (with_reducible exact Below.refl _ _) | (with_reducible exact Up.refl _) | ((with_reducible apply bl_setRow); (focus (first | exact Nat.le_refl _ | (simp; done) | (simp; omega) | omega))) | (with_reducible apply below_drewN) | (with_reducible apply Below.drew) | ((with_reducible apply bl_alloc); (focus (first | exact Nat.le_refl _ | (simp; done) | (simp; omega) | omega))) | ((with_reducible apply bl_setCell); (focus (first | exact Nat.le_refl _ | (simp; done) | (simp; omega) | omega))) | ((with_reducible apply up_tr); assumption)))⟩
set_option maxHeartbeats 1000000 in
theorem rounds_w (a b c : Int) (k m n : Nat) (a1 : -9223372036854775808 ≤ a) (a2 : a < 9223372036854775808) (b1 : -9223372036854775808 ≤ b) (b2 : b < 9223372036854775808) (c1 : -9223372036854775808 ≤ c) (c2 : c < 9223372036854775808) (hk : k < 256) (hm : m < 256) (hn : n < 256) (w : World) :
    Calls Try.prog 11 #[.int .i64 a, .int .i64 b, .int .i64 c, .int .u8 k, .int .u8 m, .int .u8 n] w fun e w' => e = .returned (.bool true) ∧ Up w w' := by
  have HK := hid known2_true
  obtain ⟨x, x1, x2, hx⟩ := near_any a a1 a2 k hk
  obtain ⟨y, y1, y2, hy⟩ := near_any b b1 b2 m hm
  obtain ⟨z, z1, z2, hz⟩ := near_any c c1 c2 n hn
  have HX := hid hx
  have HY := hid hy
  have HZ := hid hz
  have hP := fun w => fx_muldiv x y z x1 x2 y1 y2 z1 z2 w
  have hQ := fun w => muldiv_big x y z x1 x2 y1 y2 z1 z2 w
  obtain ⟨r, ok, hr⟩ : ∃ r ok, nearV x y z = .tuple #[.int .i64 r, .bool ok] := by
    unfold nearV
    split
    · exact ⟨_, _, rfl⟩
    · exact ⟨_, _, rfl⟩
  rw [hr] at hP hQ
  have HP := hid hP
  have HQ := hid hQ
  clear hP hQ hr hx hy hz
  go_enter Try.func11, Try.ntmps11
  go_wp2_with (first | (go_at_call 43; (with_reducible refine (HK.out _).mono ?_); rintro e w0 ⟨rfl, hu0⟩) | (go_at_call 44; (first | (with_reducible refine (HX.out _).mono ?_) | (with_reducible refine (HY.out _).mono ?_) | (with_reducible refine (HZ.out _).mono ?_)); rintro e w' ⟨rfl, hu⟩) | (go_at_call 51; (with_reducible refine (HP.out _).mono ?_); rintro e w1 ⟨rfl, hu1⟩) | (go_at_call 52; (with_reducible refine (HQ.out _).mono ?_); rintro e w2 ⟨rfl, hu2⟩))
  go_ret
  exact ⟨rfl, (by repeat (first | assumption | (with_reducible apply Up.of) | (with_reducible exact Below.refl _ _) | (with_reducible exact Up.refl _) | ((with_reducible apply bl_setRow); (focus (first | exact Nat.le_refl _ | (simp; done) | (simp; omega) | omega))) | (with_reducible apply below_drewN) | (with_reducible apply Below.drew) | ((with_reducible apply bl_alloc); (focus (first | exact Nat.le_refl _ | (simp; done) | (simp; omega) | omega))) | ((with_reducible apply bl_setCell); (focus (first | exact Nat.le_refl _ | (simp; done) | (simp; omega) | omega))) | ((with_reducible apply up_tr); assumption)))⟩
end Go.Proofs.Ytiocolbaencbkaa
