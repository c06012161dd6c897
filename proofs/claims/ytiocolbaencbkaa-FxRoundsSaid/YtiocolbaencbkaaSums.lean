/-
  FxSums: each sum, difference, product, amount of any two numbers, or that there is none.
-/
import Derived.Test.YtiocolbaencbkaaRefI
namespace Go.Proofs.Ytiocolbaencbkaa
open Go Go.RowKit
set_option maxRecDepth 100000

theorem big_set {w : World} {v : Value} {z : Int} {g : Nat} {C D : Array Value} (hg : Blk w g 30 C) (h : Big w v z) : Big (w.setRow g D) v z := h.setRow hg
theorem big_alloc {w : World} {v : Value} {z : Int} {o : Obj} (h : Big w v z) : Big (w.alloc o) v z := h.up (Up.alloc _ _)
theorem big_up {w w' : World} {v : Value} {z : Int} (hu : Up w w') (h : Big w v z) : Big w' v z := h.up hu
theorem told_big {z v : Int} {ok : Bool} {u : Value} {w : World} (h : Big w u z) (hz : nl z.natAbs < 50000) (e : i64V z = .tuple #[.int .i64 v, .bool ok]) :
    Calls Try.prog 49 #[.int .i64 v, .bool ok, u] w fun e w' => e = .returned (.bool true) ∧ Up w w' := by
  obtain ⟨p, a, n, c, rfl⟩ := h.shape
  have H := hid h
  have HE := hid e
  clear h e
  go_enter Try.func49, Try.ntmps49
  go_wp2_with (first | ((with_reducible apply ldB_P); exact rfl; exact rfl; (focus (repeat (first | assumption | ((with_reducible apply blk_new); (focus (first | rfl | (simp; done)))) | (with_reducible apply blk_alloc) | (with_reducible apply blk_drew) | (with_reducible apply blk_drewN) | ((with_reducible apply blk_up); assumption) | (with_reducible apply blk_same) | ((with_reducible apply blk_else); (focus (first | (simp; done) | (simp; omega) | omega)))))); exact rfl) | (go_at_call 42; (with_reducible refine (int64_big (H.out.up (by repeat (first | assumption | (with_reducible apply Up.of) | (with_reducible exact Below.refl _ _) | (with_reducible exact Up.refl _) | ((with_reducible apply bl_setRow); (focus (first | exact Nat.le_refl _ | (simp; done) | (simp; omega) | omega))) | (with_reducible apply below_drewN) | (with_reducible apply Below.drew) | ((with_reducible apply bl_alloc); (focus (first | exact Nat.le_refl _ | (simp; done) | (simp; omega) | omega))) | ((with_reducible apply bl_setCell); (focus (first | exact Nat.le_refl _ | (simp; done) | (simp; omega) | omega))) | ((with_reducible apply up_tr); assumption)))) hz).mono ?_); rintro e wI ⟨rfl, hu⟩; rw [HE.out]))
  go_ret
  exact ⟨rfl, (by repeat (first | assumption | (with_reducible apply Up.of) | (with_reducible exact Below.refl _ _) | (with_reducible exact Up.refl _) | ((with_reducible apply bl_setRow); (focus (first | exact Nat.le_refl _ | (simp; done) | (simp; omega) | omega))) | (with_reducible apply below_drewN) | (with_reducible apply Below.drew) | ((with_reducible apply bl_alloc); (focus (first | exact Nat.le_refl _ | (simp; done) | (simp; omega) | omega))) | ((with_reducible apply bl_setCell); (focus (first | exact Nat.le_refl _ | (simp; done) | (simp; omega) | omega))) | ((with_reducible apply up_tr); assumption)))⟩
theorem big_amount {w : World} {b : Bool} {a : Option Addr} {n c : Nat} {z : Int} (h : Big w (.agg #[.bool b, .slice a n c]) z) : Big w (.agg #[.bool false, .slice a n c]) ((z.natAbs : Nat) : Int) := by
  obtain ⟨a', c', h1, h2⟩ := h
  obtain ⟨-, rfl, rfl, rfl⟩ : b = decide (z < 0) ∧ a = a' ∧ n = nl z.natAbs ∧ c = c' := by simpa using h1
  exact ⟨_, _, by rw [decide_eq_false (by omega)]; rfl, h2⟩
theorem small_nl {x : Int} (h1 : -9223372036854775808 ≤ x) (h2 : x ≤ 9223372036854775808) : nl x.natAbs < 50000 := by
  have := nl_le (x := x.natAbs) (k := 1) (by rw [bp_succ, bp_zero]; omega)
  omega
theorem small_nl2 {x : Int} (h1 : -85070591730234615865843651857942052864 ≤ x) (h2 : x ≤ 85070591730234615865843651857942052864) : nl x.natAbs < 50000 := by
  have := nl_le (x := x.natAbs) (k := 2) (by rw [bp_succ, bp_succ, bp_zero]; omega)
  omega
set_option maxHeartbeats 2000000 in
theorem sums_w (a b : Int) (k m : Nat) (a1 : -9223372036854775808 ≤ a) (a2 : a < 9223372036854775808) (b1 : -9223372036854775808 ≤ b) (b2 : b < 9223372036854775808) (hk : k < 256) (hm : m < 256) (w : World) :
    Calls Try.prog 10 #[.int .i64 a, .int .i64 b, .int .u8 k, .int .u8 m] w fun e w' => e = .returned (.bool true) ∧ Up w w' := by
  have HK := hid known2_true
  obtain ⟨x, x1, x2, hx⟩ := near_any a a1 a2 k hk
  obtain ⟨y, y1, y2, hy⟩ := near_any b b1 b2 m hm
  have HX := hid hx
  have HY := hid hy
  have hp := prod_small x1 x2 y1 y2
  have nx := small_nl x1 (by omega)
  have ny := small_nl y1 (by omega)
  have ns := small_nl2 (x := x + y) (by omega) (by omega)
  have nd := small_nl2 (x := x - y) (by omega) (by omega)
  have np := small_nl2 hp.1 hp.2
  have nA : nl ((x.natAbs : Nat) : Int).natAbs < 50000 := nx
  have hA := fun w => fx_add x y x1 x2 y1 y2 w
  have hS := fun w => fx_sub x y x1 x2 y1 y2 w
  have hP := fun w => fx_mul x y x1 x2 y1 y2 w
  have hM := fun w => fx_amount x x1 x2 w
  obtain ⟨p1, o1, e1⟩ : ∃ p ok, i64V (x + y) = .tuple #[.int .i64 p, .bool ok] := ⟨_, _, rfl⟩
  obtain ⟨p2, o2, e2⟩ : ∃ p ok, i64V (x - y) = .tuple #[.int .i64 p, .bool ok] := ⟨_, _, rfl⟩
  obtain ⟨p3, o3, e3⟩ : ∃ p ok, i64V (x * y) = .tuple #[.int .i64 p, .bool ok] := ⟨_, _, rfl⟩
  obtain ⟨p4, o4, e4⟩ : ∃ p ok, i64V ((x.natAbs : Nat) : Int) = .tuple #[.int .i64 p, .bool ok] := ⟨_, _, rfl⟩
  rw [e1] at hA
  rw [e2] at hS
  rw [e3] at hP
  rw [e4] at hM
  have HA := hid hA
  have HS := hid hS
  have HP := hid hP
  have HM := hid hM
  have E1 := hid e1
  have E2 := hid e2
  have E3 := hid e3
  have E4 := hid e4
  have HOX := hid (fun w => of_big x x1 x2 w)
  have HOY := hid (fun w => of_big y y1 y2 w)
  clear hA hS hP hM e1 e2 e3 e4 hx hy hp
  go_enter Try.func10, Try.ntmps10
  go_wp2_with (first | ((with_reducible apply ldB_P); exact rfl; exact rfl; (focus (repeat (first | assumption | ((with_reducible apply blk_new); (focus (first | rfl | (simp; done)))) | (with_reducible apply blk_alloc) | (with_reducible apply blk_drew) | (with_reducible apply blk_drewN) | ((with_reducible apply blk_up); assumption) | (with_reducible apply blk_same) | ((with_reducible apply blk_else); (focus (first | (simp; done) | (simp; omega) | omega)))))); exact rfl) | ((with_reducible apply stB_P); exact rfl; exact rfl; (focus (repeat (first | assumption | ((with_reducible apply blk_new); (focus (first | rfl | (simp; done)))) | (with_reducible apply blk_alloc) | (with_reducible apply blk_drew) | (with_reducible apply blk_drewN) | ((with_reducible apply blk_up); assumption) | (with_reducible apply blk_same) | ((with_reducible apply blk_else); (focus (first | (simp; done) | (simp; omega) | omega)))))); exact rfl; exact rfl; exact one2 _ _ _ _) | (go_at_call 43; refine (HK.out _).mono ?_; rintro e w' ⟨rfl, hu⟩; have hsz := hu.size) | (go_at_call 44; (first | (with_reducible refine (HX.out _).mono ?_) | (with_reducible refine (HY.out _).mono ?_)); rintro e w' ⟨rfl, hu⟩; have hsz := hu.size) | (go_at_call 37; (first | ((with_reducible refine (HOX.out _).mono ?_); rintro e w1 ⟨hu1, u, rfl, hB1⟩; have hsz := hu1.size; obtain ⟨q1, z1, n1, c1, rfl⟩ := hB1.shape) | ((with_reducible refine (HOY.out _).mono ?_); rintro e w2 ⟨hu2, u, rfl, hB2⟩; have hsz := hu2.size; obtain ⟨q2, z2, n2, c2, rfl⟩ := hB2.shape))) | (go_at_call 45; refine (HA.out _).mono ?_; rintro e w' ⟨rfl, hu⟩) | (go_at_call 46; refine (HS.out _).mono ?_; rintro e w' ⟨rfl, hu⟩) | (go_at_call 47; refine (HP.out _).mono ?_; rintro e w' ⟨rfl, hu⟩) | (go_at_call 48; refine (HM.out _).mono ?_; rintro e w' ⟨rfl, hu⟩) | (go_at_call 24; (with_reducible refine (add_big (x := x) (y := y) (by (repeat (first | assumption | ((with_reducible apply big_set); (focus (repeat (first | assumption | ((with_reducible apply blk_new); (focus (first | rfl | (simp; done)))) | (with_reducible apply blk_alloc) | (with_reducible apply blk_drew) | (with_reducible apply blk_drewN) | ((with_reducible apply blk_up); assumption) | (with_reducible apply blk_same) | ((with_reducible apply blk_else); (focus (first | (simp; done) | (simp; omega) | omega))))))) | (with_reducible apply big_alloc) | ((with_reducible apply big_up); assumption)))) (by (repeat (first | assumption | ((with_reducible apply big_set); (focus (repeat (first | assumption | ((with_reducible apply blk_new); (focus (first | rfl | (simp; done)))) | (with_reducible apply blk_alloc) | (with_reducible apply blk_drew) | (with_reducible apply blk_drewN) | ((with_reducible apply blk_up); assumption) | (with_reducible apply blk_same) | ((with_reducible apply blk_else); (focus (first | (simp; done) | (simp; omega) | omega))))))) | (with_reducible apply big_alloc) | ((with_reducible apply big_up); assumption)))) nx ny).mono ?_); rintro e wQ ⟨huQ, v, rfl, hBQ⟩; obtain ⟨q3, z3, n3, c3, rfl⟩ := hBQ.shape) | (go_at_call 25; (with_reducible refine (sub_big (x := x) (y := y) (by (repeat (first | assumption | ((with_reducible apply big_set); (focus (repeat (first | assumption | ((with_reducible apply blk_new); (focus (first | rfl | (simp; done)))) | (with_reducible apply blk_alloc) | (with_reducible apply blk_drew) | (with_reducible apply blk_drewN) | ((with_reducible apply blk_up); assumption) | (with_reducible apply blk_same) | ((with_reducible apply blk_else); (focus (first | (simp; done) | (simp; omega) | omega))))))) | (with_reducible apply big_alloc) | ((with_reducible apply big_up); assumption)))) (by (repeat (first | assumption | ((with_reducible apply big_set); (focus (repeat (first | assumption | ((with_reducible apply blk_new); (focus (first | rfl | (simp; done)))) | (with_reducible apply blk_alloc) | (with_reducible apply blk_drew) | (with_reducible apply blk_drewN) | ((with_reducible apply blk_up); assumption) | (with_reducible apply blk_same) | ((with_reducible apply blk_else); (focus (first | (simp; done) | (simp; omega) | omega))))))) | (with_reducible apply big_alloc) | ((with_reducible apply big_up); assumption)))) nx ny).mono ?_); rintro e wR ⟨huR, v, rfl, hBR⟩; obtain ⟨q4, z4, n4, c4, rfl⟩ := hBR.shape) | (go_at_call 26; (with_reducible refine (mul_big (x := x) (y := y) (by (repeat (first | assumption | ((with_reducible apply big_set); (focus (repeat (first | assumption | ((with_reducible apply blk_new); (focus (first | rfl | (simp; done)))) | (with_reducible apply blk_alloc) | (with_reducible apply blk_drew) | (with_reducible apply blk_drewN) | ((with_reducible apply blk_up); assumption) | (with_reducible apply blk_same) | ((with_reducible apply blk_else); (focus (first | (simp; done) | (simp; omega) | omega))))))) | (with_reducible apply big_alloc) | ((with_reducible apply big_up); assumption)))) (by (repeat (first | assumption | ((with_reducible apply big_set); (focus (repeat (first | assumption | ((with_reducible apply blk_new); (focus (first | rfl | (simp; done)))) | (with_reducible apply blk_alloc) | (with_reducible apply blk_drew) | (with_reducible apply blk_drewN) | ((with_reducible apply blk_up); assumption) | (with_reducible apply blk_same) | ((with_reducible apply blk_else); (focus (first | (simp; done) | (simp; omega) | omega))))))) | (with_reducible apply big_alloc) | ((with_reducible apply big_up); assumption)))) nx ny).mono ?_); rintro e wU ⟨huU, v, rfl, hBU⟩; obtain ⟨q5, z5, n5, c5, rfl⟩ := hBU.shape) | (go_at_call 50; (with_reducible refine (amount_any _ _ _ _ _).mono ?_); rintro e wV ⟨rfl, huV⟩) | (go_at_call 49; (first | (with_reducible refine (told_big (z := x + y) (by (repeat (first | assumption | ((with_reducible apply big_set); (focus (repeat (first | assumption | ((with_reducible apply blk_new); (focus (first | rfl | (simp; done)))) | (with_reducible apply blk_alloc) | (with_reducible apply blk_drew) | (with_reducible apply blk_drewN) | ((with_reducible apply blk_up); assumption) | (with_reducible apply blk_same) | ((with_reducible apply blk_else); (focus (first | (simp; done) | (simp; omega) | omega))))))) | (with_reducible apply big_alloc) | ((with_reducible apply big_up); assumption)))) ns E1.out).mono ?_) | (with_reducible refine (told_big (z := x - y) (by (repeat (first | assumption | ((with_reducible apply big_set); (focus (repeat (first | assumption | ((with_reducible apply blk_new); (focus (first | rfl | (simp; done)))) | (with_reducible apply blk_alloc) | (with_reducible apply blk_drew) | (with_reducible apply blk_drewN) | ((with_reducible apply blk_up); assumption) | (with_reducible apply blk_same) | ((with_reducible apply blk_else); (focus (first | (simp; done) | (simp; omega) | omega))))))) | (with_reducible apply big_alloc) | ((with_reducible apply big_up); assumption)))) nd E2.out).mono ?_) | (with_reducible refine (told_big (z := x * y) (by (repeat (first | assumption | ((with_reducible apply big_set); (focus (repeat (first | assumption | ((with_reducible apply blk_new); (focus (first | rfl | (simp; done)))) | (with_reducible apply blk_alloc) | (with_reducible apply blk_drew) | (with_reducible apply blk_drewN) | ((with_reducible apply blk_up); assumption) | (with_reducible apply blk_same) | ((with_reducible apply blk_else); (focus (first | (simp; done) | (simp; omega) | omega))))))) | (with_reducible apply big_alloc) | ((with_reducible apply big_up); assumption)))) np E3.out).mono ?_) | (with_reducible refine (told_big (z := ((x.natAbs : Nat) : Int)) (big_amount (by (repeat (first | assumption | ((with_reducible apply big_set); (focus (repeat (first | assumption | ((with_reducible apply blk_new); (focus (first | rfl | (simp; done)))) | (with_reducible apply blk_alloc) | (with_reducible apply blk_drew) | (with_reducible apply blk_drewN) | ((with_reducible apply blk_up); assumption) | (with_reducible apply blk_same) | ((with_reducible apply blk_else); (focus (first | (simp; done) | (simp; omega) | omega))))))) | (with_reducible apply big_alloc) | ((with_reducible apply big_up); assumption))))) nA E4.out).mono ?_)); rintro e wT ⟨rfl, huT⟩))
  go_ret
  exact ⟨rfl, (by repeat (first | assumption | (with_reducible apply Up.of) | (with_reducible exact Below.refl _ _) | (with_reducible exact Up.refl _) | ((with_reducible apply bl_setRow); (focus (first | exact Nat.le_refl _ | (simp; done) | (simp; omega) | omega))) | (with_reducible apply below_drewN) | (with_reducible apply Below.drew) | ((with_reducible apply bl_alloc); (focus (first | exact Nat.le_refl _ | (simp; done) | (simp; omega) | omega))) | ((with_reducible apply bl_setCell); (focus (first | exact Nat.le_refl _ | (simp; done) | (simp; omega) | omega))) | ((with_reducible apply up_tr); assumption)))⟩
end Go.Proofs.Ytiocolbaencbkaa
