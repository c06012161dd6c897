/-
  The reference's long side.
-/
import Derived.Test.YtiocolbaencbkaaRoots
namespace Go.Proofs.Ytiocolbaencbkaa
open Go Go.RowKit
set_option maxRecDepth 100000

theorem fits_gen {z M : Int} {va : Value} {w : World} (ha : Big w va z) (hz : nl z.natAbs < 50000) (h1 : -9223372036854775808 ≤ M) (h2 : M < 9223372036854775808) (hm : nl M.natAbs < 50000) :
    Calls Try.prog 84 #[va, .int .i64 M] w fun e w' => e = .returned (.bool (decide (cmpZ ((z.natAbs : Nat) : Int) M ≤ 0))) ∧ Up w w' := by
  obtain ⟨p, a, n, c, rfl⟩ := ha.shape
  have hA := hid (big_amount ha)
  have HO := hid (fun w => of_big M h1 h2 w)
  have HN : Hid (nl ((z.natAbs : Nat) : Int).natAbs < 50000) := hid hz
  have HM := hid hm
  obtain ⟨o, ho⟩ : ∃ o, decide (cmpZ ((z.natAbs : Nat) : Int) M ≤ 0) = o := ⟨_, rfl⟩
  rw [ho]
  clear ha h1 h2 hz hm
  go_enter Try.func84, Try.ntmps84
  go_wp2_with (first | ((with_reducible apply ldB_P); exact rfl; exact rfl; (focus (repeat (first | assumption | ((with_reducible apply blk_new); (focus (first | rfl | (simp; done)))) | (with_reducible apply blk_alloc) | (with_reducible apply blk_drew) | (with_reducible apply blk_drewN) | ((with_reducible apply blk_up); assumption) | (with_reducible apply blk_same) | ((with_reducible apply blk_else); (focus (first | (simp; done) | (simp; omega) | omega)))))); exact rfl) | (go_at_call 50; (with_reducible refine (amount_any _ _ _ _ _).mono ?_); rintro e wA ⟨rfl, huA⟩) | (go_at_call 37; (with_reducible refine (HO.out _).mono ?_); rintro e wO ⟨huO, u, rfl, hBO⟩; obtain ⟨qo, ao, no, co, rfl⟩ := hBO.shape) | (go_at_call 28; (with_reducible refine (cmp_big (hA.out.up (by repeat (first | assumption | (with_reducible apply Up.of) | (with_reducible exact Below.refl _ _) | (with_reducible exact Up.refl _) | ((with_reducible apply bl_setRow); (focus (first | exact Nat.le_refl _ | (simp; done) | (simp; omega) | omega))) | (with_reducible apply below_drewN) | (with_reducible apply Below.drew) | ((with_reducible apply bl_alloc); (focus (first | exact Nat.le_refl _ | (simp; done) | (simp; omega) | omega))) | ((with_reducible apply bl_setCell); (focus (first | exact Nat.le_refl _ | (simp; done) | (simp; omega) | omega))) | ((with_reducible apply up_tr); assumption)))) hBO HN.out HM.out).mono ?_); rintro e wC ⟨rfl, huC⟩))
  go_ret
  exact ⟨rfl, (by repeat (first | assumption | (with_reducible apply Up.of) | (with_reducible exact Below.refl _ _) | (with_reducible exact Up.refl _) | ((with_reducible apply bl_setRow); (focus (first | exact Nat.le_refl _ | (simp; done) | (simp; omega) | omega))) | (with_reducible apply below_drewN) | (with_reducible apply Below.drew) | ((with_reducible apply bl_alloc); (focus (first | exact Nat.le_refl _ | (simp; done) | (simp; omega) | omega))) | ((with_reducible apply bl_setCell); (focus (first | exact Nat.le_refl _ | (simp; done) | (simp; omega) | omega))) | ((with_reducible apply up_tr); assumption)))⟩
theorem fits_big {z : Int} {va : Value} {w : World} (ha : Big w va z) (hz : nl z.natAbs < 50000) :
    Calls Try.prog 84 #[va, .int .i64 2147483648] w fun e w' => e = .returned (.bool (decide (z.natAbs ≤ 2147483648))) ∧ Up w w' := by
  have h := fits_gen (M := 2147483648) ha hz (by omega) (by omega) (small_nl (by omega) (by omega))
  have he : decide (cmpZ ((z.natAbs : Nat) : Int) 2147483648 ≤ 0) = decide (z.natAbs ≤ 2147483648) := by
    rw [decide_eq_decide]
    unfold cmpZ
    split
    · omega
    · split <;> omega
  rw [he] at h
  exact h
theorem fx_hypot_no (x y : Int) (x1 : -9223372036854775808 ≤ x) (x2 : x < 9223372036854775808) (y1 : -9223372036854775808 ≤ y) (y2 : y < 9223372036854775808) (h : ¬ (x.natAbs ≤ 2147483648 ∧ y.natAbs ≤ 2147483648)) (w : World) :
    Calls Try.prog 56 #[.int .i64 x, .int .i64 y] w fun e w' => e = .returned (.tuple #[.int .i64 0, .bool false]) ∧ Up w w' := by
  have HX := hid (fun w => fx_size x x1 x2 w)
  have HY := hid (fun w => fx_size y y1 y2 w)
  clear x1 x2 y1 y2
  generalize x.natAbs = p at *
  generalize y.natAbs = q at *
  by_cases hp : p ≤ 2147483648
  · have d1 : decide ((2147483648 : Int) < p) = false := decide_eq_false (by omega)
    have d2 : decide ((2147483648 : Int) < q) = true := decide_eq_true (by omega)
    clear h
    go_enter Try.func56, Try.ntmps56
    go_wp2_with (first | (go_at_call 79; (first | (with_reducible refine (HX.out _).mono ?_) | (with_reducible refine (HY.out _).mono ?_)); rintro e w' ⟨rfl, hu⟩))
    go_ret2
    exact ⟨rfl, (by repeat (first | assumption | (with_reducible apply Up.of) | (with_reducible exact Below.refl _ _) | (with_reducible exact Up.refl _) | ((with_reducible apply bl_setRow); (focus (first | exact Nat.le_refl _ | (simp; done) | (simp; omega) | omega))) | (with_reducible apply below_drewN) | (with_reducible apply Below.drew) | ((with_reducible apply bl_alloc); (focus (first | exact Nat.le_refl _ | (simp; done) | (simp; omega) | omega))) | ((with_reducible apply bl_setCell); (focus (first | exact Nat.le_refl _ | (simp; done) | (simp; omega) | omega))) | ((with_reducible apply up_tr); assumption)))⟩
  · have d1 : decide ((2147483648 : Int) < p) = true := decide_eq_true (by omega)
    clear h
    go_enter Try.func56, Try.ntmps56
    go_wp2_with (first | (go_at_call 79; (first | (with_reducible refine (HX.out _).mono ?_) | (with_reducible refine (HY.out _).mono ?_)); rintro e w' ⟨rfl, hu⟩))
    go_ret2
    exact ⟨rfl, (by repeat (first | assumption | (with_reducible apply Up.of) | (with_reducible exact Below.refl _ _) | (with_reducible exact Up.refl _) | ((with_reducible apply bl_setRow); (focus (first | exact Nat.le_refl _ | (simp; done) | (simp; omega) | omega))) | (with_reducible apply below_drewN) | (with_reducible apply Below.drew) | ((with_reducible apply bl_alloc); (focus (first | exact Nat.le_refl _ | (simp; done) | (simp; omega) | omega))) | ((with_reducible apply bl_setCell); (focus (first | exact Nat.le_refl _ | (simp; done) | (simp; omega) | omega))) | ((with_reducible apply up_tr); assumption)))⟩
theorem natAbs_sq (x : Int) : x * x = ((x.natAbs * x.natAbs : Nat) : Int) := by
  rw [Int.natCast_mul, Int.natAbs_mul_self']
set_option maxHeartbeats 2000000 in
theorem hypot_big (x y : Int) (x1 : -9223372036854775808 ≤ x) (x2 : x < 9223372036854775808) (y1 : -9223372036854775808 ≤ y) (y2 : y < 9223372036854775808) (r : Nat) (h1 : r * r ≤ x.natAbs * x.natAbs + y.natAbs * y.natAbs) (h2 : x.natAbs * x.natAbs + y.natAbs * y.natAbs < (r + 1) * (r + 1)) (w : World) :
    Calls Try.prog 57 #[.int .i64 x, .int .i64 y] w fun e w' => e = .returned (if x.natAbs ≤ 2147483648 ∧ y.natAbs ≤ 2147483648 then .tuple #[.int .i64 (r : Nat), .bool true] else .tuple #[.int .i64 0, .bool false]) ∧ Up w w' := by
  have HOX := hid (fun w => of_big x x1 x2 w)
  have HOY := hid (fun w => of_big y y1 y2 w)
  have nx := small_nl x1 (by omega)
  have ny := small_nl y1 (by omega)
  obtain ⟨o1, ho1⟩ : ∃ o, decide (x.natAbs ≤ 2147483648) = o := ⟨_, rfl⟩
  obtain ⟨o2, ho2⟩ : ∃ o, decide (y.natAbs ≤ 2147483648) = o := ⟨_, rfl⟩
  have hF1 : ∀ (va : Value) (w : World), Big w va x → Calls Try.prog 84 #[va, .int .i64 2147483648] w fun e w' => e = .returned (.bool o1) ∧ Up w w' := fun va w h => by have := fits_big h nx; rw [ho1] at this; exact this
  have hF2 : ∀ (va : Value) (w : World), Big w va y → Calls Try.prog 84 #[va, .int .i64 2147483648] w fun e w' => e = .returned (.bool o2) ∧ Up w w' := fun va w h => by have := fits_big h ny; rw [ho2] at this; exact this
  have HF1 := hid hF1
  have HF2 := hid hF2
  clear hF1 hF2
  cases o1 with
  | false =>
    rw [if_neg (fun h => by have := of_decide_eq_false ho1; exact this h.1)]
    clear ho1 ho2 h1 h2
    go_enter Try.func57, Try.ntmps57
    go_wp2_with (first | (go_at_call 37; (first | (with_reducible refine (HOX.out _).mono ?_) | (with_reducible refine (HOY.out _).mono ?_)); rintro e wO ⟨huO, u, rfl, hBO⟩; obtain ⟨qo, ao, no, co, rfl⟩ := hBO.shape) | (go_at_call 84; (first | ((with_reducible refine (HF1.out _ _ ?_).mono ?_); (focus ((repeat (first | assumption | ((with_reducible apply big_set); (focus (repeat (first | assumption | ((with_reducible apply blk_new); (focus (first | rfl | (simp; done)))) | (with_reducible apply blk_alloc) | (with_reducible apply blk_drew) | (with_reducible apply blk_drewN) | ((with_reducible apply blk_up); assumption) | (with_reducible apply blk_same) | ((with_reducible apply blk_else); (focus (first | (simp; done) | (simp; omega) | omega))))))) | (with_reducible apply big_alloc) | ((with_reducible apply big_up); assumption))); done))) | ((with_reducible refine (HF2.out _ _ ?_).mono ?_); (focus ((repeat (first | assumption | ((with_reducible apply big_set); (focus (repeat (first | assumption | ((with_reducible apply blk_new); (focus (first | rfl | (simp; done)))) | (with_reducible apply blk_alloc) | (with_reducible apply blk_drew) | (with_reducible apply blk_drewN) | ((with_reducible apply blk_up); assumption) | (with_reducible apply blk_same) | ((with_reducible apply blk_else); (focus (first | (simp; done) | (simp; omega) | omega))))))) | (with_reducible apply big_alloc) | ((with_reducible apply big_up); assumption))); done)))); rintro e wF ⟨rfl, huF⟩))
    go_ret2
    exact ⟨rfl, (by repeat (first | assumption | (with_reducible apply Up.of) | (with_reducible exact Below.refl _ _) | (with_reducible exact Up.refl _) | ((with_reducible apply bl_setRow); (focus (first | exact Nat.le_refl _ | (simp; done) | (simp; omega) | omega))) | (with_reducible apply below_drewN) | (with_reducible apply Below.drew) | ((with_reducible apply bl_alloc); (focus (first | exact Nat.le_refl _ | (simp; done) | (simp; omega) | omega))) | ((with_reducible apply bl_setCell); (focus (first | exact Nat.le_refl _ | (simp; done) | (simp; omega) | omega))) | ((with_reducible apply up_tr); assumption)))⟩
  | true =>
    cases o2 with
    | false =>
      rw [if_neg (fun h => by have := of_decide_eq_false ho2; exact this h.2)]
      clear ho1 ho2 h1 h2
      go_enter Try.func57, Try.ntmps57
      go_wp2_with (first | (go_at_call 37; (first | (with_reducible refine (HOX.out _).mono ?_) | (with_reducible refine (HOY.out _).mono ?_)); rintro e wO ⟨huO, u, rfl, hBO⟩; obtain ⟨qo, ao, no, co, rfl⟩ := hBO.shape) | (go_at_call 84; (first | ((with_reducible refine (HF1.out _ _ ?_).mono ?_); (focus ((repeat (first | assumption | ((with_reducible apply big_set); (focus (repeat (first | assumption | ((with_reducible apply blk_new); (focus (first | rfl | (simp; done)))) | (with_reducible apply blk_alloc) | (with_reducible apply blk_drew) | (with_reducible apply blk_drewN) | ((with_reducible apply blk_up); assumption) | (with_reducible apply blk_same) | ((with_reducible apply blk_else); (focus (first | (simp; done) | (simp; omega) | omega))))))) | (with_reducible apply big_alloc) | ((with_reducible apply big_up); assumption))); done))) | ((with_reducible refine (HF2.out _ _ ?_).mono ?_); (focus ((repeat (first | assumption | ((with_reducible apply big_set); (focus (repeat (first | assumption | ((with_reducible apply blk_new); (focus (first | rfl | (simp; done)))) | (with_reducible apply blk_alloc) | (with_reducible apply blk_drew) | (with_reducible apply blk_drewN) | ((with_reducible apply blk_up); assumption) | (with_reducible apply blk_same) | ((with_reducible apply blk_else); (focus (first | (simp; done) | (simp; omega) | omega))))))) | (with_reducible apply big_alloc) | ((with_reducible apply big_up); assumption))); done)))); rintro e wF ⟨rfl, huF⟩))
      go_ret2
      exact ⟨rfl, (by repeat (first | assumption | (with_reducible apply Up.of) | (with_reducible exact Below.refl _ _) | (with_reducible exact Up.refl _) | ((with_reducible apply bl_setRow); (focus (first | exact Nat.le_refl _ | (simp; done) | (simp; omega) | omega))) | (with_reducible apply below_drewN) | (with_reducible apply Below.drew) | ((with_reducible apply bl_alloc); (focus (first | exact Nat.le_refl _ | (simp; done) | (simp; omega) | omega))) | ((with_reducible apply bl_setCell); (focus (first | exact Nat.le_refl _ | (simp; done) | (simp; omega) | omega))) | ((with_reducible apply up_tr); assumption)))⟩
    | true =>
      have hx := of_decide_eq_true ho1
      have hy := of_decide_eq_true ho2
      rw [if_pos ⟨hx, hy⟩]
      have hp := Nat.mul_le_mul hx hx
      have hq := Nat.mul_le_mul hy hy
      have hr := sq_lt (B := 4294967296) h1 (by omega)
      have nxx : nl (x * x).natAbs < 50000 := small_nl2 (by rw [natAbs_sq]; omega) (by rw [natAbs_sq]; omega)
      have nyy : nl (y * y).natAbs < 50000 := small_nl2 (by rw [natAbs_sq]; omega) (by rw [natAbs_sq]; omega)
      have hrt : ∀ (va : Value) (w : World), Big w va (x * x + y * y) → Calls Try.prog 55 #[va] w fun e w' => e = .returned (.int .u64 (r : Nat)) ∧ Up w w' := fun va w h => by
        rw [natAbs_sq x, natAbs_sq y, ← Int.natCast_add] at h
        exact rooted_big h (by omega) h1 h2
      have HRT := hid hrt
      have hw : IntKind.i64.wrap (r : Int) = (r : Nat) := IntWalk.i64_in _ (by omega)
      clear ho1 ho2 h1 h2 hx hy hp hq hrt
      go_enter Try.func57, Try.ntmps57
      go_wp2_with (first | (go_at_call 37; (first | (with_reducible refine (HOX.out _).mono ?_) | (with_reducible refine (HOY.out _).mono ?_)); rintro e wO ⟨huO, u, rfl, hBO⟩; obtain ⟨qo, ao, no, co, rfl⟩ := hBO.shape) | (go_at_call 84; (first | ((with_reducible refine (HF1.out _ _ ?_).mono ?_); (focus ((repeat (first | assumption | ((with_reducible apply big_set); (focus (repeat (first | assumption | ((with_reducible apply blk_new); (focus (first | rfl | (simp; done)))) | (with_reducible apply blk_alloc) | (with_reducible apply blk_drew) | (with_reducible apply blk_drewN) | ((with_reducible apply blk_up); assumption) | (with_reducible apply blk_same) | ((with_reducible apply blk_else); (focus (first | (simp; done) | (simp; omega) | omega))))))) | (with_reducible apply big_alloc) | ((with_reducible apply big_up); assumption))); done))) | ((with_reducible refine (HF2.out _ _ ?_).mono ?_); (focus ((repeat (first | assumption | ((with_reducible apply big_set); (focus (repeat (first | assumption | ((with_reducible apply blk_new); (focus (first | rfl | (simp; done)))) | (with_reducible apply blk_alloc) | (with_reducible apply blk_drew) | (with_reducible apply blk_drewN) | ((with_reducible apply blk_up); assumption) | (with_reducible apply blk_same) | ((with_reducible apply blk_else); (focus (first | (simp; done) | (simp; omega) | omega))))))) | (with_reducible apply big_alloc) | ((with_reducible apply big_up); assumption))); done)))); rintro e wF ⟨rfl, huF⟩) | (go_at_call 26; (first | ((with_reducible refine (mul_big (x := x) (y := x) ?_ ?_ nx nx).mono ?_); (focus ((repeat (first | assumption | ((with_reducible apply big_set); (focus (repeat (first | assumption | ((with_reducible apply blk_new); (focus (first | rfl | (simp; done)))) | (with_reducible apply blk_alloc) | (with_reducible apply blk_drew) | (with_reducible apply blk_drewN) | ((with_reducible apply blk_up); assumption) | (with_reducible apply blk_same) | ((with_reducible apply blk_else); (focus (first | (simp; done) | (simp; omega) | omega))))))) | (with_reducible apply big_alloc) | ((with_reducible apply big_up); assumption))); done)); (focus ((repeat (first | assumption | ((with_reducible apply big_set); (focus (repeat (first | assumption | ((with_reducible apply blk_new); (focus (first | rfl | (simp; done)))) | (with_reducible apply blk_alloc) | (with_reducible apply blk_drew) | (with_reducible apply blk_drewN) | ((with_reducible apply blk_up); assumption) | (with_reducible apply blk_same) | ((with_reducible apply blk_else); (focus (first | (simp; done) | (simp; omega) | omega))))))) | (with_reducible apply big_alloc) | ((with_reducible apply big_up); assumption))); done))) | ((with_reducible refine (mul_big (x := y) (y := y) ?_ ?_ ny ny).mono ?_); (focus ((repeat (first | assumption | ((with_reducible apply big_set); (focus (repeat (first | assumption | ((with_reducible apply blk_new); (focus (first | rfl | (simp; done)))) | (with_reducible apply blk_alloc) | (with_reducible apply blk_drew) | (with_reducible apply blk_drewN) | ((with_reducible apply blk_up); assumption) | (with_reducible apply blk_same) | ((with_reducible apply blk_else); (focus (first | (simp; done) | (simp; omega) | omega))))))) | (with_reducible apply big_alloc) | ((with_reducible apply big_up); assumption))); done)); (focus ((repeat (first | assumption | ((with_reducible apply big_set); (focus (repeat (first | assumption | ((with_reducible apply blk_new); (focus (first | rfl | (simp; done)))) | (with_reducible apply blk_alloc) | (with_reducible apply blk_drew) | (with_reducible apply blk_drewN) | ((with_reducible apply blk_up); assumption) | (with_reducible apply blk_same) | ((with_reducible apply blk_else); (focus (first | (simp; done) | (simp; omega) | omega))))))) | (with_reducible apply big_alloc) | ((with_reducible apply big_up); assumption))); done)))); rintro e wM ⟨huM, u, rfl, hBM⟩; obtain ⟨qm, am, nm, cm, rfl⟩ := hBM.shape) | (go_at_call 24; ((with_reducible refine (add_big (x := x * x) (y := y * y) ?_ ?_ nxx nyy).mono ?_); (focus ((repeat (first | assumption | ((with_reducible apply big_set); (focus (repeat (first | assumption | ((with_reducible apply blk_new); (focus (first | rfl | (simp; done)))) | (with_reducible apply blk_alloc) | (with_reducible apply blk_drew) | (with_reducible apply blk_drewN) | ((with_reducible apply blk_up); assumption) | (with_reducible apply blk_same) | ((with_reducible apply blk_else); (focus (first | (simp; done) | (simp; omega) | omega))))))) | (with_reducible apply big_alloc) | ((with_reducible apply big_up); assumption))); done)); (focus ((repeat (first | assumption | ((with_reducible apply big_set); (focus (repeat (first | assumption | ((with_reducible apply blk_new); (focus (first | rfl | (simp; done)))) | (with_reducible apply blk_alloc) | (with_reducible apply blk_drew) | (with_reducible apply blk_drewN) | ((with_reducible apply blk_up); assumption) | (with_reducible apply blk_same) | ((with_reducible apply blk_else); (focus (first | (simp; done) | (simp; omega) | omega))))))) | (with_reducible apply big_alloc) | ((with_reducible apply big_up); assumption))); done))); rintro e wA ⟨huA, u, rfl, hBA⟩; obtain ⟨qa, aa, na, ca, rfl⟩ := hBA.shape) | (go_at_call 55; (with_reducible refine (HRT.out _ _ hBA).mono ?_); rintro e wR ⟨rfl, huR⟩))
      go_ret2
      exact ⟨rfl, (by repeat (first | assumption | (with_reducible apply Up.of) | (with_reducible exact Below.refl _ _) | (with_reducible exact Up.refl _) | ((with_reducible apply bl_setRow); (focus (first | exact Nat.le_refl _ | (simp; done) | (simp; omega) | omega))) | (with_reducible apply below_drewN) | (with_reducible apply Below.drew) | ((with_reducible apply bl_alloc); (focus (first | exact Nat.le_refl _ | (simp; done) | (simp; omega) | omega))) | ((with_reducible apply bl_setCell); (focus (first | exact Nat.le_refl _ | (simp; done) | (simp; omega) | omega))) | ((with_reducible apply up_tr); assumption)))⟩
end Go.Proofs.Ytiocolbaencbkaa
