/-
  FxSides: a long side is no shorter than either, and no longer than both together.
-/
import Derived.Test.YtiocolbaencbkaaFxSide
import Derived.Test.YtiocolbaencbkaaPow
namespace Go.Proofs.Ytiocolbaencbkaa
open Go Go.RowKit
set_option maxRecDepth 100000

theorem sides_w (a b : Int) (a1 : -2147483648 ≤ a) (a2 : a < 2147483648) (b1 : -2147483648 ≤ b) (b2 : b < 2147483648) (w : World) :
    Calls Try.prog 16 #[.int .i32 a, .int .i32 b] w fun e w' => e = .returned (.bool true) ∧ Up w w' := by
  have HK := hid known2_true
  obtain ⟨r, h1, h2⟩ := root_ex (a.natAbs * a.natAbs + b.natAbs * b.natAbs)
  have HH := hid (fun w => fx_hypot a b r (by omega) (by omega) h1 h2 w)
  have HG := hid (fun w => fx_hypot (-b) a r (by omega) (by omega) (by rw [Int.natAbs_neg, Nat.add_comm]; exact h1) (by rw [Int.natAbs_neg, Nat.add_comm]; exact h2) w)
  have hp : a.natAbs ≤ r := root_one (show a.natAbs * a.natAbs ≤ a.natAbs * a.natAbs + b.natAbs * b.natAbs by omega) h2
  have hq : b.natAbs ≤ r := root_one (show b.natAbs * b.natAbs ≤ a.natAbs * a.natAbs + b.natAbs * b.natAbs by omega) h2
  have hpq : r ≤ a.natAbs + b.natAbs := root_one h1 (by
    have : (a.natAbs + b.natAbs + 1) * (a.natAbs + b.natAbs + 1) = a.natAbs * a.natAbs + b.natAbs * b.natAbs + 2 * (a.natAbs * b.natAbs) + 2 * (a.natAbs + b.natAbs) + 1 := by grind
    omega)
  have m1 : max a (-a) = (a.natAbs : Nat) := by omega
  have m2 : max b (-b) = (b.natAbs : Nat) := by omega
  have ha := (show a.natAbs ≤ 2147483648 by omega)
  have hb := (show b.natAbs ≤ 2147483648 by omega)
  clear h1 h2
  generalize a.natAbs = p at *
  generalize b.natAbs = q at *
  have d1 : decide ((p : Int) ≤ r) = true := decide_eq_true (by omega)
  have d2 : decide ((q : Int) ≤ r) = true := decide_eq_true (by omega)
  have d3 : decide ((r : Int) ≤ (p : Int) + q) = true := decide_eq_true (by omega)
  go_enter Try.func16, Try.ntmps16
  go_wp2_with (first | (go_at_call 43; refine (HK.out _).mono ?_; rintro e w' ⟨rfl, hu⟩) | (go_at_call 56; (first | (with_reducible refine (HH.out _).mono ?_) | (with_reducible refine (HG.out _).mono ?_)); rintro e w' ⟨rfl, hu⟩))
  go_ret
  exact ⟨rfl, (by repeat (first | assumption | (with_reducible apply Up.of) | (with_reducible exact Below.refl _ _) | (with_reducible exact Up.refl _) | ((with_reducible apply bl_setRow); (focus (first | exact Nat.le_refl _ | (simp; done) | (simp; omega) | omega))) | (with_reducible apply below_drewN) | (with_reducible apply Below.drew) | ((with_reducible apply bl_alloc); (focus (first | exact Nat.le_refl _ | (simp; done) | (simp; omega) | omega))) | ((with_reducible apply bl_setCell); (focus (first | exact Nat.le_refl _ | (simp; done) | (simp; omega) | omega))) | ((with_reducible apply up_tr); assumption)))⟩
end Go.Proofs.Ytiocolbaencbkaa
