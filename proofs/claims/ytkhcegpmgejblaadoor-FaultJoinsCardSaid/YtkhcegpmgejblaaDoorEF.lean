/-
  fault.Is: whether a number is in an error.
-/
import Derived.Test.YtkhcegpmgejblaaDoorEIs
namespace Go.Proofs.YtkhcegpmgejblaaDoor
open Go Go.RowKit
set_option maxRecDepth 100000
set_option maxRecDepth 100000

theorem idle_is (w : World) : CallsD Tryd.prog 21 #[] .returning w fun e u' w' => e = .returned (.tuple #[]) ∧ u' = .returning ∧ w' = w := by
  refine callsD_of_wpS Tryd.func21 rfl fun c₀ cs hu => ?_
  apply wpS_region
  simp [wpOpsS, go_sem, recoverD, hu, Tryd.ntmps21, bodyPostS, results, Tryd.results21]
  cases c₀
  simp_all
theorem fis_any {e : Er} {v : Value} {w : World} (n : Int) (h : IsEr w v e) :
    Calls Tryd.prog 12 #[v, .int .i64 n] w fun r w' => r = .returned (.bool (e.has n)) ∧ Up w w' := by
  have H := hid (is_any n h)
  clear h
  go_enter_defers Tryd.func12, Tryd.ntmps12
  go_wp2_with (first | (go_at_call 22; (with_reducible refine (H.out).mono ?_); rintro r wA ⟨rfl, huA⟩))
  refine leaves_cons (f := 21) (args := #[]) (by simp) (by simp [go_sem]) ?_
  refine (idle_is _).mono ?_
  rintro e u' w'' ⟨rfl, rfl, rfl⟩
  exact ⟨_, results_tmp rfl _ _ _, rfl, huA⟩
theorem fis_nil (n : Int) (w : World) :
    Calls Tryd.prog 12 #[.nilIface, .int .i64 n] w fun r w' => r = .returned (.bool false) ∧ Up w w' := by
  go_enter_defers Tryd.func12, Tryd.ntmps12
  go_wp2_with (first | (go_at_call 22; (with_reducible refine (is_nil _ _).mono ?_); rintro r wA ⟨rfl, huA⟩))
  refine leaves_cons (f := 21) (args := #[]) (by simp) (by simp [go_sem]) ?_
  refine (idle_is _).mono ?_
  rintro e u' w'' ⟨rfl, rfl, rfl⟩
  exact ⟨_, results_tmp rfl _ _ _, rfl, huA⟩
theorem idle_out (w : World) : CallsD Tryd.prog 33 #[] .returning w fun e u' w' => e = .returned (.tuple #[]) ∧ u' = .returning ∧ w' = w := by
  refine callsD_of_wpS Tryd.func33 rfl fun c₀ cs hu => ?_
  apply wpS_region
  simp [wpOpsS, go_sem, recoverD, hu, Tryd.ntmps33, bodyPostS, results, Tryd.results33]
  cases c₀
  simp_all
theorem idle_words (w : World) : CallsD Tryd.prog 29 #[] .returning w fun e u' w' => e = .returned (.tuple #[]) ∧ u' = .returning ∧ w' = w := by
  refine callsD_of_wpS Tryd.func29 rfl fun c₀ cs hu => ?_
  apply wpS_region
  simp [wpOpsS, go_sem, recoverD, hu, Tryd.ntmps29, bodyPostS, results, Tryd.results29]
  cases c₀
  simp_all
end Go.Proofs.YtkhcegpmgejblaaDoor
