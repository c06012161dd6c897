/-
  The reference's Int64.
-/
import Derived.Test.YtlkolfnklbldcaaRefH
import Derived.Test.YtlkolfnklbldcaaI64
namespace Go.Proofs.Ytlkolfnklbldcaa
open Go Go.RowKit
set_option maxRecDepth 100000

theorem nl_one {X : Nat} (h : nl X = 1) : X < 18446744073709551616 ∧ 0 < X ∧ limb X 0 = X := by
  have h1 := lt_bp_nl X
  rw [h, bp_succ, bp_zero] at h1
  have h2 := nl_pos_iff.1 (show 0 < nl X by omega)
  refine ⟨by omega, h2, ?_⟩
  rw [limb0, Nat.mod_eq_of_lt (by omega)]
theorem nl_two {X : Nat} (h : 1 < nl X) : 18446744073709551616 ≤ X := by
  have h1 := bp_le_nl (show 0 < nl X by omega)
  have h2 := bp_mono (show 1 ≤ nl X - 1 by omega)
  rw [bp_succ, bp_zero] at h2
  omega
set_option maxHeartbeats 1000000 in
theorem int64_big {z : Int} {v : Value} {w : World} (h : Big w v z) (hz : nl z.natAbs < 50000) :
    Calls Try.prog 35 #[v] w fun e w' => e = .returned (i64V z) ∧ Up w w' := by
  obtain ⟨a, c, rfl, hA⟩ := h
  obtain ⟨a', c', he, hc, hcell⟩ := hA.open
  obtain ⟨rfl, -, rfl⟩ : a = a' ∧ True ∧ c = c' := by simpa using he
  clear he hA
  have hpm := pm_int z
  obtain ⟨p, hp⟩ : ∃ p, decide (z < 0) = p := ⟨_, rfl⟩
  obtain ⟨X, hX⟩ : ∃ X, z.natAbs = X := ⟨_, rfl⟩
  rw [hp, hX] at hpm
  rw [hp, hX]
  rw [hX] at hc hcell hz
  rw [hpm]
  clear hpm hp hX
  rcases Nat.lt_trichotomy (nl X) 1 with hn | hn | hn
  · have h0 : nl X = 0 := by omega
    have hX0 : X = 0 := by
      rcases Nat.eq_zero_or_pos X with h | h
      · exact h
      · have := nl_pos h; omega
    have e : i64V (pm p X) = .tuple #[.int .i64 0, .bool true] := by
      subst hX0
      rw [i64V_yes (by cases p <;> simp [pm])]
      cases p <;> simp [pm]
    rw [e, h0]
    clear hcell e
    go_enter Try.func35, Try.ntmps35
    go_wp2
    go_ret2
    exact ⟨rfl, (by repeat (first | assumption | (with_reducible apply Up.of) | (with_reducible exact Below.refl _ _) | (with_reducible exact Up.refl _) | ((with_reducible apply bl_setRow); (focus (first | exact Nat.le_refl _ | (simp; done) | (simp; omega) | omega))) | (with_reducible apply below_drewN) | (with_reducible apply Below.drew) | ((with_reducible apply bl_alloc); (focus (first | exact Nat.le_refl _ | (simp; done) | (simp; omega) | omega))) | ((with_reducible apply bl_setCell); (focus (first | exact Nat.le_refl _ | (simp; done) | (simp; omega) | omega))) | ((with_reducible apply up_tr); assumption)))⟩
  · obtain ⟨h64, hpos, hl⟩ := nl_one hn
    obtain ⟨b, rfl, hb, hcb⟩ := hcell 0 (by omega)
    rw [hl] at hcb
    rw [hn] at hc ⊢
    clear hcell
    have hcW : ((w.alloc (Obj.cells #[Value.bool p, Value.slice (some { block := b, off := 0 }) 1 c] 30))).cell? ⟨b, 0, none⟩ = some (.int .u64 (X : Nat)) := hcb _ (by repeat (first | assumption | (with_reducible apply Up.of) | (with_reducible exact Below.refl _ _) | (with_reducible exact Up.refl _) | ((with_reducible apply bl_setRow); (focus (first | exact Nat.le_refl _ | (simp; done) | (simp; omega) | omega))) | (with_reducible apply below_drewN) | (with_reducible apply Below.drew) | ((with_reducible apply bl_alloc); (focus (first | exact Nat.le_refl _ | (simp; done) | (simp; omega) | omega))) | ((with_reducible apply bl_setCell); (focus (first | exact Nat.le_refl _ | (simp; done) | (simp; omega) | omega))) | ((with_reducible apply up_tr); assumption)))
    clear hcb hl hn
    by_cases h1 : 9223372036854775808 < X
    · have e : i64V (pm p X) = .tuple #[.int .i64 0, .bool false] := i64V_no (by cases p <;> simp only [pm, Bool.false_eq_true, if_false, if_true] <;> omega)
      rw [e]
      have d1 : decide ((9223372036854775808 : Int) < X) = true := decide_eq_true (by omega)
      clear e
      go_enter Try.func35, Try.ntmps35
      go_wp2
      go_ret2
      exact ⟨rfl, (by repeat (first | assumption | (with_reducible apply Up.of) | (with_reducible exact Below.refl _ _) | (with_reducible exact Up.refl _) | ((with_reducible apply bl_setRow); (focus (first | exact Nat.le_refl _ | (simp; done) | (simp; omega) | omega))) | (with_reducible apply below_drewN) | (with_reducible apply Below.drew) | ((with_reducible apply bl_alloc); (focus (first | exact Nat.le_refl _ | (simp; done) | (simp; omega) | omega))) | ((with_reducible apply bl_setCell); (focus (first | exact Nat.le_refl _ | (simp; done) | (simp; omega) | omega))) | ((with_reducible apply up_tr); assumption)))⟩
    · have d1 : decide ((9223372036854775808 : Int) < X) = false := decide_eq_false (by omega)
      cases p with
      | true =>
        have e : i64V (pm true X) = .tuple #[.int .i64 (-(X : Int)), .bool true] := i64V_yes (by simp only [pm, if_true]; omega)
        rw [e]
        obtain ⟨Y, hY⟩ : ∃ Y : Nat, Y = X - 1 := ⟨_, rfl⟩
        obtain ⟨Z, hZ⟩ : ∃ Z : Int, Z = -(X : Int) := ⟨_, rfl⟩
        have e1 : IntKind.u64.wrap ((X : Int) - 1) = (Y : Nat) := by rw [IntKind.wrap_u64]; omega
        have e2 : IntKind.i64.wrap (Y : Int) = (Y : Nat) := IntWalk.i64_in _ (by omega)
        have e3 : IntKind.i64.wrap (-(Y : Int)) = -(Y : Int) := IntWalk.i64_in _ (by omega)
        have e4 : IntKind.i64.wrap (-(Y : Int) - 1) = Z := by rw [IntKind.wrap_i64]; omega
        rw [← hZ]
        have hY1 : Y < 9223372036854775808 := by omega
        clear e hY hZ
        go_enter Try.func35, Try.ntmps35
        go_wp2
        go_ret2
        exact ⟨rfl, (by repeat (first | assumption | (with_reducible apply Up.of) | (with_reducible exact Below.refl _ _) | (with_reducible exact Up.refl _) | ((with_reducible apply bl_setRow); (focus (first | exact Nat.le_refl _ | (simp; done) | (simp; omega) | omega))) | (with_reducible apply below_drewN) | (with_reducible apply Below.drew) | ((with_reducible apply bl_alloc); (focus (first | exact Nat.le_refl _ | (simp; done) | (simp; omega) | omega))) | ((with_reducible apply bl_setCell); (focus (first | exact Nat.le_refl _ | (simp; done) | (simp; omega) | omega))) | ((with_reducible apply up_tr); assumption)))⟩
      | false =>
        by_cases h2 : X = 9223372036854775808
        · subst h2
          have e : i64V (pm false 9223372036854775808) = .tuple #[.int .i64 0, .bool false] := i64V_no (by simp [pm])
          rw [e]
          clear e
          go_enter Try.func35, Try.ntmps35
          go_wp2
          go_ret2
          exact ⟨rfl, (by repeat (first | assumption | (with_reducible apply Up.of) | (with_reducible exact Below.refl _ _) | (with_reducible exact Up.refl _) | ((with_reducible apply bl_setRow); (focus (first | exact Nat.le_refl _ | (simp; done) | (simp; omega) | omega))) | (with_reducible apply below_drewN) | (with_reducible apply Below.drew) | ((with_reducible apply bl_alloc); (focus (first | exact Nat.le_refl _ | (simp; done) | (simp; omega) | omega))) | ((with_reducible apply bl_setCell); (focus (first | exact Nat.le_refl _ | (simp; done) | (simp; omega) | omega))) | ((with_reducible apply up_tr); assumption)))⟩
        · have e : i64V (pm false X) = .tuple #[.int .i64 (X : Nat), .bool true] := i64V_yes (by simp only [pm, Bool.false_eq_true, if_false]; omega)
          rw [e]
          have d2 : ((X : Int) == 9223372036854775808) = false := by simp; omega
          have e2 : IntKind.i64.wrap (X : Int) = (X : Nat) := IntWalk.i64_in _ (by omega)
          clear e
          go_enter Try.func35, Try.ntmps35
          go_wp2
          go_ret2
          exact ⟨rfl, (by repeat (first | assumption | (with_reducible apply Up.of) | (with_reducible exact Below.refl _ _) | (with_reducible exact Up.refl _) | ((with_reducible apply bl_setRow); (focus (first | exact Nat.le_refl _ | (simp; done) | (simp; omega) | omega))) | (with_reducible apply below_drewN) | (with_reducible apply Below.drew) | ((with_reducible apply bl_alloc); (focus (first | exact Nat.le_refl _ | (simp; done) | (simp; omega) | omega))) | ((with_reducible apply bl_setCell); (focus (first | exact Nat.le_refl _ | (simp; done) | (simp; omega) | omega))) | ((with_reducible apply up_tr); assumption)))⟩
  · have h2 := nl_two hn
    have e : i64V (pm p X) = .tuple #[.int .i64 0, .bool false] := i64V_no (by cases p <;> simp only [pm, Bool.false_eq_true, if_false, if_true] <;> omega)
    rw [e]
    clear hcell e
    generalize nl X = n at *
    have d1 : decide ((1 : Int) < (n : Nat)) = true := decide_eq_true (by omega)
    have d0 : ((n : Int) == 0) = false := by simp; omega
    go_enter Try.func35, Try.ntmps35
    go_wp2
    go_ret2
    exact ⟨rfl, (by repeat (first | assumption | (with_reducible apply Up.of) | (with_reducible exact Below.refl _ _) | (with_reducible exact Up.refl _) | ((with_reducible apply bl_setRow); (focus (first | exact Nat.le_refl _ | (simp; done) | (simp; omega) | omega))) | (with_reducible apply below_drewN) | (with_reducible apply Below.drew) | ((with_reducible apply bl_alloc); (focus (first | exact Nat.le_refl _ | (simp; done) | (simp; omega) | omega))) | ((with_reducible apply bl_setCell); (focus (first | exact Nat.le_refl _ | (simp; done) | (simp; omega) | omega))) | ((with_reducible apply up_tr); assumption)))⟩
end Go.Proofs.Ytlkolfnklbldcaa
