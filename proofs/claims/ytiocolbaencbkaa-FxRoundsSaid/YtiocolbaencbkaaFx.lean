/-
  fx: numbers of 64 bits that don't go round.
-/
import Derived.Test.YtiocolbaencbkaaStep
namespace Go.Proofs.Ytiocolbaencbkaa
open Go Go.RowKit
set_option maxRecDepth 100000

theorem fx_size (v : Int) (h1 : -9223372036854775808 ≤ v) (h2 : v < 9223372036854775808) (w : World) :
    Calls Try.prog 79 #[.int .i64 v] w fun e w' => e = .returned (.int .u64 ((v.natAbs : Nat) : Int)) ∧ Up w w' := by
  by_cases h : v < 0
  · have hd : decide (v < 0) = true := decide_eq_true h
    have e : IntKind.u64.wrap (-IntKind.u64.wrap v) = ((v.natAbs : Nat) : Int) := by
      rw [IntKind.wrap_u64, IntKind.wrap_u64]; omega
    go_enter Try.func79, Try.ntmps79
    go_wp2
    go_ret
    exact ⟨rfl, (by repeat (first | assumption | (with_reducible apply Up.of) | (with_reducible exact Below.refl _ _) | (with_reducible exact Up.refl _) | ((with_reducible apply bl_setRow); (focus (first | exact Nat.le_refl _ | (simp; done) | (simp; omega) | omega))) | (with_reducible apply below_drewN) | (with_reducible apply Below.drew) | ((with_reducible apply bl_alloc); (focus (first | exact Nat.le_refl _ | (simp; done) | (simp; omega) | omega))) | ((with_reducible apply bl_setCell); (focus (first | exact Nat.le_refl _ | (simp; done) | (simp; omega) | omega))) | ((with_reducible apply up_tr); assumption)))⟩
  · have hd : decide (v < 0) = false := decide_eq_false h
    have e : IntKind.u64.wrap v = ((v.natAbs : Nat) : Int) := by
      rw [IntKind.wrap_u64]; omega
    go_enter Try.func79, Try.ntmps79
    go_wp2
    go_ret
    exact ⟨rfl, (by repeat (first | assumption | (with_reducible apply Up.of) | (with_reducible exact Below.refl _ _) | (with_reducible exact Up.refl _) | ((with_reducible apply bl_setRow); (focus (first | exact Nat.le_refl _ | (simp; done) | (simp; omega) | omega))) | (with_reducible apply below_drewN) | (with_reducible apply Below.drew) | ((with_reducible apply bl_alloc); (focus (first | exact Nat.le_refl _ | (simp; done) | (simp; omega) | omega))) | ((with_reducible apply bl_setCell); (focus (first | exact Nat.le_refl _ | (simp; done) | (simp; omega) | omega))) | ((with_reducible apply up_tr); assumption)))⟩
theorem i64V_yes {z : Int} (h : -9223372036854775808 ≤ z ∧ z < 9223372036854775808) : i64V z = .tuple #[.int .i64 z, .bool true] := by
  unfold i64V
  rw [if_pos h, decide_eq_true h]
theorem i64V_no {z : Int} (h : ¬ (-9223372036854775808 ≤ z ∧ z < 9223372036854775808)) : i64V z = .tuple #[.int .i64 0, .bool false] := by
  unfold i64V
  rw [if_neg h, decide_eq_false h]
theorem fx_signed (n : Nat) (hn : n < 18446744073709551616) (neg : Bool) (w : World) :
    Calls Try.prog 80 #[.int .u64 n, .bool neg] w fun e w' => e = .returned (i64V (pm neg n)) ∧ Up w w' := by
  cases neg with
  | false =>
    by_cases h : n < 9223372036854775808
    · rw [show i64V (pm false n) = .tuple #[.int .i64 n, .bool true] from i64V_yes (by simp only [pm, Bool.false_eq_true, if_false]; omega)]
      have hc : IntKind.i64.wrap (n : Int) = n := IntWalk.i64_in _ (by omega)
      have hd : decide ((n : Int) < 0) = false := decide_eq_false (by omega)
      go_enter Try.func80, Try.ntmps80
      go_wp2
      go_ret2
      exact ⟨rfl, (by repeat (first | assumption | (with_reducible apply Up.of) | (with_reducible exact Below.refl _ _) | (with_reducible exact Up.refl _) | ((with_reducible apply bl_setRow); (focus (first | exact Nat.le_refl _ | (simp; done) | (simp; omega) | omega))) | (with_reducible apply below_drewN) | (with_reducible apply Below.drew) | ((with_reducible apply bl_alloc); (focus (first | exact Nat.le_refl _ | (simp; done) | (simp; omega) | omega))) | ((with_reducible apply bl_setCell); (focus (first | exact Nat.le_refl _ | (simp; done) | (simp; omega) | omega))) | ((with_reducible apply up_tr); assumption)))⟩
    · rw [show i64V (pm false n) = .tuple #[.int .i64 0, .bool false] from i64V_no (by simp only [pm, Bool.false_eq_true, if_false]; omega)]
      obtain ⟨u, hu⟩ : ∃ u : Int, u = (n : Int) - 18446744073709551616 := ⟨_, rfl⟩
      have hc : IntKind.i64.wrap (n : Int) = u := by rw [IntKind.wrap_i64]; omega
      have hd : decide (u < 0) = true := decide_eq_true (by omega)
      have h0 : ((n : Int) != 0) = true := by simp; omega
      clear hu h hn
      go_enter Try.func80, Try.ntmps80
      go_wp2
      go_ret2
      exact ⟨rfl, (by repeat (first | assumption | (with_reducible apply Up.of) | (with_reducible exact Below.refl _ _) | (with_reducible exact Up.refl _) | ((with_reducible apply bl_setRow); (focus (first | exact Nat.le_refl _ | (simp; done) | (simp; omega) | omega))) | (with_reducible apply below_drewN) | (with_reducible apply Below.drew) | ((with_reducible apply bl_alloc); (focus (first | exact Nat.le_refl _ | (simp; done) | (simp; omega) | omega))) | ((with_reducible apply bl_setCell); (focus (first | exact Nat.le_refl _ | (simp; done) | (simp; omega) | omega))) | ((with_reducible apply up_tr); assumption)))⟩
  | true =>
    by_cases h : n ≤ 9223372036854775808
    · rw [show i64V (pm true n) = .tuple #[.int .i64 (-(n : Int)), .bool true] from i64V_yes (by simp only [pm, if_true]; omega)]
      obtain ⟨u, hu⟩ : ∃ u : Int, u = if (n : Int) < 9223372036854775808 then (n : Int) else -9223372036854775808 := ⟨_, rfl⟩
      have hc : IntKind.i64.wrap (n : Int) = u := by rw [IntKind.wrap_i64]; split at hu <;> omega
      obtain ⟨v, hv⟩ : ∃ v : Int, v = -(n : Int) := ⟨_, rfl⟩
      have hc2 : IntKind.i64.wrap (-u) = v := by rw [IntKind.wrap_i64]; split at hu <;> omega
      by_cases h0 : n = 0
      · have h00 : ((n : Int) != 0) = false := by simp; omega
        have hd : decide (v < 0) = false := decide_eq_false (by omega)
        rw [← hv]
        clear hu hv h hn h0
        go_enter Try.func80, Try.ntmps80
        go_wp2
        go_ret2
        exact ⟨rfl, (by repeat (first | assumption | (with_reducible apply Up.of) | (with_reducible exact Below.refl _ _) | (with_reducible exact Up.refl _) | ((with_reducible apply bl_setRow); (focus (first | exact Nat.le_refl _ | (simp; done) | (simp; omega) | omega))) | (with_reducible apply below_drewN) | (with_reducible apply Below.drew) | ((with_reducible apply bl_alloc); (focus (first | exact Nat.le_refl _ | (simp; done) | (simp; omega) | omega))) | ((with_reducible apply bl_setCell); (focus (first | exact Nat.le_refl _ | (simp; done) | (simp; omega) | omega))) | ((with_reducible apply up_tr); assumption)))⟩
      · have hd : decide (v < 0) = true := decide_eq_true (by omega)
        rw [← hv]
        clear hu hv h hn h0
        go_enter Try.func80, Try.ntmps80
        go_wp2
        go_ret2
        exact ⟨rfl, (by repeat (first | assumption | (with_reducible apply Up.of) | (with_reducible exact Below.refl _ _) | (with_reducible exact Up.refl _) | ((with_reducible apply bl_setRow); (focus (first | exact Nat.le_refl _ | (simp; done) | (simp; omega) | omega))) | (with_reducible apply below_drewN) | (with_reducible apply Below.drew) | ((with_reducible apply bl_alloc); (focus (first | exact Nat.le_refl _ | (simp; done) | (simp; omega) | omega))) | ((with_reducible apply bl_setCell); (focus (first | exact Nat.le_refl _ | (simp; done) | (simp; omega) | omega))) | ((with_reducible apply up_tr); assumption)))⟩
    · rw [show i64V (pm true n) = .tuple #[.int .i64 0, .bool false] from i64V_no (by simp only [pm, if_true]; omega)]
      obtain ⟨u, hu⟩ : ∃ u : Int, u = (n : Int) - 18446744073709551616 := ⟨_, rfl⟩
      have hc : IntKind.i64.wrap (n : Int) = u := by rw [IntKind.wrap_i64]; omega
      obtain ⟨v, hv⟩ : ∃ v : Int, v = -u := ⟨_, rfl⟩
      have hc2 : IntKind.i64.wrap (-u) = v := by rw [IntKind.wrap_i64]; omega
      have hd : decide (v < 0) = false := decide_eq_false (by omega)
      have h0 : ((n : Int) != 0) = true := by simp; omega
      clear hu hv h hn
      go_enter Try.func80, Try.ntmps80
      go_wp2
      go_ret2
      exact ⟨rfl, (by repeat (first | assumption | (with_reducible apply Up.of) | (with_reducible exact Below.refl _ _) | (with_reducible exact Up.refl _) | ((with_reducible apply bl_setRow); (focus (first | exact Nat.le_refl _ | (simp; done) | (simp; omega) | omega))) | (with_reducible apply below_drewN) | (with_reducible apply Below.drew) | ((with_reducible apply bl_alloc); (focus (first | exact Nat.le_refl _ | (simp; done) | (simp; omega) | omega))) | ((with_reducible apply bl_setCell); (focus (first | exact Nat.le_refl _ | (simp; done) | (simp; omega) | omega))) | ((with_reducible apply up_tr); assumption)))⟩
/-- A sum's test tells whether it went round. -/
theorem fx_add (a b : Int) (a1 : -9223372036854775808 ≤ a) (a2 : a < 9223372036854775808) (b1 : -9223372036854775808 ≤ b) (b2 : b < 9223372036854775808) (w : World) :
    Calls Try.prog 45 #[.int .i64 a, .int .i64 b] w fun e w' => e = .returned (i64V (a + b)) ∧ Up w w' := by
  obtain ⟨s, hs⟩ : ∃ s : Int, IntKind.i64.wrap (a + b) = s := ⟨_, rfl⟩
  obtain ⟨p, hp⟩ : ∃ p : Bool, decide (a < s) = p := ⟨_, rfl⟩
  obtain ⟨q, hq⟩ : ∃ q : Bool, decide (0 < b) = q := ⟨_, rfl⟩
  have hs' := hs
  have hp' := hp
  have hq' := hq
  rw [IntKind.wrap_i64] at hs'
  by_cases h : -9223372036854775808 ≤ a + b ∧ a + b < 9223372036854775808
  · have e : s = a + b := by omega
    rw [i64V_yes h, ← e]
    have : p = q := by rw [← hp, ← hq, decide_eq_decide]; omega
    subst this
    clear hs' hp' hq' e h
    go_enter Try.func45, Try.ntmps45
    cases p <;> (go_wp2; go_ret2; exact ⟨rfl, (by repeat (first | assumption | (with_reducible apply Up.of) | (with_reducible exact Below.refl _ _) | (with_reducible exact Up.refl _) | ((with_reducible apply bl_setRow); (focus (first | exact Nat.le_refl _ | (simp; done) | (simp; omega) | omega))) | (with_reducible apply below_drewN) | (with_reducible apply Below.drew) | ((with_reducible apply bl_alloc); (focus (first | exact Nat.le_refl _ | (simp; done) | (simp; omega) | omega))) | ((with_reducible apply bl_setCell); (focus (first | exact Nat.le_refl _ | (simp; done) | (simp; omega) | omega))) | ((with_reducible apply up_tr); assumption)))⟩)
  · rw [i64V_no h]
    have : p = !q := by
      rw [← hp, ← hq, ← decide_not, decide_eq_decide]; omega
    subst this
    clear hs' hp' hq' h
    go_enter Try.func45, Try.ntmps45
    cases q <;> (simp only [Bool.not_true, Bool.not_false] at hp; go_wp2; go_ret2; exact ⟨rfl, (by repeat (first | assumption | (with_reducible apply Up.of) | (with_reducible exact Below.refl _ _) | (with_reducible exact Up.refl _) | ((with_reducible apply bl_setRow); (focus (first | exact Nat.le_refl _ | (simp; done) | (simp; omega) | omega))) | (with_reducible apply below_drewN) | (with_reducible apply Below.drew) | ((with_reducible apply bl_alloc); (focus (first | exact Nat.le_refl _ | (simp; done) | (simp; omega) | omega))) | ((with_reducible apply bl_setCell); (focus (first | exact Nat.le_refl _ | (simp; done) | (simp; omega) | omega))) | ((with_reducible apply up_tr); assumption)))⟩)
theorem fx_sub (a b : Int) (a1 : -9223372036854775808 ≤ a) (a2 : a < 9223372036854775808) (b1 : -9223372036854775808 ≤ b) (b2 : b < 9223372036854775808) (w : World) :
    Calls Try.prog 46 #[.int .i64 a, .int .i64 b] w fun e w' => e = .returned (i64V (a - b)) ∧ Up w w' := by
  obtain ⟨s, hs⟩ : ∃ s : Int, IntKind.i64.wrap (a - b) = s := ⟨_, rfl⟩
  obtain ⟨p, hp⟩ : ∃ p : Bool, decide (s < a) = p := ⟨_, rfl⟩
  obtain ⟨q, hq⟩ : ∃ q : Bool, decide (0 < b) = q := ⟨_, rfl⟩
  have hs' := hs
  have hp' := hp
  have hq' := hq
  rw [IntKind.wrap_i64] at hs'
  by_cases h : -9223372036854775808 ≤ a - b ∧ a - b < 9223372036854775808
  · have e : s = a - b := by omega
    rw [i64V_yes h, ← e]
    have : p = q := by rw [← hp, ← hq, decide_eq_decide]; omega
    subst this
    clear hs' hp' hq' e h
    go_enter Try.func46, Try.ntmps46
    cases p <;> (go_wp2; go_ret2; exact ⟨rfl, (by repeat (first | assumption | (with_reducible apply Up.of) | (with_reducible exact Below.refl _ _) | (with_reducible exact Up.refl _) | ((with_reducible apply bl_setRow); (focus (first | exact Nat.le_refl _ | (simp; done) | (simp; omega) | omega))) | (with_reducible apply below_drewN) | (with_reducible apply Below.drew) | ((with_reducible apply bl_alloc); (focus (first | exact Nat.le_refl _ | (simp; done) | (simp; omega) | omega))) | ((with_reducible apply bl_setCell); (focus (first | exact Nat.le_refl _ | (simp; done) | (simp; omega) | omega))) | ((with_reducible apply up_tr); assumption)))⟩)
  · rw [i64V_no h]
    have : p = !q := by
      rw [← hp, ← hq, ← decide_not, decide_eq_decide]; omega
    subst this
    clear hs' hp' hq' h
    go_enter Try.func46, Try.ntmps46
    cases q <;> (simp only [Bool.not_true, Bool.not_false] at hp; go_wp2; go_ret2; exact ⟨rfl, (by repeat (first | assumption | (with_reducible apply Up.of) | (with_reducible exact Below.refl _ _) | (with_reducible exact Up.refl _) | ((with_reducible apply bl_setRow); (focus (first | exact Nat.le_refl _ | (simp; done) | (simp; omega) | omega))) | (with_reducible apply below_drewN) | (with_reducible apply Below.drew) | ((with_reducible apply bl_alloc); (focus (first | exact Nat.le_refl _ | (simp; done) | (simp; omega) | omega))) | ((with_reducible apply bl_setCell); (focus (first | exact Nat.le_refl _ | (simp; done) | (simp; omega) | omega))) | ((with_reducible apply up_tr); assumption)))⟩)
theorem fx_amount (v : Int) (h1 : -9223372036854775808 ≤ v) (h2 : v < 9223372036854775808) (w : World) :
    Calls Try.prog 48 #[.int .i64 v] w fun e w' => e = .returned (i64V (v.natAbs : Nat)) ∧ Up w w' := by
  have HS := hid (fun w => fx_size v h1 h2 w)
  have HG := hid (fun w => fx_signed v.natAbs (by omega) false w)
  rw [show pm false v.natAbs = ((v.natAbs : Nat) : Int) from rfl] at HG
  generalize v.natAbs = n at *
  obtain ⟨x, ok, hx⟩ : ∃ x ok, i64V (n : Int) = .tuple #[.int .i64 x, .bool ok] := ⟨_, _, rfl⟩
  rw [hx] at HG ⊢
  clear hx
  go_enter Try.func48, Try.ntmps48
  go_wp2_with (first | (go_at_call 79; refine (HS.out _).mono ?_; rintro e w' ⟨rfl, hu⟩) | (go_at_call 80; refine (HG.out _).mono ?_; rintro e w' ⟨rfl, hu⟩))
  go_ret2
  exact ⟨rfl, (by repeat (first | assumption | (with_reducible apply Up.of) | (with_reducible exact Below.refl _ _) | (with_reducible exact Up.refl _) | ((with_reducible apply bl_setRow); (focus (first | exact Nat.le_refl _ | (simp; done) | (simp; omega) | omega))) | (with_reducible apply below_drewN) | (with_reducible apply Below.drew) | ((with_reducible apply bl_alloc); (focus (first | exact Nat.le_refl _ | (simp; done) | (simp; omega) | omega))) | ((with_reducible apply bl_setCell); (focus (first | exact Nat.le_refl _ | (simp; done) | (simp; omega) | omega))) | ((with_reducible apply up_tr); assumption)))⟩
theorem fx_sides (a b : Int) : ∃ p q : Bool, decide (a < 0) = p ∧ decide (b < 0) = q ∧ a * b = pm (p != q) (a.natAbs * b.natAbs) := by
  refine ⟨_, _, rfl, rfl, ?_⟩
  obtain ⟨p, hp⟩ : ∃ p : Bool, decide (a < 0) = p := ⟨_, rfl⟩
  obtain ⟨q, hq⟩ : ∃ q : Bool, decide (b < 0) = q := ⟨_, rfl⟩
  rw [hp, hq]
  have ha : a = if p then -((a.natAbs : Nat) : Int) else ((a.natAbs : Nat) : Int) := by
    subst hp; by_cases h : a < 0 <;> simp [h] <;> omega
  have hb : b = if q then -((b.natAbs : Nat) : Int) else ((b.natAbs : Nat) : Int) := by
    subst hq; by_cases h : b < 0 <;> simp [h] <;> omega
  generalize a.natAbs = x at *
  generalize b.natAbs = y at *
  subst ha
  subst hb
  clear hp hq
  cases p <;> cases q <;> simp [pm, Int.natCast_mul, Int.neg_mul, Int.mul_neg]
theorem fx_mul (a b : Int) (a1 : -9223372036854775808 ≤ a) (a2 : a < 9223372036854775808) (b1 : -9223372036854775808 ≤ b) (b2 : b < 9223372036854775808) (w : World) :
    Calls Try.prog 47 #[.int .i64 a, .int .i64 b] w fun e w' => e = .returned (i64V (a * b)) ∧ Up w w' := by
  have HA := hid (fun w => fx_size a a1 a2 w)
  have HB := hid (fun w => fx_size b b1 b2 w)
  have hx : a.natAbs < 18446744073709551616 := by omega
  have hy : b.natAbs < 18446744073709551616 := by omega
  obtain ⟨p, q, hp, hq, e⟩ := fx_sides a b
  rw [e]
  clear e
  generalize a.natAbs = x at *
  generalize b.natAbs = y at *
  obtain ⟨h, l, HM, eh, el⟩ : ∃ h l : Nat, Hid (∀ w, Calls Try.prog 78 #[.int .u64 x, .int .u64 y] w fun e w' => e = .returned (.tuple #[.int .u64 (h : Nat), .int .u64 (l : Nat)]) ∧ w' = w) ∧
      h = x * y / 18446744073709551616 ∧ l = x * y % 18446744073709551616 := ⟨_, _, hid (Try.bits_Mul64 x y hx hy), rfl, rfl⟩
  by_cases h0 : h = 0
  · have e : x * y = l := by omega
    rw [e]
    obtain ⟨z, ok, hz⟩ : ∃ z ok, i64V (pm (p != q) l) = .tuple #[.int .i64 z, .bool ok] := ⟨_, _, rfl⟩
    have hs := fun w => fx_signed l (by omega) (p != q) w
    rw [hz] at hs
    have HS := hid hs
    have e0 : ((h : Int) != 0) = false := by simp; omega
    rw [hz]
    clear hs hz e eh el h0 hx hy
    go_enter Try.func47, Try.ntmps47
    go_wp2_with (first | (go_at_call 79; (first | (with_reducible refine (HA.out _).mono ?_) | (with_reducible refine (HB.out _).mono ?_)); rintro e w' ⟨rfl, hu⟩) | (go_at_call 78; refine (HM.out _).mono ?_; rintro e w' ⟨rfl, rfl⟩) | (go_at_call 80; refine (HS.out _).mono ?_; rintro e w' ⟨rfl, hu⟩))
    go_ret2
    exact ⟨rfl, (by repeat (first | assumption | (with_reducible apply Up.of) | (with_reducible exact Below.refl _ _) | (with_reducible exact Up.refl _) | ((with_reducible apply bl_setRow); (focus (first | exact Nat.le_refl _ | (simp; done) | (simp; omega) | omega))) | (with_reducible apply below_drewN) | (with_reducible apply Below.drew) | ((with_reducible apply bl_alloc); (focus (first | exact Nat.le_refl _ | (simp; done) | (simp; omega) | omega))) | ((with_reducible apply bl_setCell); (focus (first | exact Nat.le_refl _ | (simp; done) | (simp; omega) | omega))) | ((with_reducible apply up_tr); assumption)))⟩
  · have hbig : 18446744073709551616 ≤ x * y := by
      have := Nat.div_add_mod (x * y) 18446744073709551616
      rw [← eh, ← el] at this
      omega
    rw [show i64V (pm (p != q) (x * y)) = .tuple #[.int .i64 0, .bool false] from i64V_no (by
      generalize x * y = n at *
      cases (p != q) <;> simp only [pm, Bool.false_eq_true, if_false, if_true] <;> omega)]
    have e0 : ((h : Int) != 0) = true := by simp; omega
    clear eh el h0 hx hy hbig
    go_enter Try.func47, Try.ntmps47
    go_wp2_with (first | (go_at_call 79; (first | (with_reducible refine (HA.out _).mono ?_) | (with_reducible refine (HB.out _).mono ?_)); rintro e w' ⟨rfl, hu⟩) | (go_at_call 78; refine (HM.out _).mono ?_; rintro e w' ⟨rfl, rfl⟩))
    go_ret2
    exact ⟨rfl, (by repeat (first | assumption | (with_reducible apply Up.of) | (with_reducible exact Below.refl _ _) | (with_reducible exact Up.refl _) | ((with_reducible apply bl_setRow); (focus (first | exact Nat.le_refl _ | (simp; done) | (simp; omega) | omega))) | (with_reducible apply below_drewN) | (with_reducible apply Below.drew) | ((with_reducible apply bl_alloc); (focus (first | exact Nat.le_refl _ | (simp; done) | (simp; omega) | omega))) | ((with_reducible apply bl_setCell); (focus (first | exact Nat.le_refl _ | (simp; done) | (simp; omega) | omega))) | ((with_reducible apply up_tr); assumption)))⟩
theorem wf_in {z : Int} (h : (Lit.int .i64 z).wf = true) : -9223372036854775808 ≤ z ∧ z < 9223372036854775808 := by
  simp [Lit.wf, IntKind.min, IntKind.max, IntKind.signed, IntKind.bits] at h
  omega
theorem bits_in (op : BinOp) (x y : Int) : -9223372036854775808 ≤ bits op .i64 x y ∧ bits op .i64 x y < 9223372036854775808 := by
  unfold bits
  split <;> (rw [IntKind.wrap_i64]; omega)
/-- A number near an edge, or any other one: some number of 64 bits. -/
theorem near_any (v : Int) (h1 : -9223372036854775808 ≤ v) (h2 : v < 9223372036854775808) (k : Nat) (hk : k < 256) :
    ∃ r : Int, -9223372036854775808 ≤ r ∧ r < 9223372036854775808 ∧ ∀ w, Calls Try.prog 44 #[.int .i64 v, .int .u8 k] w fun e w' => e = .returned (.int .i64 r) ∧ Up w w' := by
  obtain ⟨m, hm⟩ : ∃ m : Nat, (k : Int) % 6 = m := ⟨k % 6, by omega⟩
  have hm6 : m < 6 := by omega
  have : m = 0 ∨ m = 1 ∨ m = 2 ∨ m = 3 ∨ m = 4 ∨ m = 5 := by omega
  rcases this with rfl | rfl | rfl | rfl | rfl | rfl
  · refine ⟨v, h1, h2, fun w => ?_⟩
    go_enter Try.func44, Try.ntmps44
    go_wp2
    go_ret
    exact ⟨rfl, (by repeat (first | assumption | (with_reducible apply Up.of) | (with_reducible exact Below.refl _ _) | (with_reducible exact Up.refl _) | ((with_reducible apply bl_setRow); (focus (first | exact Nat.le_refl _ | (simp; done) | (simp; omega) | omega))) | (with_reducible apply below_drewN) | (with_reducible apply Below.drew) | ((with_reducible apply bl_alloc); (focus (first | exact Nat.le_refl _ | (simp; done) | (simp; omega) | omega))) | ((with_reducible apply bl_setCell); (focus (first | exact Nat.le_refl _ | (simp; done) | (simp; omega) | omega))) | ((with_reducible apply up_tr); assumption)))⟩
  · have h := wf_in (RowKit.wrap64_wf (9223372036854775807 - bits BinOp.and IntKind.i64 v 7))
    refine ⟨_, h.1, h.2, fun w => ?_⟩
    clear h
    go_enter Try.func44, Try.ntmps44
    go_wp2
    go_ret
    exact ⟨rfl, (by repeat (first | assumption | (with_reducible apply Up.of) | (with_reducible exact Below.refl _ _) | (with_reducible exact Up.refl _) | ((with_reducible apply bl_setRow); (focus (first | exact Nat.le_refl _ | (simp; done) | (simp; omega) | omega))) | (with_reducible apply below_drewN) | (with_reducible apply Below.drew) | ((with_reducible apply bl_alloc); (focus (first | exact Nat.le_refl _ | (simp; done) | (simp; omega) | omega))) | ((with_reducible apply bl_setCell); (focus (first | exact Nat.le_refl _ | (simp; done) | (simp; omega) | omega))) | ((with_reducible apply up_tr); assumption)))⟩
  · have h := wf_in (RowKit.wrap64_wf (-9223372036854775808 + bits BinOp.and IntKind.i64 v 7))
    refine ⟨_, h.1, h.2, fun w => ?_⟩
    clear h
    go_enter Try.func44, Try.ntmps44
    go_wp2
    go_ret
    exact ⟨rfl, (by repeat (first | assumption | (with_reducible apply Up.of) | (with_reducible exact Below.refl _ _) | (with_reducible exact Up.refl _) | ((with_reducible apply bl_setRow); (focus (first | exact Nat.le_refl _ | (simp; done) | (simp; omega) | omega))) | (with_reducible apply below_drewN) | (with_reducible apply Below.drew) | ((with_reducible apply bl_alloc); (focus (first | exact Nat.le_refl _ | (simp; done) | (simp; omega) | omega))) | ((with_reducible apply bl_setCell); (focus (first | exact Nat.le_refl _ | (simp; done) | (simp; omega) | omega))) | ((with_reducible apply up_tr); assumption)))⟩
  · refine ⟨v / 4294967296, by omega, by omega, fun w => ?_⟩
    go_enter Try.func44, Try.ntmps44
    go_wp2
    go_ret
    exact ⟨rfl, (by repeat (first | assumption | (with_reducible apply Up.of) | (with_reducible exact Below.refl _ _) | (with_reducible exact Up.refl _) | ((with_reducible apply bl_setRow); (focus (first | exact Nat.le_refl _ | (simp; done) | (simp; omega) | omega))) | (with_reducible apply below_drewN) | (with_reducible apply Below.drew) | ((with_reducible apply bl_alloc); (focus (first | exact Nat.le_refl _ | (simp; done) | (simp; omega) | omega))) | ((with_reducible apply bl_setCell); (focus (first | exact Nat.le_refl _ | (simp; done) | (simp; omega) | omega))) | ((with_reducible apply up_tr); assumption)))⟩
  · have h := bits_in BinOp.and v 15
    refine ⟨_, h.1, h.2, fun w => ?_⟩
    clear h
    go_enter Try.func44, Try.ntmps44
    go_wp2
    go_ret
    exact ⟨rfl, (by repeat (first | assumption | (with_reducible apply Up.of) | (with_reducible exact Below.refl _ _) | (with_reducible exact Up.refl _) | ((with_reducible apply bl_setRow); (focus (first | exact Nat.le_refl _ | (simp; done) | (simp; omega) | omega))) | (with_reducible apply below_drewN) | (with_reducible apply Below.drew) | ((with_reducible apply bl_alloc); (focus (first | exact Nat.le_refl _ | (simp; done) | (simp; omega) | omega))) | ((with_reducible apply bl_setCell); (focus (first | exact Nat.le_refl _ | (simp; done) | (simp; omega) | omega))) | ((with_reducible apply up_tr); assumption)))⟩
  · have h := wf_in (RowKit.wrap64_wf (-bits BinOp.and IntKind.i64 v 15))
    refine ⟨_, h.1, h.2, fun w => ?_⟩
    clear h
    go_enter Try.func44, Try.ntmps44
    go_wp2
    go_ret
    exact ⟨rfl, (by repeat (first | assumption | (with_reducible apply Up.of) | (with_reducible exact Below.refl _ _) | (with_reducible exact Up.refl _) | ((with_reducible apply bl_setRow); (focus (first | exact Nat.le_refl _ | (simp; done) | (simp; omega) | omega))) | (with_reducible apply below_drewN) | (with_reducible apply Below.drew) | ((with_reducible apply bl_alloc); (focus (first | exact Nat.le_refl _ | (simp; done) | (simp; omega) | omega))) | ((with_reducible apply bl_setCell); (focus (first | exact Nat.le_refl _ | (simp; done) | (simp; omega) | omega))) | ((with_reducible apply up_tr); assumption)))⟩
end Go.Proofs.Ytiocolbaencbkaa
