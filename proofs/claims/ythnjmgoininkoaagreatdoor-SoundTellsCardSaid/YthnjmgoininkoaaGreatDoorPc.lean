import Derived.Test.YthnjmgoininkoaaGreatDoorPb
import Derived.ChangeSame
import Derived.Lib.MinMax
import Derived.BigQuiet
import Derived.Deep.QuietTactic
namespace Go.Proofs.YthnjmgoininkoaaGreatDoor
open Go Go.RowKit
set_option maxRecDepth 100000
def nv (a b c : Int) : Int := (2 * (a * b) + c) / (2 * c)
def btw (v l m : Int) : Bool := decide (l <= v) && decide (v <= m)
theorem between_any (v l m : Int) (w : World) :
   Calls Tryz.prog 12 #[.int .i64 v, .int .i64 l, .int .i64 m] w fun e w' => e = .returned (.bool (btw v l m)) /\ Up w w' := by
 unfold btw
 obtain ⟨p, hp⟩ : ∃ p, decide (l <= v) = p := ⟨_, rfl⟩
 obtain ⟨q, hq⟩ : ∃ q, decide (v <= m) = q := ⟨_, rfl⟩
 rw [hp, hq]
 cases p
 all_goals
  go_enter Tryz.func12, Tryz.ntmps12
  go_wp2
  go_ret
  exact ⟨rfl, gUp⟩
theorem nv_bound {a b c M : Int} (hc : 0 < c) (h1 : -M <= a * b) (h2 : a * b <= M) : -M <= nv a b c /\ nv a b c <= M + 1 := by
 unfold nv
 generalize a * b = p at *
 have e1 := Int.ediv_mul_add_emod (2 * p + c) (2 * c)
 have e2 := Int.emod_nonneg (2 * p + c) (show 2 * c ≠ 0 by omega)
 have e3 := Int.emod_lt_of_pos (2 * p + c) (show 0 < 2 * c by omega)
 generalize (2 * p + c) / (2 * c) = q at *
 generalize (2 * p + c) % (2 * c) = r at *
 constructor
 ·rcases Int.lt_or_le q (-M) with hq | hq
  ·have h7 : (q + 1) * (2 * c) <= (q + 1) * 2 := Int.mul_le_mul_of_nonpos_left (by omega) (by omega)
   rw [Int.add_mul, Int.one_mul] at h7
   omega
  ·exact hq
 ·rcases Int.lt_or_le (M + 1) q with hq | hq
  ·have h6 : (q - 1) * 2 <= (q - 1) * (2 * c) := Int.mul_le_mul_of_nonneg_left (by omega) (by omega)
   rw [Int.sub_mul q 1 (2 * c), Int.one_mul] at h6
   omega
  ·exact hq
theorem part_any (a b c : Int) (a1 : -9223372036854775808 <= a) (a2 : a < 9223372036854775808) (b1 : -9223372036854775808 <= b) (b2 : b < 9223372036854775808) (c1 : 0 < c) (c2 : c < 9223372036854775808) (p1 : -1000000000000000000 <= a * b) (p2 : a * b <= 1000000000000000000) (w : World) :
   Calls Tryz.prog 14 #[.int .i64 a, .int .i64 b, .int .i64 c] w fun e w' => e = .returned (.int .i64 (nv a b c)) /\ Up w w' := by
 have hb := nv_bound c1 p1 p2
 have H := fun w => fx_muldiv a b c a1 a2 b1 b2 (by omega) c2 w
 rw [show nearV a b c = .tuple #[.int .i64 (nv a b c), .bool true] from by unfold nearV; rw [if_pos c1]; exact i64V_yes (by unfold nv at hb; omega)] at H
 have HM := hid H
 obtain ⟨z, hz⟩ : ∃ z, nv a b c = z := ⟨_, rfl⟩
 rw [hz] at HM ⊢
 clear H hb hz a1 a2 b1 b2 c1 c2 p1 p2
 go_enter Tryz.func14, Tryz.ntmps14
 go_wp2_with (first | (go_at_call 23; refine (HM.out _).mono ?_; rintro e w' ⟨rfl, hu⟩))
 go_ret
 exact ⟨rfl, gUp⟩
def soundB : ByteArray := ⟨#[115, 111, 117, 110, 100]⟩
theorem units_any (w : World) :
   Calls Tryz.prog 13 #[] w fun r w' => ∃ u, r = .returned u /\ Up w w' /\ ErrsG soundB w' u 27 := by
 have HW := hid (fun w => wrap_any (op := { data := #[115, 111, 117, 110, 100] }) (v := .iface 48 (.int .i64 27)) (e := .num 27) (w := w) rfl)
 go_enter Tryz.func13, Tryz.ntmps13
 go_wp2_with (first | (go_at_call 22; (with_reducible refine (HW.out _).mono ?_); rintro r w1 ⟨u1, rfl, hu1, h1⟩))
 go_ret
 obtain ⟨t, u, rfl⟩ := h1.iface
 exact ⟨_, rfl, hu1, .inr ⟨by decide, t, u, rfl, h1⟩⟩
def ToldE (B : ByteArray) (x : Int) (n : Int) (w : World) (r : Ending) (w' : World) : Prop := ∃ u, r = .returned (.tuple #[.int .i64 x, u]) /\ Up w w' /\ ErrsG B w' u n
def spOK (t s z : Int) : Bool := btw t (-500) 4500 && (btw s 0 4500 && btw z 0 1000000)
def spV (t s z : Int) : Int := if spOK t s z then 1449200 + 46 * t - nv (t * t) 55 10000 + nv (t * t * t) 29 100000000 + nv (13400 - t) (s - 3500) 1000 + nv 16 z 1000 else 0
def spC (t s z : Int) : Int := if spOK t s z then 0 else 27
theorem btw_ok {v l m : Int} (h : btw v l m = true) : l <= v /\ v <= m := by unfold btw at h; simpa using h
theorem mul_bd {a b A B : Int} (h1 : -A <= a) (h2 : a <= A) (h3 : -B <= b) (h4 : b <= B) : -(A * B) <= a * b /\ a * b <= A * B := by
 have h : (a * b).natAbs <= A.natAbs * B.natAbs := by rw [Int.natAbs_mul]; exact Nat.mul_le_mul (by omega) (by omega)
 have h' : (A * B).natAbs = A.natAbs * B.natAbs := Int.natAbs_mul A B
 have h0 : 0 <= A * B := Int.mul_nonneg (by omega) (by omega)
 omega
set_option maxHeartbeats 4000000 in
theorem speed_any (t s z : Int) (w : World) : Calls Tryz.prog 5 #[.int .i64 t, .int .i64 s, .int .i64 z] w (ToldE soundB (spV t s z) (spC t s z) w) := by
 have HB1 := hid (fun w => between_any t (-500) 4500 w)
 have HB2 := hid (fun w => between_any s 0 4500 w)
 have HB3 := hid (fun w => between_any z 0 1000000 w)
 have HE := hid (fun w => units_any w)
 have HV : Hid (spV t s z = if (btw t (-500) 4500 && (btw s 0 4500 && btw z 0 1000000)) then 1449200 + 46 * t - nv (t * t) 55 10000 + nv (t * t * t) 29 100000000 + nv (13400 - t) (s - 3500) 1000 + nv 16 z 1000 else 0) := hid rfl
 have HC : Hid (spC t s z = if (btw t (-500) 4500 && (btw s 0 4500 && btw z 0 1000000)) then 0 else 27) := hid rfl
 have o1 : btw t (-500) 4500 = true -> -500 <= t /\ t <= 4500 := btw_ok
 have o2 : btw s 0 4500 = true -> 0 <= s /\ s <= 4500 := btw_ok
 have o3 : btw z 0 1000000 = true -> 0 <= z /\ z <= 1000000 := btw_ok
 obtain ⟨x, hx⟩ : ∃ x, spV t s z = x := ⟨_, rfl⟩
 obtain ⟨c, hc⟩ : ∃ c, spC t s z = c := ⟨_, rfl⟩
 rw [hx] at HV ⊢
 rw [hc] at HC ⊢
 obtain ⟨p1, h1⟩ : ∃ p, btw t (-500) 4500 = p := ⟨_, rfl⟩
 obtain ⟨p2, h2⟩ : ∃ p, btw s 0 4500 = p := ⟨_, rfl⟩
 obtain ⟨p3, h3⟩ : ∃ p, btw z 0 1000000 = p := ⟨_, rfl⟩
 rw [h1] at HB1 o1 HV HC
 rw [h2] at HB2 o2 HV HC
 rw [h3] at HB3 o3 HV HC
 clear hx hc h1 h2 h3
 by_cases hp : (p1 && (p2 && p3)) = true
 ·obtain ⟨rfl, rfl, rfl⟩ : p1 = true /\ p2 = true /\ p3 = true := by cases p1 <;> cases p2 <;> cases p3 <;> simp at hp ⊢
  obtain ⟨t1, t2⟩ := o1 rfl
  obtain ⟨s1, s2⟩ := o2 rfl
  obtain ⟨z1, z2⟩ := o3 rfl
  have hV := HV.out
  rw [if_pos hp] at hV
  obtain rfl : c = 0 := by rw [HC.out, if_pos hp]
  have q1 := mul_bd (a := t) (b := t) (A := 4500) (B := 4500) (by omega) (by omega) (by omega) (by omega)
  have q2 := mul_bd (a := t * t) (b := t) (A := 20250000) (B := 4500) (by omega) (by omega) (by omega) (by omega)
  have q3 := mul_bd (a := t * t) (b := 55) (A := 20250000) (B := 55) (by omega) (by omega) (by omega) (by omega)
  have q4 := mul_bd (a := t * t * t) (b := 29) (A := 91125000000) (B := 29) (by omega) (by omega) (by omega) (by omega)
  have q5 := mul_bd (a := 13400 - t) (b := s - 3500) (A := 13900) (B := 3500) (by omega) (by omega) (by omega) (by omega)
  have q6 := mul_bd (a := 16) (b := z) (A := 16) (B := 1000000) (by omega) (by omega) (by omega) (by omega)
  have n1 := nv_bound (c := 10000) (M := 1113750000) (by omega) (by omega) (by omega : t * t * 55 <= _)
  have n2 := nv_bound (c := 100000000) (M := 2642625000000) (by omega) (by omega) (by omega : t * t * t * 29 <= _)
  have n3 := nv_bound (c := 1000) (M := 48650000) (by omega) (by omega) (by omega : (13400 - t) * (s - 3500) <= _)
  have n4 := nv_bound (c := 1000) (M := 16000000) (by omega) (by omega) (by omega : 16 * z <= _)
  have HP1 := hid (fun w => part_any (t * t) 55 10000 (by omega) (by omega) (by omega) (by omega) (by omega) (by omega) (by omega) (by omega) w)
  have HP2 := hid (fun w => part_any (t * t * t) 29 100000000 (by omega) (by omega) (by omega) (by omega) (by omega) (by omega) (by omega) (by omega) w)
  have HP3 := hid (fun w => part_any (13400 - t) (s - 3500) 1000 (by omega) (by omega) (by omega) (by omega) (by omega) (by omega) (by omega) (by omega) w)
  have HP4 := hid (fun w => part_any 16 z 1000 (by omega) (by omega) (by omega) (by omega) (by omega) (by omega) (by omega) (by omega) w)
  have e1 : IntKind.i64.wrap (46 * t) = 46 * t := IntWalk.i64_in _ (by omega)
  have e2 : IntKind.i64.wrap (t * t) = t * t := IntWalk.i64_in _ (by omega)
  have e3 : IntKind.i64.wrap (t * t * t) = t * t * t := IntWalk.i64_in _ (by omega)
  have e4 : IntKind.i64.wrap (13400 - t) = 13400 - t := IntWalk.i64_in _ (by omega)
  have e5 : IntKind.i64.wrap (s - 3500) = s - 3500 := IntWalk.i64_in _ (by omega)
  generalize nv (t * t) 55 10000 = N1 at *
  generalize nv (t * t * t) 29 100000000 = N2 at *
  generalize nv (13400 - t) (s - 3500) 1000 = N3 at *
  generalize nv 16 z 1000 = N4 at *
  have f1 : IntKind.i64.wrap (46 * t - N1) = 46 * t - N1 := IntWalk.i64_in _ (by omega)
  have f2 : IntKind.i64.wrap (46 * t - N1 + N2) = 46 * t - N1 + N2 := IntWalk.i64_in _ (by omega)
  have f3 : IntKind.i64.wrap (1449200 + (46 * t - N1 + N2)) = 1449200 + (46 * t - N1 + N2) := IntWalk.i64_in _ (by omega)
  have f4 : IntKind.i64.wrap (1449200 + (46 * t - N1 + N2) + N3) = 1449200 + (46 * t - N1 + N2) + N3 := IntWalk.i64_in _ (by omega)
  have f5 : IntKind.i64.wrap (1449200 + (46 * t - N1 + N2) + N3 + N4) = x := by rw [IntWalk.i64_in _ (by omega)]; omega
  clear q1 q2 q3 q4 q5 q6 n1 n2 n3 n4 t1 t2 s1 s2 z1 z2 o1 o2 o3 hV HV HC hp
  go_enter Tryz.func5, Tryz.ntmps5
  go_wp2_with (first
   | (go_at_call 12; (first | (with_reducible refine (HB1.out _).mono ?_) | (with_reducible refine (HB2.out _).mono ?_) | (with_reducible refine (HB3.out _).mono ?_)); rintro e w' ⟨rfl, hu⟩)
   | (go_at_call 14; (first | (with_reducible refine (HP1.out _).mono ?_) | (with_reducible refine (HP2.out _).mono ?_) | (with_reducible refine (HP3.out _).mono ?_) | (with_reducible refine (HP4.out _).mono ?_)); rintro e w' ⟨rfl, hu⟩))
  go_ret2
  exact ⟨_, rfl, gUp, ErrsG.none _ _⟩
 ·obtain rfl : x = 0 := by rw [HV.out, if_neg hp]
  obtain rfl : c = 27 := by rw [HC.out, if_neg hp]
  clear o1 o2 o3 HV HC
  cases p1
  ·go_enter Tryz.func5, Tryz.ntmps5
   go_wp2_with (first
    | (go_at_call 12; (with_reducible refine (HB1.out _).mono ?_); rintro e w' ⟨rfl, hu⟩)
    | (go_at_call 13; (with_reducible refine (HE.out _).mono ?_); rintro e wE ⟨u, rfl, huE, hE⟩))
   go_ret2
   exact ⟨_, rfl, gUp, hE⟩
  ·cases p2
   ·go_enter Tryz.func5, Tryz.ntmps5
    go_wp2_with (first
     | (go_at_call 12; (first | (with_reducible refine (HB1.out _).mono ?_) | (with_reducible refine (HB2.out _).mono ?_)); rintro e w' ⟨rfl, hu⟩)
     | (go_at_call 13; (with_reducible refine (HE.out _).mono ?_); rintro e wE ⟨u, rfl, huE, hE⟩))
    go_ret2
    exact ⟨_, rfl, gUp, hE⟩
   ·cases p3
    ·go_enter Tryz.func5, Tryz.ntmps5
     go_wp2_with (first
      | (go_at_call 12; (first | (with_reducible refine (HB1.out _).mono ?_) | (with_reducible refine (HB2.out _).mono ?_) | (with_reducible refine (HB3.out _).mono ?_)); rintro e w' ⟨rfl, hu⟩)
      | (go_at_call 13; (with_reducible refine (HE.out _).mono ?_); rintro e wE ⟨u, rfl, huE, hE⟩))
     go_ret2
     exact ⟨_, rfl, gUp, hE⟩
    ·exact absurd rfl hp
def rgOK (m c : Int) : Bool := btw m 0 2000000 && btw c 1 2000000
def rgV (m c : Int) : Int := if rgOK m c then nv m c 2000000 else 0
def rgC (m c : Int) : Int := if rgOK m c then 0 else 27
set_option maxHeartbeats 4000000 in
theorem range_any (m c : Int) (w : World) : Calls Tryz.prog 7 #[.int .i64 m, .int .i64 c] w (ToldE soundB (rgV m c) (rgC m c) w) := by
 have HB1 := hid (fun w => between_any m 0 2000000 w)
 have HB2 := hid (fun w => between_any c 1 2000000 w)
 have HE := hid (fun w => units_any w)
 have HV : Hid (rgV m c = if (btw m 0 2000000 && btw c 1 2000000) then nv m c 2000000 else 0) := hid rfl
 have HC : Hid (rgC m c = if (btw m 0 2000000 && btw c 1 2000000) then 0 else 27) := hid rfl
 have o1 : btw m 0 2000000 = true -> 0 <= m /\ m <= 2000000 := btw_ok
 have o2 : btw c 1 2000000 = true -> 1 <= c /\ c <= 2000000 := btw_ok
 obtain ⟨x, hx⟩ : ∃ x, rgV m c = x := ⟨_, rfl⟩
 obtain ⟨n, hn⟩ : ∃ n, rgC m c = n := ⟨_, rfl⟩
 rw [hx] at HV ⊢
 rw [hn] at HC ⊢
 obtain ⟨p1, h1⟩ : ∃ p, btw m 0 2000000 = p := ⟨_, rfl⟩
 obtain ⟨p2, h2⟩ : ∃ p, btw c 1 2000000 = p := ⟨_, rfl⟩
 rw [h1] at HB1 o1 HV HC
 rw [h2] at HB2 o2 HV HC
 clear hx hn h1 h2
 cases p1
 ·obtain rfl : x = 0 := HV.out
  obtain rfl : n = 27 := HC.out
  clear o1 o2 HV HC
  go_enter Tryz.func7, Tryz.ntmps7
  go_wp2_with (first
   | (go_at_call 12; (with_reducible refine (HB1.out _).mono ?_); rintro e w' ⟨rfl, hu⟩)
   | (go_at_call 13; (with_reducible refine (HE.out _).mono ?_); rintro e wE ⟨u, rfl, huE, hE⟩))
  go_ret2
  exact ⟨_, rfl, gUp, hE⟩
 ·cases p2
  ·obtain rfl : x = 0 := HV.out
   obtain rfl : n = 27 := HC.out
   clear o1 o2 HV HC
   go_enter Tryz.func7, Tryz.ntmps7
   go_wp2_with (first
    | (go_at_call 12; (first | (with_reducible refine (HB1.out _).mono ?_) | (with_reducible refine (HB2.out _).mono ?_)); rintro e w' ⟨rfl, hu⟩)
    | (go_at_call 13; (with_reducible refine (HE.out _).mono ?_); rintro e wE ⟨u, rfl, huE, hE⟩))
   go_ret2
   exact ⟨_, rfl, gUp, hE⟩
  ·obtain ⟨m1, m2⟩ := o1 rfl
   obtain ⟨c1, c2⟩ := o2 rfl
   have hV : x = nv m c 2000000 := HV.out
   subst hV
   obtain rfl : n = 0 := HC.out
   have q1 := mul_bd (a := m) (b := c) (A := 2000000) (B := 2000000) (by omega) (by omega) (by omega) (by omega)
   have HP := hid (fun w => part_any m c 2000000 (by omega) (by omega) (by omega) (by omega) (by omega) (by omega) (by omega) (by omega) w)
   generalize nv m c 2000000 = N1 at *
   clear q1 m1 m2 c1 c2 o1 o2 HV HC
   go_enter Tryz.func7, Tryz.ntmps7
   go_wp2_with (first
    | (go_at_call 12; (first | (with_reducible refine (HB1.out _).mono ?_) | (with_reducible refine (HB2.out _).mono ?_)); rintro e w' ⟨rfl, hu⟩)
    | (go_at_call 14; (with_reducible refine (HP.out _).mono ?_); rintro e w' ⟨rfl, hu⟩))
   go_ret2
   exact ⟨_, rfl, gUp, ErrsG.none _ _⟩
noncomputable def sq (n : Nat) : Nat := Classical.choose (root_ex n)
theorem sq_spec (n : Nat) : sq n * sq n <= n /\ n < (sq n + 1) * (sq n + 1) := Classical.choose_spec (root_ex n)
theorem sq_is {n r : Nat} (h1 : r * r <= n) (h2 : n < (r + 1) * (r + 1)) : sq n = r := by
 obtain ⟨a, b⟩ := sq_spec n
 rcases Nat.lt_trichotomy (sq n) r with h | h | h
 ·have := Nat.mul_le_mul (show sq n + 1 <= r from h) (show sq n + 1 <= r from h); omega
 ·exact h
 ·have := Nat.mul_le_mul (show r + 1 <= sq n from h) (show r + 1 <= sq n from h); omega
def flOK (r d : Int) : Bool := btw r 0 2097152 && decide (d.natAbs <= r.natAbs)
noncomputable def flV (r d : Int) : Int := if flOK r d then (sq (r.natAbs * r.natAbs - d.natAbs * d.natAbs) : Nat) else 0
def flC (r d : Int) : Int := if flOK r d then 0 else 27
set_option maxHeartbeats 4000000 in
theorem flat_any (r d : Int) (d1 : -9223372036854775808 <= d) (d2 : d < 9223372036854775808) (w : World) : Calls Tryz.prog 9 #[.int .i64 r, .int .i64 d] w (ToldE soundB (flV r d) (flC r d) w) := by
 have HB1 := hid (fun w => between_any r 0 2097152 w)
 have HE := hid (fun w => units_any w)
 have hA := fun w => fx_amount d d1 d2 w
 have HV : Hid (flV r d = if (btw r 0 2097152 && decide (d.natAbs <= r.natAbs)) then ((sq (r.natAbs * r.natAbs - d.natAbs * d.natAbs) : Nat) : Int) else 0) := hid rfl
 have HC : Hid (flC r d = if (btw r 0 2097152 && decide (d.natAbs <= r.natAbs)) then 0 else 27) := hid rfl
 have o1 : btw r 0 2097152 = true -> 0 <= r /\ r <= 2097152 := btw_ok
 obtain ⟨x, hx⟩ : ∃ x, flV r d = x := ⟨_, rfl⟩
 obtain ⟨n, hn⟩ : ∃ n, flC r d = n := ⟨_, rfl⟩
 rw [hx] at HV ⊢
 rw [hn] at HC ⊢
 obtain ⟨p1, h1⟩ : ∃ p, btw r 0 2097152 = p := ⟨_, rfl⟩
 rw [h1] at HB1 o1 HV HC
 obtain ⟨A, hAd⟩ : ∃ A, d.natAbs = A := ⟨_, rfl⟩
 rw [hAd] at HV HC hA
 clear hx hn h1
 by_cases hbig : A < 9223372036854775808
 ·rw [i64V_yes (by omega)] at hA
  have HA := hid hA
  clear hA
  cases p1
  ·obtain rfl : x = 0 := HV.out
   obtain rfl : n = 27 := HC.out
   clear o1 HV HC d1 d2 hAd hbig
   go_enter Tryz.func9, Tryz.ntmps9
   go_wp2_with (first
    | (go_at_call 16; (with_reducible refine (HA.out _).mono ?_); rintro e w' ⟨rfl, hu⟩)
    | (go_at_call 12; (with_reducible refine (HB1.out _).mono ?_); rintro e w' ⟨rfl, hu⟩)
    | (go_at_call 13; (with_reducible refine (HE.out _).mono ?_); rintro e wE ⟨u, rfl, huE, hE⟩))
   go_ret2
   exact ⟨_, rfl, gUp, hE⟩
  ·obtain ⟨r1, r2⟩ := o1 rfl
   obtain ⟨R, rfl⟩ : ∃ R : Nat, r = (R : Int) := ⟨r.toNat, by omega⟩
   rw [Int.natAbs_natCast] at HV HC
   by_cases hle : A <= R
   ·have hV := HV.out
    have hC := HC.out
    rw [decide_eq_true hle, Bool.and_true, if_pos rfl] at hV hC
    subst hV hC
    have hs := sq_spec (R * R - A * A)
    have hRR : R * R <= 2097152 * 2097152 := Nat.mul_le_mul (by omega) (by omega)
    have hAA : A * A <= R * R := Nat.mul_le_mul hle hle
    have hlt := sq_lt (B := 4294967296) hs.1 (by omega)
    have HS := hid (fun w => fx_sqrt (R * R - A * A) _ (by omega) hs.1 hs.2 w)
    have hd : decide (R < A) = false := decide_eq_false (by omega)
    have e1 : IntKind.i64.wrap ((R : Int) * R) = ((R * R : Nat) : Int) := by rw [IntWalk.i64_in _ (by omega)]; exact (Int.natCast_mul _ _).symm
    have e2 : IntKind.i64.wrap ((A : Int) * A) = ((A * A : Nat) : Int) := by rw [IntWalk.i64_in _ (by omega)]; exact (Int.natCast_mul _ _).symm
    have e3 : IntKind.i64.wrap (((R * R : Nat) : Int) - ((A * A : Nat) : Int)) = ((R * R - A * A : Nat) : Int) := by rw [IntWalk.i64_in _ (by omega)]; omega
    have e4 : IntKind.u64.wrap ((R * R - A * A : Nat) : Int) = ((R * R - A * A : Nat) : Int) := by rw [IntKind.wrap_u64]; omega
    have e5 : IntKind.i64.wrap ((sq (R * R - A * A) : Nat) : Int) = ((sq (R * R - A * A) : Nat) : Int) := IntWalk.i64_in _ (by omega)
    generalize sq (R * R - A * A) = Q at *
    clear hs hlt o1 HV HC r1 r2 d1 d2 hAd hbig
    generalize R * R - A * A = D at *
    generalize R * R = RR at *
    generalize A * A = AA at *
    clear hRR hAA hle
    go_enter Tryz.func9, Tryz.ntmps9
    go_wp2_with (first
     | (go_at_call 16; (with_reducible refine (HA.out _).mono ?_); rintro e w' ⟨rfl, hu⟩)
     | (go_at_call 12; (with_reducible refine (HB1.out _).mono ?_); rintro e w' ⟨rfl, hu⟩)
     | (go_at_call 17; (with_reducible refine (HS.out _).mono ?_); rintro e w' ⟨rfl, hu⟩))
    go_ret2
    exact ⟨_, rfl, gUp, ErrsG.none _ _⟩
   ·have hV := HV.out
    have hC := HC.out
    rw [decide_eq_false hle, Bool.and_false] at hV hC
    obtain rfl : x = 0 := hV
    obtain rfl : n = 27 := hC
    have hd : decide (R < A) = true := decide_eq_true (by omega)
    clear o1 HV HC r1 r2 d1 d2 hAd hbig hle
    go_enter Tryz.func9, Tryz.ntmps9
    go_wp2_with (first
     | (go_at_call 16; (with_reducible refine (HA.out _).mono ?_); rintro e w' ⟨rfl, hu⟩)
     | (go_at_call 12; (with_reducible refine (HB1.out _).mono ?_); rintro e w' ⟨rfl, hu⟩)
     | (go_at_call 13; (with_reducible refine (HE.out _).mono ?_); rintro e wE ⟨u, rfl, huE, hE⟩))
    go_ret2
    exact ⟨_, rfl, gUp, hE⟩
 ·rw [i64V_no (by omega)] at hA
  have HA := hid hA
  have hno : (p1 && decide (A <= r.natAbs)) = false := by
   cases p1
   ·rfl
   ·have := o1 rfl
    exact decide_eq_false (by omega)
  rw [hno] at HV HC
  obtain rfl : x = 0 := HV.out
  obtain rfl : n = 27 := HC.out
  clear o1 HV HC d1 d2 hAd hbig hA hno
  go_enter Tryz.func9, Tryz.ntmps9
  go_wp2_with (first
   | (go_at_call 16; (with_reducible refine (HA.out _).mono ?_); rintro e w' ⟨rfl, hu⟩)
   | (go_at_call 13; (with_reducible refine (HE.out _).mono ?_); rintro e wE ⟨u, rfl, huE, hE⟩))
  go_ret2
  exact ⟨_, rfl, gUp, hE⟩
theorem ssays13_any {u : Value} {e : Int} {w : World} (h : ErrsG soundB w u e) (hg : Glob w) :
   Calls Tryz.prog 11 #[u, .int .i64 e] w fun r w' => r = .returned (.bool true) /\ Up w w' := by
 rcases h with ⟨rfl, rfl⟩ | ⟨h0, t, x, rfl, hE⟩
 ·go_enter Tryz.func11, Tryz.ntmps11
  go_wp2_with fail
  go_ret
  exact ⟨rfl, Up.refl _⟩
 ·have d : (e == 0) = false := by simpa using h0
  have HO := hid (fun w' (hu : Up w w') => ops_any (hE.up hu) (show 1 < 1000000 by decide))
  have HC := hid (fun w' (hu : Up w w') => code_any (hE.up hu) (globUp hg hu))
  have de : (e == e) = true := by simp
  have dB : (soundB.toList == [115, 111, 117, 110, 100]) = true := by rw [show soundB.toList = [115, 111, 117, 110, 100] from by rw [ByteArray.toList_eq]; rfl]; rfl
  clear hE hg h0
  go_enter Tryz.func11, Tryz.ntmps11
  go_wp2_with (first
   | (go_at_call 20; (with_reducible refine (HO.out _ (Up.refl _)).mono ?_); rintro r w1 ⟨s, rfl, hu1, hs⟩; obtain ⟨g, cap, C, rfl, hB, h0⟩ := ownOne hs)
   | (go_at_call 21; (with_reducible refine (HC.out _ hu1).mono ?_); rintro r w2 ⟨rfl, hu2⟩; have hc := (hB.up hu2).cell 0 h0; have de2 : ((Er.flt soundB (.num e)).first.getD 36 == e) = true := by (show (e == e) = true; simp)))
  go_ret
  exact ⟨rfl, hu1.trans hu2⟩
set_option maxHeartbeats 8000000 in
theorem known13_true {w : World} (hg : Glob w) :
   Calls Tryz.prog 4 #[] w fun r w' => r = .returned (.bool true) /\ Up w w' := by
 have k1 : flV 5 3 = 4 := by
  have h : sq 16 = 4 := sq_is (by decide) (by decide)
  show (if flOK 5 3 then ((sq 16 : Nat) : Int) else 0) = 4
  rw [h]; rfl
 have HF := hid (fun w => flat_any 5 3 (by decide) (by decide) w)
 have HR := hid (fun w => range_any 2000000 1500000 w)
 have HG := hid (fun w => flat_any 3 5 (by decide) (by decide) w)
 rw [k1, show flC 5 3 = 0 from by decide] at HF
 rw [show rgV 2000000 1500000 = 1500000 from by decide, show rgC 2000000 1500000 = 0 from by decide] at HR
 rw [show flC 3 5 = 27 from by decide] at HG
 obtain ⟨z, hz⟩ : ∃ z, flV 3 5 = z := ⟨_, rfl⟩
 rw [hz] at HG
 have HW := hid hg
 clear hg hz
 go_enter Tryz.func4, Tryz.ntmps4
 go_wp2_with (first
  | (go_at_call 9; first
     | ((with_reducible refine (HF.out _).mono ?_); rintro e w1 ⟨u1, rfl, hu1, he1⟩; obtain rfl := he1.elim (fun h => h.2) (fun h => absurd rfl h.1))
     | ((with_reducible refine (HG.out _).mono ?_); rintro e w3 ⟨u3, rfl, hu3, he3⟩; have hU3 := (hu1.trans hu2).trans hu3))
  | (go_at_call 7; (with_reducible refine (HR.out _).mono ?_); rintro e w2 ⟨u2, rfl, hu2, he2⟩; obtain rfl := he2.elim (fun h => h.2) (fun h => absurd rfl h.1))
  | (go_at_call 11; (with_reducible refine (ssays13_any he3 (globUp HW.out hU3)).mono ?_); rintro e w4 ⟨rfl, hu4⟩))
 go_ret
 exact ⟨rfl, hU3.trans hu4⟩
end Go.Proofs.YthnjmgoininkoaaGreatDoor
namespace Go.Proofs.YthnjmgoininkoaaGreatDoor
open Go Go.RowKit Go.ChangeShapes
section
variable {H : Type} {enc : TypeId × Value -> H} {P : Program}
end
end Go.Proofs.YthnjmgoininkoaaGreatDoor
namespace Go.Proofs.YthnjmgoininkoaaGreatDoor
open Go Go.RowKit
set_option maxRecDepth 100000
theorem lt_bp_self (x : Nat) : x < bp x := by
 induction x with
 | zero => rw [bp_zero]; omega
 | succ n ih => rw [bp_succ]; omega
def nl (x : Nat) : Nat := lenL (limb x) x
theorem sum_len {x N : Nat} (h : x < bp N) : sumL (limb x) (lenL (limb x) N) = x := by
 rw [lenL_sum, sumL_limb, Nat.mod_eq_of_lt h]
theorem lt_bp_len {x N : Nat} (h : x < bp N) : x < bp (lenL (limb x) N) := by
 have h1 := sum_len h
 have h2 := sumL_lt (f := limb x) (k := lenL (limb x) N) fun i _ => limb_lt x i
 omega
theorem nl_eq {x N : Nat} (h : x < bp N) : lenL (limb x) N = nl x := by
 have h1 := lt_bp_len h
 have h2 := lenL_top (limb x) N
 have hle : lenL (limb x) N <= x \/ lenL (limb x) N = 0 := by
  rcases Nat.eq_zero_or_pos (lenL (limb x) N) with h0 | h0
  ·exact .inr h0
  ·have h3 := bp_le_of_len (limb x) N h0
   rw [sumL_limb, Nat.mod_eq_of_lt h] at h3
   have h4 := lt_bp_self (lenL (limb x) N - 1)
   exact .inl (by omega)
 refine (lenL_of (limb x) (by omega) (fun i hi _ => limb_of_small h1 hi) ?_).symm
 rcases Nat.eq_zero_or_pos (lenL (limb x) N) with h0 | h0
 ·exact .inl h0
 ·exact .inr (h2 h0)
theorem lt_bp_nl (x : Nat) : x < bp (nl x) := lt_bp_len (lt_bp_self x)
theorem bp_le_nl {x : Nat} (h : 0 < nl x) : bp (nl x - 1) <= x := by
 have h3 := bp_le_of_len (limb x) x h
 rw [sumL_limb, Nat.mod_eq_of_lt (lt_bp_self x)] at h3
 exact h3
theorem nl_le {x k : Nat} (h : x < bp k) : nl x <= k := by rw [<- nl_eq h]; exact lenL_le _ _
theorem nl_zero : nl 0 = 0 := rfl
theorem nl_pos {x : Nat} (h : 0 < x) : 0 < nl x := by
 rcases Nat.eq_zero_or_pos (nl x) with h0 | h0
 ·have := lt_bp_nl x
  rw [h0, bp_zero] at this
  omega
 ·exact h0
theorem nl_pos_iff {x : Nat} : 0 < nl x ↔ 0 < x := by
 constructor
 ·intro h
  rcases Nat.eq_zero_or_pos x with h0 | h0
  ·subst h0; simp [nl_zero] at h
  ·exact h0
 ·exact nl_pos
theorem limb_nl {x i : Nat} (h : nl x <= i) : limb x i = 0 := limb_of_small (lt_bp_nl x) h
theorem sum_nl (x : Nat) : sumL (limb x) (nl x) = x := sum_len (lt_bp_self x)
theorem nl_sum {S : Nat -> Nat} {n : Nat} (hS : ∀ i, i < n -> S i < 18446744073709551616) : nl (sumL S n) = lenL S n := by
 rw [<- nl_eq (sumL_lt hS)]
 exact lenL_congr fun i hi => limb_sumL hS hi
def Am (w : World) (v : Value) (x : Nat) : Prop :=
 ∃ a c, v = .slice a (nl x) c /\ nl x <= c /\ (0 < nl x -> ∃ b C, a = some ⟨b, 0, none⟩ /\ Blk w b 40 C /\ ∀ i, i < nl x -> C[i]? = some (.int .u64 (limb x i : Nat)))
theorem Am.up {w w' : World} {v : Value} {x : Nat} (h : Am w v x) (hu : Up w w') : Am w' v x := by
 obtain ⟨a, c, h1, h2, h3⟩ := h
 refine ⟨a, c, h1, h2, fun h0 => ?_⟩
 obtain ⟨b, C, h4, h6, h7⟩ := h3 h0
 exact ⟨b, C, h4, h6.up hu, h7⟩
theorem Am.open {w : World} {v : Value} {x : Nat} (h : Am w v x) : ∃ a c, v = .slice a (nl x) c /\ nl x <= c /\
   ∀ i, i < nl x -> ∃ b, a = some ⟨b, 0, none⟩ /\ b < w.heap.size /\ ∀ w', Up w w' -> w'.cell? ⟨b, i, none⟩ = some (.int .u64 (limb x i : Nat)) := by
 obtain ⟨a, c, h1, h2, h3⟩ := h
 refine ⟨a, c, h1, h2, fun i hi => ?_⟩
 obtain ⟨b, C, h4, h6, h7⟩ := h3 (by omega)
 exact ⟨b, h4, h6.lt, fun w' hu => (h6.up hu).cell i (h7 i hi)⟩
theorem am_nil (w : World) : Am w (.slice none 0 0) 0 := ⟨none, 0, by rw [nl_zero], by rw [nl_zero]; exact Nat.le_refl _, fun h => by rw [nl_zero] at h; omega⟩
theorem am_blk {w : World} {b n c : Nat} {S : Nat -> Nat} {C : Array Value} (hB : Blk w b 40 C) (hC : ∀ i, i < n -> C[i]? = some (.int .u64 (S i : Nat))) (hc : n <= c) (hS : ∀ i, i < n -> S i < 18446744073709551616) :
   Am w (.slice (some ⟨b, 0, none⟩) (lenL S n) c) (sumL S n) := by
 have h1 := lenL_le S n
 refine ⟨_, c, by rw [nl_sum hS], by rw [nl_sum hS]; omega, fun _ => ⟨b, C, rfl, hB, fun i hi => ?_⟩⟩
 rw [nl_sum hS] at hi
 rw [limb_sumL hS (by omega)]
 exact hC i (by omega)
theorem am_row {w : World} {b n N c : Nat} {S : Nat -> Nat} (hR : Row w b 40 N S) (hN : n <= N) (hc : n <= c) (hS : ∀ i, i < n -> S i < 18446744073709551616) :
   Am w (.slice (some ⟨b, 0, none⟩) (lenL S n) c) (sumL S n) := am_blk hR (fun i hi => cells_get N S i (by omega)) hc hS
def slen : Value -> Nat
 | .slice _ n _ => n
 | _ => 0
set_option maxHeartbeats 400000 in
theorem trim_cells (b n c : Nat) (S : Nat -> Nat) (w : World) (hR : ∀ i, i < n -> w.cell? ⟨b, i, none⟩ = some (.int .u64 (S i : Nat))) (hc : n <= c) (hn : n < 1000000) :
   Calls Tryz.prog 31 #[.slice (some ⟨b, 0, none⟩) n c] w fun e w' => e = .returned (.slice (some ⟨b, 0, none⟩) (lenL S n) c) /\ Up w w' := by
 go_enter Tryz.func31, Tryz.ntmps31
 go_wp2
 go_loopw [0] (fun t wr => ∃ k : Nat, k <= n /\ t = .slice (some ⟨b, 0, none⟩) k c /\ lenL S k = lenL S n /\ wr = w) (fun t _ => slen t)
 case atStart => exact ⟨n, Nat.le_refl _, rfl, rfl, rfl⟩
 case round =>
  obtain ⟨k, hk, rfl, hl, rfl⟩ := hrel
  by_cases h0 : 0 < k
  ·obtain ⟨j, rfl⟩ : ∃ j, k = j + 1 := ⟨k - 1, by omega⟩
   have hcx := hR j (by omega)
   have hstep := lenL_succ S j
   have hjc : (j : Int) <= c := by omega
   generalize S j = s at *
   by_cases hs : s = 0
   ·subst hs
    rw [if_pos rfl] at hstep
    have HL := hid (hstep.symm.trans hl)
    clear hstep hl
    go_wp2
    go_roundw
    case rel => exact ⟨j, by omega, rfl, HL.out, trivial⟩
    case measure => simp [slen]
   ·rw [if_neg hs] at hstep
    have HL := hid (hstep.symm.trans hl)
    have hb : ((s : Int) == 0) = false := by simpa using hs
    clear hstep hl hs
    go_wp2
    go_ret
    exact ⟨by rw [<- HL.out]; rfl, gUp⟩
  ·obtain rfl : k = 0 := by omega
   have HL := hid hl
   clear hl
   go_wp2
   go_ret
   exact ⟨by rw [<- HL.out]; rfl, gUp⟩
theorem trim_row (b n N c : Nat) (S : Nat -> Nat) (w : World) (hR : Row w b 40 N S) (hN : n <= N) (hc : n <= c) (hn : n < 1000000) :
   Calls Tryz.prog 31 #[.slice (some ⟨b, 0, none⟩) n c] w fun e w' => e = .returned (.slice (some ⟨b, 0, none⟩) (lenL S n) c) /\ Up w w' :=
 trim_cells b n c S w (fun i hi => hR.cell i (by omega)) hc hn
theorem undS : Tryz.prog.underlying 42 = some (.slice 40) := by kernel_rfl
theorem infoU : (Tryz.prog.info? 40).map (fun i => (i.zero, i.size, i.bytes)) = some (some (.int .u64 0), 1, 8) := by kernel_rfl
theorem zeros_made (n : Nat) : madeCells (Value.int .u64 0).cells n = cells n (fun _ => 0) := by
 unfold cells
 apply Array.ext
 ·simp [madeCells]
 ·intro i h1 h2
  simp [madeCells, Value.cells, Nat.mod_one]
theorem mkP {ops : Array Oper} {rest : List Oper} {Q : Exit -> Act -> World -> Prop} {a : Act} {w : World} {d : Option Tmp} {l : Tmp} {ty : TypeId} {pos : String} {af : Array Edge} {L : Int} {n : Nat} (hl : a.eval (.tmp l) = .int .i64 L) (hL : L = (n : Int)) (hn : n < 1000000)
   (h : wpList Tryz.prog ops Q rest (a.put d (.slice (some ⟨w.heap.size, 0, none⟩) n n)) (w.alloc (.cells (cells n (fun _ => 0)) 40))) :
   wpList Tryz.prog ops Q ({ dst := d, op := .makeSlice 42 (.tmp l) (.tmp l), type := ty, pos := pos, after := af, guard := none } :: rest) a w := by
 refine wpList_plain rfl fun _ hK => ?_
 have hi := infoU
 cases hq : Tryz.prog.info? 40 with
 | none => rw [hq] at hi; simp at hi
 | some i =>
   rw [hq] at hi
   simp only [Option.map_some, Option.some.injEq, Prod.mk.injEq] at hi
   have hr := run_make (P := Tryz.prog) (w := w) 42 40 i (.int .u64 0) undS hq hi.1 .i64 .i64 L L (by omega) (by omega) (by rw [hi.2.2]; omega) (by omega)
   rw [hi.2.1, Nat.mul_one, hL, Int.toNat_natCast, zeros_made] at hr
   unfold Oper.wp execOp
   simp only [hl, hL, Sem.run_bind, Sem.run_pure, Result.andThen_ok, hr]
   exact hK _ _ h
theorem plus_end {S : Nat -> Nat} {x y k c : Nat} (_ : ∀ j, j < k + 1 -> S j < 18446744073709551616) (hx : nl x <= k) (hy : nl y <= k) (h : sumL S (k + 1) + c * bp (k + 1) = sumL (limb x) (k + 1) + sumL (limb y) (k + 1)) : sumL S (k + 1) = x + y := by
 have h1 := bp_mono hx
 have h2 := bp_mono hy
 have h3 := lt_bp_nl x
 have h4 := lt_bp_nl y
 have h5 := bp_succ k
 rw [sumL_limb, sumL_limb, Nat.mod_eq_of_lt (show x < bp (k + 1) by omega), Nat.mod_eq_of_lt (show y < bp (k + 1) by omega)] at h
 rcases Nat.eq_zero_or_pos c with h0 | h0
 ·subst h0; omega
 ·have : 1 * bp (k + 1) <= c * bp (k + 1) := Nat.mul_le_mul_right _ h0
  omega
theorem minus_end {S : Nat -> Nat} {x y k c : Nat} (hS : ∀ j, j < k -> S j < 18446744073709551616) (hx : nl x <= k) (hxy : y <= x) (h : sumL S k + sumL (limb y) k = sumL (limb x) k + c * bp k) : sumL S k = x - y := by
 have h1 := bp_mono hx
 have h3 := lt_bp_nl x
 have h5 := sumL_lt hS
 rw [sumL_limb, sumL_limb, Nat.mod_eq_of_lt (show x < bp k by omega), Nat.mod_eq_of_lt (show y < bp k by omega)] at h
 rcases Nat.eq_zero_or_pos c with h0 | h0
 ·subst h0; omega
 ·have : 1 * bp k <= c * bp k := Nat.mul_le_mul_right _ h0
  omega
theorem padd_step {S : Nat -> Nat} {X Y A B c r c' i : Nat} (h : sumL S i + c * bp i = A + B) (hr : r + c' * 18446744073709551616 = X + Y + c) : sumL (upd S i r) (i + 1) + c' * bp (i + 1) = A + X * bp i + (B + Y * bp i) := by
 rw [sumL_upd_succ, bp_succ]
 have h2 : (r + c' * 18446744073709551616) * bp i = (X + Y + c) * bp i := by rw [hr]
 have h3 : r * bp i + c' * (bp i * 18446744073709551616) = X * bp i + Y * bp i + c * bp i := by grind
 omega
theorem psub_step {S : Nat -> Nat} {X Y A B c r c' i : Nat} (h : sumL S i + B = A + c * bp i) (hr : r + Y + c = X + c' * 18446744073709551616) : sumL (upd S i r) (i + 1) + (B + Y * bp i) = A + X * bp i + c' * bp (i + 1) := by
 rw [sumL_upd_succ, bp_succ]
 have h2 : (r + Y + c) * bp i = (X + c' * 18446744073709551616) * bp i := by rw [hr]
 have h3 : r * bp i + Y * bp i + c * bp i = X * bp i + c' * (bp i * 18446744073709551616) := by grind
 omega
set_option maxHeartbeats 1000000 in
theorem plus_am {x y : Nat} {va vb : Value} {w : World} (ha : Am w va x) (hb : Am w vb y) (hx : nl x < 100000) (hy : nl y < 100000) :
   Calls Tryz.prog 76 #[va, vb] w fun e w' => Up w w' /\ ∃ v, e = .returned v /\ Am w' v (x + y) := by
 obtain ⟨a, ca, rfl, hca1, hca0⟩ := ha.open
 obtain ⟨b, cb, rfl, hcb1, hcb0⟩ := hb.open
 obtain ⟨k, hk, hk1, hk2, hk3⟩ : ∃ k : Nat, max ((nl x : Nat) : Int) (nl y : Nat) = (k : Nat) /\ nl x <= k /\ nl y <= k /\ k < 100000 := ⟨max (nl x) (nl y), by omega, by omega, by omega, by omega⟩
 clear ha hb
 go_enter Tryz.func76, Tryz.ntmps76
 go_wp2_with (first | ((with_reducible apply mkP (n := k + 1)); exact rfl; (first | rfl | omega); omega))
 go_loopw [7, 8] (fun tc ti wr => ∃ (i cc : Nat) (S : Nat -> Nat), i <= k + 1 /\ tc = .int .u64 (cc : Nat) /\ ti = .int .i64 (i : Nat) /\ cc <= 1 /\ (∀ j, j < k + 1 -> S j < 18446744073709551616) /\ sumL S i + cc * bp i = sumL (limb x) i + sumL (limb y) i /\ Row wr w.heap.size 40 (k + 1) S /\ Below w.heap.size w wr)
  (fun _ ti _ => k + 1 - (intOf ti).toNat)
 case atStart => exact ⟨0, 0, fun _ => 0, by omega, rfl, rfl, by omega, fun _ _ => by simp, by simp [sumL_zero], row_newc _ _ _ rfl, (by repeat (first | assumption | (with_reducible apply Up.of) | (with_reducible exact Below.refl _ _) | ((with_reducible apply bl_setCell); (focus (first | exact Nat.le_refl _ | (simp; done) | (simp; omega) | omega))) | ((with_reducible apply bl_alloc); (focus (first | exact Nat.le_refl _ | (simp; done) | (simp; omega) | omega)))))⟩
 case round =>
  obtain ⟨i, cc, S, hi, rfl, rfl, hcc, hSb, hsum, hS, hB⟩ := hrel
  have HSb := hid hSb
  have Hsum := hid hsum
  clear hSb hsum
  by_cases hlt : i < k + 1
  ·by_cases hp : i < nl x
   ·by_cases hq : i < nl y
    ·have h_ := hp
     obtain ⟨ba, rfl, hba, hca⟩ := hca0 i hp
     have hcx := hca wr hB
     obtain ⟨bb, rfl, hbb, hcb⟩ := hcb0 i hq
     have hcy := hcb wr hB
     obtain ⟨r, c', hadd, hrc, hrl, hc1⟩ : ∃ r c' : Nat, (∀ w, (callFunc 46 #[.int .u64 (limb x i : Nat), .int .u64 (limb y i : Nat), .int .u64 (cc : Nat)]).run Tryz.prog w = .ok (.value (.tuple #[.int .u64 (r : Nat), .int .u64 (c' : Nat)])) w) /\ Hid (r + c' * 18446744073709551616 = limb x i + limb y i + cc) /\ r < 18446744073709551616 /\ c' <= 1 := by
      have hl1 := limb_lt x i
      have hl2 := limb_lt y i
      have h := run_add (limb x i) (limb y i) cc (by omega)
      exact ⟨_, _, h, hid (by omega), Nat.mod_lt _ (by decide), by omega⟩
     have hcs := hS.cell i (by omega)
     have hfs := hS.frozen i
     have gS := hS.set i r
     have gB := hB.setCell (p := ⟨w.heap.size, i, none⟩) (Nat.le_refl _) (.int .u64 (r : Nat))
     have hip : (decide ((i : Int) < (nl x : Nat))) = true := decide_eq_true (by omega)
     have hiq : decide ((i : Int) < (nl y : Nat)) = true := decide_eq_true (by omega)
     clear hB hS
     go_wp2
     go_roundw
     case rel =>
      refine ⟨i + 1, c', upd S i r, by omega, rfl, by go_num, hc1, upd_lt HSb.out hrl, ?_, gS, gB⟩
      rw [sumL_succ (limb x) i, sumL_succ (limb y) i]
      exact padd_step Hsum.out hrc.out
     case measure => simp [intOf] <;> omega
    ·have h_ := hp
     obtain ⟨ba, rfl, hba, hca⟩ := hca0 i hp
     have hcx := hca wr hB
     have hzy := limb_nl (x := y) (i := i) (by omega)
     obtain ⟨r, c', hadd, hrc, hrl, hc1⟩ : ∃ r c' : Nat, (∀ w, (callFunc 46 #[.int .u64 (limb x i : Nat), .int .u64 0, .int .u64 (cc : Nat)]).run Tryz.prog w = .ok (.value (.tuple #[.int .u64 (r : Nat), .int .u64 (c' : Nat)])) w) /\ Hid (r + c' * 18446744073709551616 = limb x i + limb y i + cc) /\ r < 18446744073709551616 /\ c' <= 1 := by
      have hl1 := limb_lt x i
      have hl2 := limb_lt y i
      have h := run_add (limb x i) (0) cc (by omega)
      simp only [show ((0 : Nat) : Int) = 0 from rfl] at h
      exact ⟨_, _, h, hid (by omega), Nat.mod_lt _ (by decide), by omega⟩
     have hcs := hS.cell i (by omega)
     have hfs := hS.frozen i
     have gS := hS.set i r
     have gB := hB.setCell (p := ⟨w.heap.size, i, none⟩) (Nat.le_refl _) (.int .u64 (r : Nat))
     have hip : (decide ((i : Int) < (nl x : Nat))) = true := decide_eq_true (by omega)
     have hiq : decide ((i : Int) < (nl y : Nat)) = false := decide_eq_false (by omega)
     clear hB hS
     go_wp2
     go_roundw
     case rel =>
      refine ⟨i + 1, c', upd S i r, by omega, rfl, by go_num, hc1, upd_lt HSb.out hrl, ?_, gS, gB⟩
      rw [sumL_succ (limb x) i, sumL_succ (limb y) i]
      exact padd_step Hsum.out hrc.out
     case measure => simp [intOf] <;> omega
   ·by_cases hq : i < nl y
    ·have h_ := hq
     have hzx := limb_nl (x := x) (i := i) (by omega)
     obtain ⟨bb, rfl, hbb, hcb⟩ := hcb0 i hq
     have hcy := hcb wr hB
     obtain ⟨r, c', hadd, hrc, hrl, hc1⟩ : ∃ r c' : Nat, (∀ w, (callFunc 46 #[.int .u64 0, .int .u64 (limb y i : Nat), .int .u64 (cc : Nat)]).run Tryz.prog w = .ok (.value (.tuple #[.int .u64 (r : Nat), .int .u64 (c' : Nat)])) w) /\ Hid (r + c' * 18446744073709551616 = limb x i + limb y i + cc) /\ r < 18446744073709551616 /\ c' <= 1 := by
      have hl1 := limb_lt x i
      have hl2 := limb_lt y i
      have h := run_add (0) (limb y i) cc (by omega)
      simp only [show ((0 : Nat) : Int) = 0 from rfl] at h
      exact ⟨_, _, h, hid (by omega), Nat.mod_lt _ (by decide), by omega⟩
     have hcs := hS.cell i (by omega)
     have hfs := hS.frozen i
     have gS := hS.set i r
     have gB := hB.setCell (p := ⟨w.heap.size, i, none⟩) (Nat.le_refl _) (.int .u64 (r : Nat))
     have hip : (decide ((i : Int) < (nl x : Nat))) = false := decide_eq_false (by omega)
     have hiq : decide ((i : Int) < (nl y : Nat)) = true := decide_eq_true (by omega)
     clear hB hS
     go_wp2
     go_roundw
     case rel =>
      refine ⟨i + 1, c', upd S i r, by omega, rfl, by go_num, hc1, upd_lt HSb.out hrl, ?_, gS, gB⟩
      rw [sumL_succ (limb x) i, sumL_succ (limb y) i]
      exact padd_step Hsum.out hrc.out
     case measure => simp [intOf] <;> omega
    ·have h_ := hq
     have hzx := limb_nl (x := x) (i := i) (by omega)
     have hzy := limb_nl (x := y) (i := i) (by omega)
     obtain ⟨r, c', hadd, hrc, hrl, hc1⟩ : ∃ r c' : Nat, (∀ w, (callFunc 46 #[.int .u64 0, .int .u64 0, .int .u64 (cc : Nat)]).run Tryz.prog w = .ok (.value (.tuple #[.int .u64 (r : Nat), .int .u64 (c' : Nat)])) w) /\ Hid (r + c' * 18446744073709551616 = limb x i + limb y i + cc) /\ r < 18446744073709551616 /\ c' <= 1 := by
      have hl1 := limb_lt x i
      have hl2 := limb_lt y i
      have h := run_add (0) (0) cc (by omega)
      simp only [show ((0 : Nat) : Int) = 0 from rfl] at h
      exact ⟨_, _, h, hid (by omega), Nat.mod_lt _ (by decide), by omega⟩
     have hcs := hS.cell i (by omega)
     have hfs := hS.frozen i
     have gS := hS.set i r
     have gB := hB.setCell (p := ⟨w.heap.size, i, none⟩) (Nat.le_refl _) (.int .u64 (r : Nat))
     have hip : (decide ((i : Int) < (nl x : Nat))) = false := decide_eq_false (by omega)
     have hiq : decide ((i : Int) < (nl y : Nat)) = false := decide_eq_false (by omega)
     clear hB hS
     go_wp2
     go_roundw
     case rel =>
      refine ⟨i + 1, c', upd S i r, by omega, rfl, by go_num, hc1, upd_lt HSb.out hrl, ?_, gS, gB⟩
      rw [sumL_succ (limb x) i, sumL_succ (limb y) i]
      exact padd_step Hsum.out hrc.out
     case measure => simp [intOf] <;> omega
  ·obtain rfl : i = k + 1 := by omega
   have he := plus_end HSb.out hk1 hk2 Hsum.out
   have ht := trim_row w.heap.size (k + 1) (k + 1) (k + 1) S wr hS (Nat.le_refl _) (Nat.le_refl _) (by omega)
   have hres := am_row (c := k + 1) hS (Nat.le_refl _) (Nat.le_refl _) HSb.out
   rw [he] at hres
   have HT := hid ht
   have HR := hid hres
   clear ht hres he HSb Hsum hS
   go_wp2_with (go_at_call 31; (with_reducible refine HT.out.mono ?_); rintro e w' ⟨rfl, hu⟩)
   go_ret
   exact ⟨below_up hB hu, _, rfl, HR.out.up hu⟩
set_option maxHeartbeats 1000000 in
theorem minus_am {x y : Nat} {va vb : Value} {w : World} (ha : Am w va x) (hb : Am w vb y) (hx : nl x < 100000) (hxy : y <= x) :
   Calls Tryz.prog 77 #[va, vb] w fun e w' => Up w w' /\ ∃ v, e = .returned v /\ Am w' v (x - y) := by
 obtain ⟨a, ca, rfl, hca1, hca0⟩ := ha.open
 obtain ⟨b, cb, rfl, hcb1, hcb0⟩ := hb.open
 obtain ⟨k, hk⟩ : ∃ k : Nat, k = nl x := ⟨_, rfl⟩
 have hqk : nl y <= nl x := nl_le (Nat.lt_of_le_of_lt hxy (lt_bp_nl x))
 clear ha hb
 go_enter Tryz.func77, Tryz.ntmps77
 go_wp2_with (first | ((with_reducible apply mkP (n := nl x)); exact rfl; (first | rfl | omega); omega))
 go_loopw [6, 7] (fun tc ti wr => ∃ (i cc : Nat) (S : Nat -> Nat), i <= nl x /\ tc = .int .u64 (cc : Nat) /\ ti = .int .i64 (i : Nat) /\ cc <= 1 /\ (∀ j, j < nl x -> S j < 18446744073709551616) /\ sumL S i + sumL (limb y) i = sumL (limb x) i + cc * bp i /\ Row wr w.heap.size 40 (nl x) S /\ Below w.heap.size w wr)
  (fun _ ti _ => nl x - (intOf ti).toNat)
 case atStart => exact ⟨0, 0, fun _ => 0, by omega, rfl, rfl, by omega, fun _ _ => by simp, by simp [sumL_zero], row_newc _ _ _ rfl, (by repeat (first | assumption | (with_reducible apply Up.of) | (with_reducible exact Below.refl _ _) | ((with_reducible apply bl_setCell); (focus (first | exact Nat.le_refl _ | (simp; done) | (simp; omega) | omega))) | ((with_reducible apply bl_alloc); (focus (first | exact Nat.le_refl _ | (simp; done) | (simp; omega) | omega)))))⟩
 case round =>
  obtain ⟨i, cc, S, hi, rfl, rfl, hcc, hSb, hsum, hS, hB⟩ := hrel
  have HSb := hid hSb
  have Hsum := hid hsum
  clear hSb hsum
  by_cases hlt : i < nl x
  ·have hp := hlt
   by_cases hq : i < nl y
   ·have h_ := hp
    obtain ⟨ba, rfl, hba, hca⟩ := hca0 i hp
    have hcx := hca wr hB
    obtain ⟨bb, rfl, hbb, hcb⟩ := hcb0 i hq
    have hcy := hcb wr hB
    obtain ⟨r, c', hadd, hrc, hrl, hc1⟩ : ∃ r c' : Nat, (∀ w, (callFunc 65 #[.int .u64 (limb x i : Nat), .int .u64 (limb y i : Nat), .int .u64 (cc : Nat)]).run Tryz.prog w = .ok (.value (.tuple #[.int .u64 (r : Nat), .int .u64 (c' : Nat)])) w) /\ Hid (r + limb y i + cc = limb x i + c' * 18446744073709551616) /\ r < 18446744073709551616 /\ c' <= 1 := by
     have hl1 := limb_lt x i
     have hl2 := limb_lt y i
     have h := run_sub (limb x i) (limb y i) cc (by omega)
     exact ⟨_, _, h, hid (by split <;> omega), Nat.mod_lt _ (by decide), by split <;> omega⟩
    have hcs := hS.cell i (by omega)
    have hfs := hS.frozen i
    have gS := hS.set i r
    have gB := hB.setCell (p := ⟨w.heap.size, i, none⟩) (Nat.le_refl _) (.int .u64 (r : Nat))
    have hip : (decide ((i : Int) < (nl x : Nat))) = true := decide_eq_true (by omega)
    have hiq : decide ((i : Int) < (nl y : Nat)) = true := decide_eq_true (by omega)
    clear hB hS
    go_wp2
    go_roundw
    case rel =>
     refine ⟨i + 1, c', upd S i r, by omega, rfl, by go_num, hc1, upd_lt HSb.out hrl, ?_, gS, gB⟩
     rw [sumL_succ (limb x) i, sumL_succ (limb y) i]
     exact psub_step Hsum.out hrc.out
    case measure => simp [intOf] <;> omega
   ·have h_ := hp
    obtain ⟨ba, rfl, hba, hca⟩ := hca0 i hp
    have hcx := hca wr hB
    have hzy := limb_nl (x := y) (i := i) (by omega)
    obtain ⟨r, c', hadd, hrc, hrl, hc1⟩ : ∃ r c' : Nat, (∀ w, (callFunc 65 #[.int .u64 (limb x i : Nat), .int .u64 0, .int .u64 (cc : Nat)]).run Tryz.prog w = .ok (.value (.tuple #[.int .u64 (r : Nat), .int .u64 (c' : Nat)])) w) /\ Hid (r + limb y i + cc = limb x i + c' * 18446744073709551616) /\ r < 18446744073709551616 /\ c' <= 1 := by
     have hl1 := limb_lt x i
     have hl2 := limb_lt y i
     have h := run_sub (limb x i) (0) cc (by omega)
     simp only [show ((0 : Nat) : Int) = 0 from rfl] at h
     exact ⟨_, _, h, hid (by split <;> omega), Nat.mod_lt _ (by decide), by split <;> omega⟩
    have hcs := hS.cell i (by omega)
    have hfs := hS.frozen i
    have gS := hS.set i r
    have gB := hB.setCell (p := ⟨w.heap.size, i, none⟩) (Nat.le_refl _) (.int .u64 (r : Nat))
    have hip : (decide ((i : Int) < (nl x : Nat))) = true := decide_eq_true (by omega)
    have hiq : decide ((i : Int) < (nl y : Nat)) = false := decide_eq_false (by omega)
    clear hB hS
    go_wp2
    go_roundw
    case rel =>
     refine ⟨i + 1, c', upd S i r, by omega, rfl, by go_num, hc1, upd_lt HSb.out hrl, ?_, gS, gB⟩
     rw [sumL_succ (limb x) i, sumL_succ (limb y) i]
     exact psub_step Hsum.out hrc.out
    case measure => simp [intOf] <;> omega
  ·obtain rfl : i = nl x := by omega
   have he := minus_end HSb.out (Nat.le_refl _) hxy Hsum.out
   have ht := trim_row w.heap.size (nl x) (nl x) (nl x) S wr hS (Nat.le_refl _) (Nat.le_refl _) (by omega)
   have hres := am_row (c := nl x) hS (Nat.le_refl _) (Nat.le_refl _) HSb.out
   rw [he] at hres
   have HT := hid ht
   have HR := hid hres
   clear ht hres he HSb Hsum hS
   go_wp2_with (go_at_call 31; (with_reducible refine HT.out.mono ?_); rintro e w' ⟨rfl, hu⟩)
   go_ret
   exact ⟨below_up hB hu, _, rfl, HR.out.up hu⟩
theorem undB0 : (match Tryz.prog.underlying 44 with | some (.struct _) => true | _ => false) = true := by kernel_rfl
theorem undB : ∃ fs, Tryz.prog.underlying 44 = some (.struct fs) := by
 have h := undB0
 split at h
 ·exact ⟨_, by assumption⟩
 ·cases h
theorem infoB : (Tryz.prog.info? 44).map (·.size) = some 2 := by kernel_rfl
theorem blk_new {w : World} {b : Nat} {t : TypeId} {C : Array Value} (h : b = w.heap.size) : Blk (w.alloc (.cells C t)) b t C := Blk.new _ _ h
theorem blk_alloc {w : World} {b : Nat} {t : TypeId} {C : Array Value} {o : Obj} (h : Blk w b t C) : Blk (w.alloc o) b t C := h.old o
theorem blk_up {w w' : World} {b : Nat} {t : TypeId} {C : Array Value} (hu : Up w w') (h : Blk w b t C) : Blk w' b t C := h.up hu
theorem blk_same {w : World} {b : Nat} {t : TypeId} {C D : Array Value} (h : Blk w b t C) : Blk (w.setRow b D) b t D := h.setRow D
theorem blk_else {w : World} {b g : Nat} {t : TypeId} {C D : Array Value} (hb : b ≠ g) (h : Blk w b t C) : Blk (w.setRow g D) b t C := h.row_other D hb
theorem gBlk {w : World} {b : Nat} {t : TypeId} {C : Array Value} (h : Blk w b t C := by (repeat (first | assumption | ((with_reducible apply blk_new); (focus (first | rfl | (simp; done)))) | (with_reducible apply blk_alloc) | (with_reducible apply blk_drew) | (with_reducible apply blk_drewN) | ((with_reducible apply blk_up); assumption) | (with_reducible apply blk_same) | ((with_reducible apply blk_else); (focus (first | (simp; done) | (simp; omega) | omega)))))) : Blk w b t C := h
theorem one2 (b : Bool) (a : Option Addr) (n c : Nat) : (#[Value.bool b, Value.slice a n c]).all (·.oneCell') = true := by simp [Value.oneCell']
section
variable {ops : Array Oper} {rest : List Oper} {Q : Exit -> Act -> World -> Prop} {a : Act} {w : World} {d : Option Tmp} {s u : Tmp} {ty : TypeId} {pos : String} {af : Array Edge} {gd : Option (Nat × Bool)} {g : Nat} {C D : Array Value}
theorem run_ldB {o : Oper} {x : Operand} (ho : o.op = .load 44 x) (hx : a.eval x = .pointer (some ⟨g, 0, none⟩)) (hC : Blk w g 44 C) (h2 : C.size = 2) : (execOp a.eval o).run Tryz.prog w = .ok (.value (.agg C)) w := by
 obtain ⟨fs, hu⟩ := undB
 unfold execOp
 simp only [ho, hx, Instr.loadAt, Instr.sureAddr, Sem.run_bind, Sem.run_pure, Result.andThen_ok, run_loadVar_row w g _ 44 C (0, 0) _ hC hu rfl (by rw [infoB, h2])]
theorem ldB_P (hw : Region.wanted { dst := d, op := .load 44 (.tmp s), type := ty, pos := pos, after := af, guard := gd } (yielded ops a.tmps) = true) (hx : a.eval (.tmp s) = .pointer (some ⟨g, 0, none⟩)) (hC : Blk w g 44 C) (h2 : C.size = 2)
   (h : wpList Tryz.prog ops Q rest (a.put d (.agg C)) w) : wpList Tryz.prog ops Q ({ dst := d, op := .load 44 (.tmp s), type := ty, pos := pos, after := af, guard := gd } :: rest) a w :=
 wpList_run hw (run_ldB rfl hx hC h2) h
theorem stB_P (hx : a.eval (.tmp s) = .pointer (some ⟨g, 0, none⟩)) (hy : a.eval (.tmp u) = .agg D) (hC : Blk w g 44 C) (h2 : C.size = 2) (h3 : D.size = 2) (h1 : D.all (·.oneCell') = true)
   (h : wpList Tryz.prog ops Q rest (a.put d undef) (w.setRow g D)) :
   wpList Tryz.prog ops Q ({ dst := d, op := .store 44 (.tmp s) (.tmp u), type := ty, pos := pos, after := af, guard := none } :: rest) a w :=
 wpList_plain rfl fun _ hK => wp_store_row _ _ _ rfl g D hx hy _ C hC (by rw [infoB, h3]) (by rw [h2, h3]) h1 (hK _ _ h)
theorem wp_stB {o : Oper} {K : Act -> World -> Prop} (hd : o.dst = none) {x y : Operand} (ho : o.op = .store 44 x y) (hx : a.eval x = .pointer (some ⟨g, 0, none⟩)) (hy : a.eval y = .agg D) (hC : Blk w g 44 C) (h2 : C.size = 2) (h3 : D.size = 2) (h1 : D.all (·.oneCell') = true)
   (h : K a (w.setRow g D)) : o.wp Tryz.prog a w K Q :=
 wp_store_row _ _ _ ho g D hx hy _ C hC (by rw [infoB, h3]) (by rw [h2, h3]) h1 (by rw [hd]; exact h)
end
theorem resB {fn : Func} {p : Tmp} (h : fn.results = #[.cell p 44]) {tmps : Array Value} {w : World} {g : Nat} {C : Array Value} (hp : tmps.getD p undef = .pointer (some ⟨g, 0, none⟩)) (hC : Blk w g 44 C) (h2 : C.size = 2) :
   (results fn tmps).run Tryz.prog w = .ok (.agg C) w := undB.elim fun _ hu => results_cell_row h tmps w g _ C (0, 0) _ hp hC hu rfl (by rw [infoB, h2])
section
variable {P : Program} {ops : Array Oper} {Q : Exit -> Act -> World -> Prop} {md : Region.Mode} {S : World -> Prop} {req : Nat -> Bool}
theorem wpAnyU_callE {i : Nat} {o : Oper} {d : Option Tmp} {fuel : Nat} {listed : Array Bool} {a : Act} {w : World} {f : FuncId} {args : Array Value} {R : Value -> World -> Prop} (hi : ops[i]? = some o) (hd : o.dst = d) (hr : Region.ready md ops listed = [i]) (hw : Region.wanted o (yielded ops a.tmps) = true)
   (hSup : ∀ w w', S w -> Up w w' -> S w') (hrun : ∀ w', (execOp a.eval o).run P w' = .ok (.enter f args) w') (hc : ∀ w', Up w w' -> Calls P f args w' fun e w'' => Up w' w'' /\ ∃ v, e = .returned v /\ R v w'')
   (h : ∀ v w'', Up w w'' -> R v w'' -> wpAnyU P md ops Q S req fuel (listed.setIfInBounds i true) (a.put d v) w'') : wpAnyU P md ops Q S req (fuel + 1) listed a w := by
 refine wpAnyU_one hi hr hw fun w' hw' => ?_
 unfold Oper.wp
 rw [hrun w']
 subst hd
 refine Calls.mono (hc w' hw') fun e w'' he => ?_
 obtain ⟨hu, v, rfl, hR⟩ := he
 exact ⟨fun _ hs => hSup _ _ hs hu, h v w'' (hw'.trans hu) hR⟩
end
theorem callE_of {P : Program} {f : FuncId} {args : Array Value} {w : World} {v : Value} (h : Calls P f args w fun e w' => e = .returned v /\ Up w w') : Calls P f args w fun e w' => Up w w' /\ ∃ u, e = .returned u /\ u = v :=
 h.mono fun _ _ he => ⟨he.2, v, he.1, rfl⟩
def Big (w : World) (v : Value) (z : Int) : Prop := ∃ a c, v = .agg #[.bool (decide (z < 0)), .slice a (nl z.natAbs) c] /\ Am w (.slice a (nl z.natAbs) c) z.natAbs
theorem Big.up {w w' : World} {v : Value} {z : Int} (h : Big w v z) (hu : Up w w') : Big w' v z := by
 obtain ⟨a, c, h1, h2⟩ := h
 exact ⟨a, c, h1, h2.up hu⟩
theorem Am.shape {w : World} {v : Value} {x : Nat} (h : Am w v x) : ∃ a c, v = .slice a (nl x) c := by
 obtain ⟨a, c, h1, _⟩ := h
 exact ⟨a, c, h1⟩
theorem pm_abs (neg : Bool) (x : Nat) : (pm neg x).natAbs = x := by cases neg <;> simp [pm]
theorem pm_neg (neg : Bool) (x : Nat) : decide (pm neg x < 0) = (neg && decide (0 < nl x)) := by
 rw [Bool.eq_iff_iff]
 cases neg <;> simp [pm, nl_pos_iff] <;> omega
theorem big_made {w : World} {a : Option Addr} {c x : Nat} (neg : Bool) (h : Am w (.slice a (nl x) c) x) : Big w (.agg #[.bool (neg && decide (0 < nl x)), .slice a (nl x) c]) (pm neg x) :=
 ⟨a, c, by rw [pm_neg, pm_abs], by rw [pm_abs]; exact h⟩
theorem made_any (neg : Bool) (a : Option Addr) (n c : Nat) (w : World) :
   Calls Tryz.prog 30 #[.bool neg, .slice a n c] w fun e w' => e = .returned (.agg #[.bool (neg && decide (0 < n)), .slice a n c]) /\ Up w w' := by
 cases neg with
 | false =>
   rw [Bool.false_and]
   go_enter Tryz.func30, Tryz.ntmps30
   go_wp2
   exact bodyPost_ret (resB rfl rfl (by (repeat (first | assumption | ((with_reducible apply blk_new); (focus (first | rfl | (simp; done)))) | (with_reducible apply blk_alloc) | (with_reducible apply blk_drew) | (with_reducible apply blk_drewN) | ((with_reducible apply blk_up); assumption) | (with_reducible apply blk_same) | ((with_reducible apply blk_else); (focus (first | (simp; done) | (simp; omega) | omega)))))) rfl) rfl ⟨rfl, (by repeat (first | assumption | (with_reducible apply Up.of) | (with_reducible exact Below.refl _ _) | (with_reducible exact Up.refl _) | ((with_reducible apply bl_setRow); (focus (first | exact Nat.le_refl _ | (simp; done) | (simp; omega) | omega))) | (with_reducible apply below_drewN) | (with_reducible apply Below.drew) | ((with_reducible apply bl_alloc); (focus (first | exact Nat.le_refl _ | (simp; done) | (simp; omega) | omega))) | ((with_reducible apply bl_setCell); (focus (first | exact Nat.le_refl _ | (simp; done) | (simp; omega) | omega))) | ((with_reducible apply up_tr); assumption)))⟩
 | true =>
   rw [Bool.true_and]
   go_enter Tryz.func30, Tryz.ntmps30
   go_wp2
   exact bodyPost_ret (resB rfl rfl (by (repeat (first | assumption | ((with_reducible apply blk_new); (focus (first | rfl | (simp; done)))) | (with_reducible apply blk_alloc) | (with_reducible apply blk_drew) | (with_reducible apply blk_drewN) | ((with_reducible apply blk_up); assumption) | (with_reducible apply blk_same) | ((with_reducible apply blk_else); (focus (first | (simp; done) | (simp; omega) | omega)))))) rfl) rfl ⟨by first | rfl | simp, (by repeat (first | assumption | (with_reducible apply Up.of) | (with_reducible exact Below.refl _ _) | (with_reducible exact Up.refl _) | ((with_reducible apply bl_setRow); (focus (first | exact Nat.le_refl _ | (simp; done) | (simp; omega) | omega))) | (with_reducible apply below_drewN) | (with_reducible apply Below.drew) | ((with_reducible apply bl_alloc); (focus (first | exact Nat.le_refl _ | (simp; done) | (simp; omega) | omega))) | ((with_reducible apply bl_setCell); (focus (first | exact Nat.le_refl _ | (simp; done) | (simp; omega) | omega))) | ((with_reducible apply up_tr); assumption)))⟩
theorem neg_any (b : Bool) (a : Option Addr) (n c : Nat) (w : World) :
   Calls Tryz.prog 78 #[.agg #[.bool b, .slice a n c]] w fun e w' => e = .returned (.agg #[.bool (!b && decide (0 < n)), .slice a n c]) /\ Up w w' := by
 have HM := hid (fun w => made_any (!b) a n c w)
 go_enter Tryz.func78, Tryz.ntmps78
 go_wp2_with (first | ((with_reducible apply stB_P); exact rfl; exact rfl; (focus (repeat (first | assumption | ((with_reducible apply blk_new); (focus (first | rfl | (simp; done)))) | (with_reducible apply blk_alloc) | (with_reducible apply blk_drew) | (with_reducible apply blk_drewN) | ((with_reducible apply blk_up); assumption) | (with_reducible apply blk_same) | ((with_reducible apply blk_else); (focus (first | (simp; done) | (simp; omega) | omega)))))); exact rfl; exact rfl; exact one2 _ _ _ _) | (go_at_call 30; refine (HM.out _).mono ?_; rintro e w' ⟨rfl, hu⟩))
 exact bodyPost_ret (resB rfl rfl (by (repeat (first | assumption | ((with_reducible apply blk_new); (focus (first | rfl | (simp; done)))) | (with_reducible apply blk_alloc) | (with_reducible apply blk_drew) | (with_reducible apply blk_drewN) | ((with_reducible apply blk_up); assumption) | (with_reducible apply blk_same) | ((with_reducible apply blk_else); (focus (first | (simp; done) | (simp; omega) | omega)))))) rfl) rfl ⟨rfl, (by repeat (first | assumption | (with_reducible apply Up.of) | (with_reducible exact Below.refl _ _) | (with_reducible exact Up.refl _) | ((with_reducible apply bl_setRow); (focus (first | exact Nat.le_refl _ | (simp; done) | (simp; omega) | omega))) | (with_reducible apply below_drewN) | (with_reducible apply Below.drew) | ((with_reducible apply bl_alloc); (focus (first | exact Nat.le_refl _ | (simp; done) | (simp; omega) | omega))) | ((with_reducible apply bl_setCell); (focus (first | exact Nat.le_refl _ | (simp; done) | (simp; omega) | omega))) | ((with_reducible apply up_tr); assumption)))⟩
def bsign (b : Bool) (n : Nat) : Int := if n = 0 then 0 else if b then -1 else 1
theorem bsign_any (b : Bool) (a : Option Addr) (n c : Nat) (w : World) :
   Calls Tryz.prog 63 #[.agg #[.bool b, .slice a n c]] w fun e w' => e = .returned (.int .i64 (bsign b n)) /\ Up w w' := by
 by_cases h0 : n = 0
 ·subst h0
  go_enter Tryz.func63, Tryz.ntmps63
  go_wp2
  go_ret
  exact ⟨rfl, (by repeat (first | assumption | (with_reducible apply Up.of) | (with_reducible exact Below.refl _ _) | (with_reducible exact Up.refl _) | ((with_reducible apply bl_setRow); (focus (first | exact Nat.le_refl _ | (simp; done) | (simp; omega) | omega))) | (with_reducible apply below_drewN) | (with_reducible apply Below.drew) | ((with_reducible apply bl_alloc); (focus (first | exact Nat.le_refl _ | (simp; done) | (simp; omega) | omega))) | ((with_reducible apply bl_setCell); (focus (first | exact Nat.le_refl _ | (simp; done) | (simp; omega) | omega))) | ((with_reducible apply up_tr); assumption)))⟩
 ·have hb : ((n : Int) == 0) = false := by simpa using h0
  have e : bsign b n = if b then -1 else 1 := by unfold bsign; rw [if_neg h0]
  rw [e]
  clear e h0
  go_enter Tryz.func63, Tryz.ntmps63
  cases b <;> (go_wp2; go_ret; exact ⟨rfl, (by repeat (first | assumption | (with_reducible apply Up.of) | (with_reducible exact Below.refl _ _) | (with_reducible exact Up.refl _) | ((with_reducible apply bl_setRow); (focus (first | exact Nat.le_refl _ | (simp; done) | (simp; omega) | omega))) | (with_reducible apply below_drewN) | (with_reducible apply Below.drew) | ((with_reducible apply bl_alloc); (focus (first | exact Nat.le_refl _ | (simp; done) | (simp; omega) | omega))) | ((with_reducible apply bl_setCell); (focus (first | exact Nat.le_refl _ | (simp; done) | (simp; omega) | omega))) | ((with_reducible apply up_tr); assumption)))⟩)
theorem big_neg {w : World} {v : Value} {z : Int} (h : Big w v z) : ∃ b a n c, v = .agg #[.bool b, .slice a n c] /\ Big w (.agg #[.bool (!b && decide (0 < n)), .slice a n c]) (-z) := by
 obtain ⟨a, c, rfl, hA⟩ := h
 refine ⟨_, a, _, c, rfl, a, c, ?_, by rw [Int.natAbs_neg]; exact hA⟩
 rw [Int.natAbs_neg]
 have : (!decide (z < 0) && decide (0 < nl z.natAbs)) = decide (-z < 0) := by
  rw [Bool.eq_iff_iff]
  simp [nl_pos_iff]
  omega
 rw [this]
theorem sgn_big {z : Int} : bsign (decide (z < 0)) (nl z.natAbs) = sgn z := by
 unfold bsign sgn
 by_cases h : nl z.natAbs = 0
 ·have : ¬ 0 < z.natAbs := fun h1 => by have := nl_pos h1; omega
  rw [if_pos h, show z = 0 by omega]; rfl
 ·have := nl_pos_iff.1 (Nat.pos_of_ne_zero h)
  rw [if_neg h]
  by_cases h1 : z < 0
  ·simp [h1]
  ·have h2 : z ≠ 0 := by omega
   simp [h1, h2]
theorem ord_len {x y : Nat} (h : nl x < nl y) : x < y := by
 have h1 := lt_bp_nl x
 have h2 := bp_le_nl (show 0 < nl y by omega)
 have h3 := bp_mono (show nl x <= nl y - 1 by omega)
 omega
set_option maxHeartbeats 1000000 in
theorem cmp_am {x y : Nat} {va vb : Value} {w : World} (ha : Am w va x) (hb : Am w vb y) (_ : nl x < 1000000) (hy : nl y < 1000000) :
   Calls Tryz.prog 28 #[va, vb] w fun e w' => e = .returned (.int .i64 (ordZ x y)) /\ Up w w' := by
 obtain ⟨a, ca, rfl, hca1, hca0⟩ := ha.open
 obtain ⟨b, cb, rfl, hcb1, hcb0⟩ := hb.open
 clear ha hb
 rcases Nat.lt_trichotomy (nl x) (nl y) with h | h | h
 ·have e : ordZ x y = -1 := by unfold ordZ; rw [if_pos (ord_len h)]
  rw [e]
  have d0 : ((nl x : Int) != (nl y : Nat)) = true := by simp; omega
  have d1 : decide ((nl x : Int) < (nl y : Nat)) = true := decide_eq_true (by omega)
  clear e hca0 hcb0
  generalize nl x = p at *
  generalize nl y = q at *
  go_enter Tryz.func28, Tryz.ntmps28
  go_wp2
  go_ret
  exact ⟨rfl, gUp⟩
 ·have H := hid h
  go_enter Tryz.func28, Tryz.ntmps28
  rw [h]
  clear h
  go_wp2
  go_loopw [5] (fun i wr => ∃ m : Nat, m <= nl y /\ i = .int .i64 ((m : Int) - 1) /\ (∀ i, m <= i -> i < nl y -> limb x i = limb y i) /\ Below w.heap.size w wr)
   (fun i _ => (intOf i + 1).toNat)
  case atStart => exact ⟨nl y, Nat.le_refl _, rfl, fun i h1 h2 => by omega, Below.refl _ _⟩
  case round =>
   obtain ⟨m, hm, rfl, hgx, hB⟩ := hrel
   have Hgx := hid hgx
   clear hgx
   by_cases hlt : 0 < m
   ·obtain ⟨k, rfl⟩ : ∃ k, m = k + 1 := ⟨m - 1, by omega⟩
    have e : (((k + 1 : Nat) : Int) - 1) = (k : Int) := by omega
    rw [e]
    clear e
    have hHy := H.out
    obtain ⟨ba, rfl, hba, hca⟩ := hca0 k (by omega)
    obtain ⟨bb, rfl, hbb, hcb⟩ := hcb0 k (by omega)
    clear hHy
    have hcx := hca wr hB
    have hcy := hcb wr hB
    have hl1 := limb_lt x k
    have hl2 := limb_lt y k
    have sx : sumL (limb x) (nl y) = x := by rw [<- H.out]; exact sum_nl x
    have sy := sum_nl y
    have h1 : limb x k < limb y k -> ordZ x y = -1 := fun h => by
     have := sumL_lt_of (fun i _ => limb_lt x i) (show k < nl y by omega) (fun j h1 h2 => Hgx.out j (by omega) h2) h
     rw [sx, sy] at this
     simp [ordZ, this]
    have h2 : limb y k < limb x k -> ordZ x y = 1 := fun h => by
     have := sumL_lt_of (fun i _ => limb_lt y i) (show k < nl y by omega) (fun j h1 h2 => (Hgx.out j (by omega) h2).symm) h
     rw [sx, sy] at this
     have h3 : ¬ x < y := by omega
     simp [ordZ, this, h3]
    have hE : limb x k = limb y k -> ∀ i, k <= i -> i < nl y -> limb x i = limb y i := fun h i h1 h2 => by
     by_cases e : i = k
     ·rw [e]; exact h
     ·exact Hgx.out i (by omega) h2
    have H1 := hid h1
    have H2 := hid h2
    have HE := hid hE
    clear sx sy h1 h2 hE hca hcb hca0 hcb0
    generalize limb x k = lx at *
    generalize limb y k = ly at *
    rcases Nat.lt_trichotomy lx ly with h | h | h
    ·have d0 : ((lx : Int) != ly) = true := by simp; omega
     have d1 : decide ((lx : Int) < ly) = true := decide_eq_true (by omega)
     go_wp2
     go_quiet (fail)
     go_wp2
     go_quiet (fail)
     go_wp2
     go_ret
     exact ⟨ret_int (H1.out h).symm, below_drewN (below_drewN hB _) _⟩
    ·have HF := hid (HE.out h)
     have d0 : ((lx : Int) != ly) = false := by simp; omega
     clear HE
     go_wp2
     go_quiet (fail)
     go_wp2
     go_roundw
     case rel => exact ⟨k, by omega, by go_num, HF.out, below_drewN hB _⟩
     case measure => simp [intOf] <;> omega
    ·have d0 : ((lx : Int) != ly) = true := by simp; omega
     have d1 : decide ((lx : Int) < ly) = false := decide_eq_false (by omega)
     go_wp2
     go_quiet (fail)
     go_wp2
     go_quiet (fail)
     go_wp2
     go_ret
     exact ⟨ret_int (H2.out h).symm, below_drewN (below_drewN hB _) _⟩
   ·obtain rfl : m = 0 := by omega
    have h0 : x = y := by
     rw [<- sum_nl x, <- sum_nl y, H.out]
     exact sumL_congr fun i hi => Hgx.out i (by omega) hi
    have H0 := hid h0
    clear h0
    go_wp2
    go_ret
    exact ⟨ret_int (by simp [ordZ, H0.out]), hB⟩
 ·have e : ordZ x y = 1 := by
   have := ord_len h
   unfold ordZ
   rw [if_neg (by omega)]
   first | rw [if_neg (by omega)] | rw [if_pos (by omega)]
  rw [e]
  have d0 : ((nl x : Int) != (nl y : Nat)) = true := by simp; omega
  have d1 : decide ((nl x : Int) < (nl y : Nat)) = false := decide_eq_false (by omega)
  clear e hca0 hcb0
  generalize nl x = p at *
  generalize nl y = q at *
  go_enter Tryz.func28, Tryz.ntmps28
  go_wp2
  go_ret
  exact ⟨rfl, gUp⟩
theorem Am.setRow {w : World} {v : Value} {x g : Nat} {C D : Array Value} (h : Am w v x) (hg : Blk w g 44 C) : Am (w.setRow g D) v x := by
 obtain ⟨a, c, h1, h2, h3⟩ := h
 refine ⟨a, c, h1, h2, fun h0 => ?_⟩
 obtain ⟨b, E, h4, h6, h7⟩ := h3 h0
 refine ⟨b, E, h4, h6.row_other D ?_, h7⟩
 rintro rfl
 unfold Blk at *
 rw [hg] at h6
 simp at h6
theorem Big.setRow {w : World} {v : Value} {z : Int} {g : Nat} {C D : Array Value} (h : Big w v z) (hg : Blk w g 44 C) : Big (w.setRow g D) v z := by
 obtain ⟨a, c, h1, h2⟩ := h
 exact ⟨a, c, h1, h2.setRow hg⟩
theorem Big.shape {w : World} {v : Value} {z : Int} (h : Big w v z) : ∃ b a n c, v = .agg #[.bool b, .slice a n c] := by
 obtain ⟨a, c, h1, _⟩ := h
 exact ⟨_, a, _, c, h1⟩
theorem pm_int (z : Int) : z = pm (decide (z < 0)) z.natAbs := by
 by_cases h : z < 0 <;> simp [pm, h] <;> omega
theorem pm_same (p : Bool) (X Y : Nat) : pm p X + pm p Y = pm p (X + Y) := by cases p <;> simp [pm] <;> omega
theorem pm_more {p : Bool} {X Y : Nat} (h : Y <= X) : pm p X + pm (!p) Y = pm p (X - Y) := by cases p <;> simp [pm] <;> omega
theorem pm_less {p : Bool} {X Y : Nat} (h : X < Y) : pm p X + pm (!p) Y = pm (!p) (Y - X) := by cases p <;> simp [pm] <;> omega
set_option maxHeartbeats 1000000 in
theorem add_pm (p q : Bool) (X Y : Nat) (a b : Option Addr) (ca cb : Nat) (w : World) (hA : Am w (.slice a (nl X) ca) X) (hB : Am w (.slice b (nl Y) cb) Y) (hx : nl X < 50000) (hy : nl Y < 50000) :
   Calls Tryz.prog 62 #[.agg #[.bool p, .slice a (nl X) ca], .agg #[.bool q, .slice b (nl Y) cb]] w fun e w' => Up w w' /\ ∃ v, e = .returned v /\ Big w' v (pm p X + pm q Y) := by
 by_cases hpq : p = q
 ·subst hpq
  rw [pm_same]
  go_enter Tryz.func62, Tryz.ntmps62
  go_wp2
  refine opU (S := (fun wq => Blk wq (w.heap.size + 1 + 1) 44 #[.bool false, .slice none 0 0] /\ wq.cell? ⟨w.heap.size, 0, none⟩ = some (.bool p) /\ wq.cell? ⟨w.heap.size, 1, none⟩ = some (.slice a (nl X) ca) /\ wq.cell? ⟨w.heap.size + 1, 1, none⟩ = some (.slice b (nl Y) cb) /\ Below w.heap.size w wq)) (req := (fun j => j != 8)) (fun _ _ h hu => ⟨(h.1).up hu, hu.cell (h.2.1), hu.cell (h.2.2.1), hu.cell (h.2.2.2.1), below_up (h.2.2.2.2) hu⟩) ⟨gBlk, (by first | assumption | (apply Blk.cell; exact gBlk; exact rfl)), (by first | assumption | (apply Blk.cell; exact gBlk; exact rfl)), (by first | assumption | (apply Blk.cell; exact gBlk; exact rfl)), gUp⟩ (fun wS hSS hSu => ?_)
  have ⟨hS1, hS2, hS3, hS4, hSB⟩ := hSS
  refine tkP 0 (some 10) hSu ?_
  refine tkT 1 (some 11) rfl hSu hSS ?_ (hy := fun w' hSw => by ((try dsimp only at hSw); (try obtain ⟨_, _, _, _, _⟩ := hSw); go_simp; (try exact rfl)))
  refine tkP 2 (some 12) hSu ?_
  refine tkT 3 (some 13) rfl hSu hSS ?_ (hy := fun w' hSw => by ((try dsimp only at hSw); (try obtain ⟨_, _, _, _, _⟩ := hSw); go_simp; (try exact rfl)))
  refine tkP 4 (some 14) hSu ?_
  refine tkT 5 (some 15) rfl hSu hSS ?_ (hy := fun w' hSw => by ((try dsimp only at hSw); (try obtain ⟨_, _, _, _, _⟩ := hSw); go_simp; (try exact rfl)))
  refine wpAnyU_callE (i := 6) (d := (some 16)) rfl rfl (by kernel_rfl) (by rfl) hSu.out (fun w' => by go_simp) (fun w' hw' => plus_am (hA.up (below_up hSB hw')) (hB.up (below_up hSB hw')) (by omega) (by omega)) fun vP wP hwP hRP => ?_
  try simp only [Act.put, pu1, pu2, pu3]
  obtain ⟨a1, c1, rfl⟩ := hRP.shape
  refine wpAnyU_callE (i := 7) (d := (some 17)) rfl rfl (by kernel_rfl) (by rfl) hSu.out (fun w' => by go_simp) (fun w' hw' => callE_of (made_any p a1 (nl (X + Y)) c1 w')) fun vM wM hwM hRM => ?_
  try simp only [Act.put, pu1, pu2, pu3]
  subst hRM
  refine wpAnyU_one (i := 8) rfl (by kernel_rfl) (by rfl) fun w2 hw2 => ?_
  have gK := ((hS1.up hwP).up hwM).up hw2
  refine wp_stB rfl rfl rfl rfl gK rfl rfl (one2 _ _ _ _) ?_
  refine ⟨fun h => by simp at h, ?_⟩
  try simp only [Act.put, pu1, pu2, pu3]
  refine wpAnyU_done (by kernel_rfl) (fun wF huE => ?_) _
  have gR := (gK.setRow #[.bool (p && decide (0 < nl (X + Y))), .slice a1 (nl (X + Y)) c1]).up huE
  have gA := (((hRP.up hwM).up hw2).setRow (D := #[.bool (p && decide (0 < nl (X + Y))), .slice a1 (nl (X + Y)) c1]) gK).up huE
  have gB := below_up (below_setRow (below_up (below_up (below_up hSB hwP) hwM) hw2) (show w.heap.size <= w.heap.size + 1 + 1 by omega) #[.bool (p && decide (0 < nl (X + Y))), .slice a1 (nl (X + Y)) c1]) huE
  have gBig := big_made p gA
  clear gK hRP hwP hwM hw2 huE hS1 hS2 hS3 hS4 hSB hSS gA
  go_wp2
  exact bodyPost_ret (resB rfl rfl gR rfl) rfl ⟨gB, _, rfl, gBig⟩
 ·have hq : q = !p := by cases p <;> cases q <;> simp_all
  subst hq
  have d0 : (p == !p) = false := by cases p <;> rfl
  clear hpq
  by_cases hc : Y <= X
  ·rw [pm_more hc]
   have d1 : decide (0 <= ordZ X Y) = true := by
    unfold ordZ
    rw [if_neg (by omega)]
    split <;> simp
   go_enter Tryz.func62, Tryz.ntmps62
   go_wp2_with (first | (go_at_call 28; (with_reducible refine (cmp_am (hA.up gUp) (hB.up gUp) (by omega) (by omega)).mono ?_); rintro e wC ⟨rfl, huC⟩))
   refine opU (S := (fun wq => Blk wq (w.heap.size + 1 + 1) 44 #[.bool false, .slice none 0 0] /\ wq.cell? ⟨w.heap.size, 0, none⟩ = some (.bool p) /\ wq.cell? ⟨w.heap.size, 1, none⟩ = some (.slice a (nl X) ca) /\ wq.cell? ⟨w.heap.size + 1, 1, none⟩ = some (.slice b (nl Y) cb) /\ Below w.heap.size w wq)) (req := (fun j => j != 8)) (fun _ _ h hu => ⟨(h.1).up hu, hu.cell (h.2.1), hu.cell (h.2.2.1), hu.cell (h.2.2.2.1), below_up (h.2.2.2.2) hu⟩) ⟨gBlk, (by first | assumption | (apply Blk.cell; exact gBlk; exact rfl)), (by first | assumption | (apply Blk.cell; exact gBlk; exact rfl)), (by first | assumption | (apply Blk.cell; exact gBlk; exact rfl)), gUp⟩ (fun wS hSS hSu => ?_)
   have ⟨hS1, hS2, hS3, hS4, hSB⟩ := hSS
   refine tkP 0 (some 24) hSu ?_
   refine tkT 1 (some 25) rfl hSu hSS ?_ (hy := fun w' hSw => by ((try dsimp only at hSw); (try obtain ⟨_, _, _, _, _⟩ := hSw); go_simp; (try exact rfl)))
   refine tkP 2 (some 26) hSu ?_
   refine tkT 3 (some 27) rfl hSu hSS ?_ (hy := fun w' hSw => by ((try dsimp only at hSw); (try obtain ⟨_, _, _, _, _⟩ := hSw); go_simp; (try exact rfl)))
   refine tkP 4 (some 28) hSu ?_
   refine tkT 5 (some 29) rfl hSu hSS ?_ (hy := fun w' hSw => by ((try dsimp only at hSw); (try obtain ⟨_, _, _, _, _⟩ := hSw); go_simp; (try exact rfl)))
   refine wpAnyU_callE (i := 6) (d := (some 30)) rfl rfl (by kernel_rfl) (by rfl) hSu.out (fun w' => by go_simp) (fun w' hw' => minus_am (hA.up (below_up hSB hw')) (hB.up (below_up hSB hw')) (by omega) hc) fun vP wP hwP hRP => ?_
   try simp only [Act.put, pu1, pu2, pu3]
   obtain ⟨a1, c1, rfl⟩ := hRP.shape
   refine wpAnyU_callE (i := 7) (d := (some 31)) rfl rfl (by kernel_rfl) (by rfl) hSu.out (fun w' => by go_simp) (fun w' hw' => callE_of (made_any p a1 (nl (X - Y)) c1 w')) fun vM wM hwM hRM => ?_
   try simp only [Act.put, pu1, pu2, pu3]
   subst hRM
   refine wpAnyU_one (i := 8) rfl (by kernel_rfl) (by rfl) fun w2 hw2 => ?_
   have gK := ((hS1.up hwP).up hwM).up hw2
   refine wp_stB rfl rfl rfl rfl gK rfl rfl (one2 _ _ _ _) ?_
   refine ⟨fun h => by simp at h, ?_⟩
   try simp only [Act.put, pu1, pu2, pu3]
   refine wpAnyU_done (by kernel_rfl) (fun wF huE => ?_) _
   have gR := (gK.setRow #[.bool (p && decide (0 < nl (X - Y))), .slice a1 (nl (X - Y)) c1]).up huE
   have gA := (((hRP.up hwM).up hw2).setRow (D := #[.bool (p && decide (0 < nl (X - Y))), .slice a1 (nl (X - Y)) c1]) gK).up huE
   have gB := below_up (below_setRow (below_up (below_up (below_up hSB hwP) hwM) hw2) (show w.heap.size <= w.heap.size + 1 + 1 by omega) #[.bool (p && decide (0 < nl (X - Y))), .slice a1 (nl (X - Y)) c1]) huE
   have gBig := big_made p gA
   clear gK hRP hwP hwM hw2 huE hS1 hS2 hS3 hS4 hSB hSS gA
   go_wp2
   exact bodyPost_ret (resB rfl rfl gR rfl) rfl ⟨gB, _, rfl, gBig⟩
  ·rw [pm_less (by omega)]
   have d1 : decide (0 <= ordZ X Y) = false := by
    unfold ordZ
    rw [if_pos (by omega)]
    rfl
   go_enter Tryz.func62, Tryz.ntmps62
   go_wp2_with (first | (go_at_call 28; (with_reducible refine (cmp_am (hA.up gUp) (hB.up gUp) (by omega) (by omega)).mono ?_); rintro e wC ⟨rfl, huC⟩))
   refine opU (S := (fun wq => Blk wq (w.heap.size + 1 + 1) 44 #[.bool false, .slice none 0 0] /\ wq.cell? ⟨w.heap.size + 1, 0, none⟩ = some (.bool (!p)) /\ wq.cell? ⟨w.heap.size + 1, 1, none⟩ = some (.slice b (nl Y) cb) /\ wq.cell? ⟨w.heap.size, 1, none⟩ = some (.slice a (nl X) ca) /\ Below w.heap.size w wq)) (req := (fun j => j != 8)) (fun _ _ h hu => ⟨(h.1).up hu, hu.cell (h.2.1), hu.cell (h.2.2.1), hu.cell (h.2.2.2.1), below_up (h.2.2.2.2) hu⟩) ⟨gBlk, (by first | assumption | (apply Blk.cell; exact gBlk; exact rfl)), (by first | assumption | (apply Blk.cell; exact gBlk; exact rfl)), (by first | assumption | (apply Blk.cell; exact gBlk; exact rfl)), gUp⟩ (fun wS hSS hSu => ?_)
   have ⟨hS1, hS2, hS3, hS4, hSB⟩ := hSS
   refine tkP 0 (some 32) hSu ?_
   refine tkT 1 (some 33) rfl hSu hSS ?_ (hy := fun w' hSw => by ((try dsimp only at hSw); (try obtain ⟨_, _, _, _, _⟩ := hSw); go_simp; (try exact rfl)))
   refine tkP 2 (some 34) hSu ?_
   refine tkT 3 (some 35) rfl hSu hSS ?_ (hy := fun w' hSw => by ((try dsimp only at hSw); (try obtain ⟨_, _, _, _, _⟩ := hSw); go_simp; (try exact rfl)))
   refine tkP 4 (some 36) hSu ?_
   refine tkT 5 (some 37) rfl hSu hSS ?_ (hy := fun w' hSw => by ((try dsimp only at hSw); (try obtain ⟨_, _, _, _, _⟩ := hSw); go_simp; (try exact rfl)))
   refine wpAnyU_callE (i := 6) (d := (some 38)) rfl rfl (by kernel_rfl) (by rfl) hSu.out (fun w' => by go_simp) (fun w' hw' => minus_am (hB.up (below_up hSB hw')) (hA.up (below_up hSB hw')) (by omega) (by omega)) fun vP wP hwP hRP => ?_
   try simp only [Act.put, pu1, pu2, pu3]
   obtain ⟨a1, c1, rfl⟩ := hRP.shape
   refine wpAnyU_callE (i := 7) (d := (some 39)) rfl rfl (by kernel_rfl) (by rfl) hSu.out (fun w' => by go_simp) (fun w' hw' => callE_of (made_any (!p) a1 (nl (Y - X)) c1 w')) fun vM wM hwM hRM => ?_
   try simp only [Act.put, pu1, pu2, pu3]
   subst hRM
   refine wpAnyU_one (i := 8) rfl (by kernel_rfl) (by rfl) fun w2 hw2 => ?_
   have gK := ((hS1.up hwP).up hwM).up hw2
   refine wp_stB rfl rfl rfl rfl gK rfl rfl (one2 _ _ _ _) ?_
   refine ⟨fun h => by simp at h, ?_⟩
   try simp only [Act.put, pu1, pu2, pu3]
   refine wpAnyU_done (by kernel_rfl) (fun wF huE => ?_) _
   have gR := (gK.setRow #[.bool ((!p) && decide (0 < nl (Y - X))), .slice a1 (nl (Y - X)) c1]).up huE
   have gA := (((hRP.up hwM).up hw2).setRow (D := #[.bool ((!p) && decide (0 < nl (Y - X))), .slice a1 (nl (Y - X)) c1]) gK).up huE
   have gB := below_up (below_setRow (below_up (below_up (below_up hSB hwP) hwM) hw2) (show w.heap.size <= w.heap.size + 1 + 1 by omega) #[.bool ((!p) && decide (0 < nl (Y - X))), .slice a1 (nl (Y - X)) c1]) huE
   have gBig := big_made (!p) gA
   clear gK hRP hwP hwM hw2 huE hS1 hS2 hS3 hS4 hSB hSS gA
   go_wp2
   exact bodyPost_ret (resB rfl rfl gR rfl) rfl ⟨gB, _, rfl, gBig⟩
theorem add_big {x y : Int} {va vb : Value} {w : World} (ha : Big w va x) (hb : Big w vb y) (hx : nl x.natAbs < 50000) (hy : nl y.natAbs < 50000) :
   Calls Tryz.prog 62 #[va, vb] w fun e w' => Up w w' /\ ∃ v, e = .returned v /\ Big w' v (x + y) := by
 obtain ⟨a, ca, rfl, hA⟩ := ha
 obtain ⟨b, cb, rfl, hB⟩ := hb
 have h := add_pm (decide (x < 0)) (decide (y < 0)) x.natAbs y.natAbs a b ca cb w hA hB hx hy
 rw [<- pm_int, <- pm_int] at h
 exact h
theorem mul64_up (x y : Nat) (hx : x < 18446744073709551616) (hy : y < 18446744073709551616) {h l : Nat} (eh : h = x * y / 18446744073709551616) (el : l = x * y % 18446744073709551616) (w : World) :
   Calls Tryz.prog 45 #[.int .u64 x, .int .u64 y] w fun e w' => e = .returned (.tuple #[.int .u64 (h : Nat), .int .u64 (l : Nat)]) /\ Up w w' := by
 refine (Tryz.bits_Mul64 x y hx hy w).mono ?_
 rintro e w' ⟨rfl, rfl⟩
 exact ⟨by rw [eh, el], Up.refl _⟩
set_option maxHeartbeats 2000000 in
theorem times_am {x y : Nat} {va vb : Value} {w : World} (ha : Am w va x) (hb : Am w vb y) (hx : nl x < 100000) (hy : nl y < 100000) :
   Calls Tryz.prog 29 #[va, vb] w fun e w' => Up w w' /\ ∃ v, e = .returned v /\ Am w' v (x * y) := by
 obtain ⟨a, ca, rfl, hca1, hca0⟩ := ha.open
 obtain ⟨b, cb, rfl, hcb1, hcb0⟩ := hb.open
 have HSX := hid (sum_nl x)
 have HSY := hid (sum_nl y)
 clear ha hb
 generalize nl x = n at *
 generalize nl y = m at *
 go_enter Tryz.func29, Tryz.ntmps29
 go_wp2_with (first | ((with_reducible apply mkP (n := n + m)); exact rfl; (first | rfl | omega); omega))
 go_loopw [6] (fun ti wr => ∃ (i : Nat) (S : Nat -> Nat), i <= n /\ ti = .int .i64 (i : Nat) /\ (∀ j, j < n + m -> S j < 18446744073709551616) /\ sumL S (n + m) = sumL (limb x) i * sumL (limb y) m /\ (∀ j, i + m <= j -> j < n + m -> S j = 0) /\ Row wr w.heap.size 40 (n + m) S /\ Below w.heap.size w wr)
  (fun ti _ => n - (intOf ti).toNat)
 case atStart => exact ⟨0, fun _ => 0, by omega, rfl, fun _ _ => by simp, by rw [sumL_zero, Nat.zero_mul]; exact sumL_zeros _, fun _ _ _ => rfl, row_newc _ _ _ rfl, (by repeat (first | assumption | (with_reducible exact Below.refl _ _) | ((with_reducible apply bl_alloc); (focus (first | exact Nat.le_refl _ | (simp; done) | (simp; omega) | omega)))))⟩
 case round =>
  obtain ⟨i, S, hi, rfl, hSb, hsum, hz, hM, hB⟩ := hrel
  have HSb := hid hSb
  have Hsum := hid hsum
  have Hz := hid hz
  clear hSb hsum hz
  obtain ⟨wo, rfl⟩ : ∃ wo : World, wo = wr := ⟨_, rfl⟩
  by_cases hlt : i < n
  ·obtain ⟨ba, rfl, hba, hca⟩ := hca0 i hlt
   go_wp2
   go_loopw [7, 8] (fun tc tk wi => ∃ (k c : Nat) (S' : Nat -> Nat), k <= m /\ tk = .int .i64 (k : Nat) /\ tc = .int .u64 (c : Nat) /\ c < 18446744073709551616 /\ (∀ j, j < n + m -> S' j < 18446744073709551616) /\
      sumL S' (n + m) + c * (bp i * bp k) = sumL (limb x) i * sumL (limb y) m + limb x i * bp i * sumL (limb y) k /\ (∀ j, i + m <= j -> j < n + m -> S' j = 0) /\ Row wi w.heap.size 40 (n + m) S' /\ Below w.heap.size w wi)
    (fun _ tk _ => m - (intOf tk).toNat)
   case atStart => exact ⟨0, 0, S, by omega, rfl, rfl, by omega, HSb.out, by rw [sumL_zero, Hsum.out]; omega, Hz.out, hM, hB⟩
   case round =>
    clear hM hB HSb Hsum Hz
    obtain ⟨k, c, S', hk, rfl, rfl, hc, hSb, hsum, hz, hM, hB⟩ := hrel
    have HSb := hid hSb
    have Hsum := hid hsum
    have Hz := hid hz
    clear hSb hsum hz
    by_cases hkt : k < m
    ·obtain ⟨bb, rfl, hbb, hcb⟩ := hcb0 k hkt
     have hcx := hca _ hB
     have hcy := hcb _ hB
     obtain ⟨h, eh⟩ : ∃ h, h = limb x i * limb y k / 18446744073709551616 := ⟨_, rfl⟩
     obtain ⟨l, el⟩ : ∃ l, l = limb x i * limb y k % 18446744073709551616 := ⟨_, rfl⟩
     have hlx' := limb_lt x i
     have hly' := limb_lt y k
     have HM := hid (fun w => mul64_up _ _ hlx' hly' eh el w)
     have hsk := HSb.out (i + k) (by omega)
     obtain ⟨r1, c1, HA, e1, f1⟩ : ∃ r c : Nat, (∀ w, (callFunc 46 #[.int .u64 (l : Nat), .int .u64 (S' (i + k) : Nat), .int .u64 0]).run Tryz.prog w = .ok (.value (.tuple #[.int .u64 (r : Nat), .int .u64 (c : Nat)])) w) /\
      r = (l + S' (i + k) + 0) % 18446744073709551616 /\ c = (l + S' (i + k) + 0) / 18446744073709551616 := ⟨_, _, run_add l (S' (i + k)) 0 (by omega), rfl, rfl⟩
     obtain ⟨r2, c2, HA2, e2, f2⟩ : ∃ r cc : Nat, (∀ w, (callFunc 46 #[.int .u64 (r1 : Nat), .int .u64 (c : Nat), .int .u64 0]).run Tryz.prog w = .ok (.value (.tuple #[.int .u64 (r : Nat), .int .u64 (cc : Nat)])) w) /\
      r = (r1 + c + 0) % 18446744073709551616 /\ cc = (r1 + c + 0) / 18446744073709551616 := ⟨_, _, run_add r1 c 0 (by omega), rfl, rfl⟩
     obtain ⟨g1, g2, g3⟩ := step_arith hlx' hly' hsk hc eh el e1 f1 e2 f2
     obtain ⟨hr, hc', hrc⟩ := step_bound hlx' hly' hsk hc g2 g3
     have Hrc := hid hrc
     obtain ⟨h1, eh1⟩ : ∃ h1, h1 = h + c1 := ⟨_, rfl⟩
     obtain ⟨h2, eh2⟩ : ∃ h2, h2 = h1 + c2 := ⟨_, rfl⟩
     have w1 : IntKind.u64.wrap ((h : Int) + c1) = (h1 : Nat) := by rw [IntKind.wrap_u64]; omega
     have w2 : IntKind.u64.wrap ((h1 : Int) + c2) = (h2 : Nat) := by rw [IntKind.wrap_u64]; omega
     have hh2 : h2 < 18446744073709551616 := by omega
     have Hh2 := hid (show h + c1 + c2 = h2 by omega)
     clear e1 f1 e2 f2 g1 g2 g3 hrc eh el eh1 eh2 hc'
     go_wp2
     refine opU (S := (fun wq => Row wq w.heap.size 40 (n + m) S' /\ wq.cell? ⟨ba, i, none⟩ = some (.int .u64 (limb x i : Nat)) /\ wq.cell? ⟨bb, k, none⟩ = some (.int .u64 (limb y k : Nat)) /\ Below w.heap.size w wq)) (req := (fun _ => true)) (fun _ _ h hu => ⟨(h.1).up hu, hu.cell (h.2.1), hu.cell (h.2.2.1), below_up (h.2.2.2) hu⟩) ⟨gRow, (by first | assumption | (apply Blk.cell; exact gBlk; exact rfl)), (by first | assumption | (apply Blk.cell; exact gBlk; exact rfl)), gUp⟩ (fun wS hSS hSu => ?_)
     have ⟨hS1, hS2, hS3, hSB⟩ := hSS
     clear hcx hcy hM hB
     refine tkP 0 (some 31) hSu ?_
     refine tkP 1 (some 32) hSu ?_
     refine tkP 2 (some 33) hSu ?_
     refine tkT 3 (some 34) rfl hSu hSS ?_ (hy := fun w' hSw => by ((try dsimp only at hSw); (try obtain ⟨_, _, _, _⟩ := hSw); go_simp; (try exact rfl)))
     refine tkP 4 (some 35) hSu ?_
     refine tkP 5 (some 36) hSu ?_
     refine tkP 6 (some 37) hSu ?_
     refine tkT 7 (some 38) rfl hSu hSS ?_ (hy := fun w' hSw => by ((try dsimp only at hSw); (try obtain ⟨_, _, _, _⟩ := hSw); go_simp; (try exact rfl)))
     refine tkC 8 (some 39) rfl hSu hSS ?_ (hy := fun w' hSw => (HM.out _))
     refine tkP 9 (some 30) hSu ?_
     refine tkP 10 (some 40) hSu ?_
     refine tkP 11 (some 41) hSu ?_
     refine tkP 12 (some 9) hSu ?_
     refine tkP 13 (some 10) hSu ?_
     refine wpAnyU_done (by kernel_rfl) (fun wE huE => ?_) _
     have ⟨hS1, hS2, hS3, hSB⟩ := hSu.out _ _ hSS huE
     clear huE hSS
     have E2 : ((i : Int) + (k : Int)).toNat = i + k := by omega
     have E3 : ((n + m : Nat) : Int) = (n : Int) + m := by omega
     have hik : (i : Int) + (k : Int) < (n : Int) + m := by omega
     have hcs := hS1.cell (i + k) (by omega)
     have hfs := hS1.frozen (i + k)
     have gM := hS1.set (i + k) r2
     have gB := hSB.setCell (p := ⟨w.heap.size, i + k, none⟩) (Nat.le_refl _) (.int .u64 (r2 : Nat))
     clear hS1 hS2 hS3 hSB
     go_wp2
     go_roundw
     case rel =>
      refine ⟨k + 1, h2, upd S' (i + k) r2, by omega, by go_num, rfl, hh2, upd_lt HSb.out hr, ?_, fun j h1 h2 => by rw [upd_other _ _ _ (by omega)]; exact Hz.out j h1 h2, gM, gB⟩
      have hu := sumL_upd S' r2 (show i + k < n + m by omega)
      have hr' := Hrc.out
      rw [bp_add] at hu
      rw [Hh2.out] at hr'
      rw [bp_succ, sumL_succ (limb y) k, <- Nat.mul_assoc (bp i)]
      exact times_step Hsum.out hu hr'
     case measure => simp [intOf] <;> omega
    ·obtain rfl : k = m := by omega
     have E2 : ((i : Int) + (k : Int)).toNat = i + k := by omega
     have E3 : ((n + k : Nat) : Int) = (n : Int) + k := by omega
     have hik : (i : Int) + (k : Int) < (n : Int) + k := by omega
     have hcs := hM.cell (i + k) (by omega)
     have hfs := hM.frozen (i + k)
     have gM := hM.set (i + k) c
     have gB := hB.setCell (p := ⟨w.heap.size, i + k, none⟩) (Nat.le_refl _) (.int .u64 (c : Nat))
     clear hM hB
     go_wp2
     go_roundw
     case rel =>
      refine ⟨i + 1, upd S' (i + k) c, by omega, by go_num, upd_lt HSb.out hc, ?_, fun j h1 h2 => by rw [upd_other _ _ _ (by omega)]; exact Hz.out j (by omega) h2, gM, gB⟩
      have h2 := sumL_upd S' c (show i + k < n + k by omega)
      have h3 := Hz.out (i + k) (Nat.le_refl _) (by omega)
      have h4 := Hsum.out
      rw [bp_add, h3, Nat.zero_mul, Nat.add_zero] at h2
      rw [h2, sumL_succ (limb x) i, Nat.add_mul]
      exact h4
     case measure => simp [intOf] <;> omega
  ·obtain rfl : i = n := by omega
   have he := Hsum.out
   rw [HSX.out, HSY.out] at he
   have ht := trim_row w.heap.size (i + m) (i + m) (i + m) S wo hM (Nat.le_refl _) (Nat.le_refl _) (by omega)
   have hres := am_row (c := i + m) hM (Nat.le_refl _) (Nat.le_refl _) HSb.out
   rw [he] at hres
   have HT := hid ht
   have HR := hid hres
   clear ht hres he HSb Hsum Hz hM
   go_wp2_with (go_at_call 31; (with_reducible refine HT.out.mono ?_); rintro e w' ⟨rfl, hu⟩)
   go_ret
   exact ⟨below_up hB hu, _, rfl, HR.out.up hu⟩
theorem pm_times (p q : Bool) (X Y : Nat) : pm p X * pm q Y = pm (p != q) (X * Y) := by
 cases p <;> cases q <;> simp [pm, Int.natCast_mul, Int.neg_mul, Int.mul_neg]
set_option maxHeartbeats 1000000 in
theorem sub_big {x y : Int} {va vb : Value} {w : World} (ha : Big w va x) (hb : Big w vb y) (hx : nl x.natAbs < 50000) (hy : nl y.natAbs < 50000) :
   Calls Tryz.prog 64 #[va, vb] w fun e w' => Up w w' /\ ∃ v, e = .returned v /\ Big w' v (x - y) := by
 obtain ⟨p, a, n, ca, rfl⟩ := ha.shape
 obtain ⟨q, b, m, cb, hq, hn⟩ := big_neg hb
 subst hq
 have hA := hid ha
 have hN := hid hn
 rw [Int.sub_eq_add_neg]
 have hy' : nl (-y).natAbs < 50000 := by rw [Int.natAbs_neg]; exact hy
 clear ha hb hn
 go_enter Tryz.func64, Tryz.ntmps64
 go_wp2
 refine opU (S := (fun wq => Blk wq (w.heap.size + 1 + 1) 44 #[.bool false, .slice none 0 0] /\ Blk wq w.heap.size 44 #[.bool p, .slice a n ca] /\ Blk wq (w.heap.size + 1) 44 #[.bool q, .slice b m cb] /\ Below w.heap.size w wq)) (req := (fun j => j != 4)) (fun _ _ h hu => ⟨(h.1).up hu, (h.2.1).up hu, (h.2.2.1).up hu, below_up (h.2.2.2) hu⟩) ⟨gBlk, gBlk, gBlk, gUp⟩ (fun wS hSS hSu => ?_)
 have ⟨hS1, hS2, hS3, hSB⟩ := hSS
 refine tkT 0 (some 5) rfl hSu hSS ?_ (hy := fun w' hSw => run_ldB rfl rfl hSw.2.1 rfl)
 refine tkT 1 (some 6) rfl hSu hSS ?_ (hy := fun w' hSw => run_ldB rfl rfl hSw.2.2.1 rfl)
 refine tkC 2 (some 7) rfl hSu hSS ?_ (hy := fun w' hSw => (neg_any q b m cb w'))
 refine wpAnyU_callE (i := 3) (d := (some 8)) rfl rfl (by kernel_rfl) (by rfl) hSu.out (fun w' => by go_simp) (fun w' hw' => add_big (hA.out.up (below_up hSB hw')) (hN.out.up (below_up hSB hw')) hx hy') fun vA wA hwA hRA => ?_
 try simp only [Act.put, pu1, pu2, pu3]
 obtain ⟨b1, a1, n1, c1, rfl⟩ := hRA.shape
 refine wpAnyU_one (i := 4) rfl (by kernel_rfl) (by rfl) fun w2 hw2 => ?_
 have gK := (hS1.up hwA).up hw2
 refine wp_stB rfl rfl rfl rfl gK rfl rfl (one2 _ _ _ _) ?_
 refine ⟨fun h => by simp at h, ?_⟩
 try simp only [Act.put, pu1, pu2, pu3]
 refine wpAnyU_done (by kernel_rfl) (fun wF huE => ?_) _
 have gR := (gK.setRow #[.bool b1, .slice a1 n1 c1]).up huE
 have gA := ((hRA.up hw2).setRow (D := #[.bool b1, .slice a1 n1 c1]) gK).up huE
 have gB := below_up (below_setRow (below_up (below_up hSB hwA) hw2) (show w.heap.size <= w.heap.size + 1 + 1 by omega) #[.bool b1, .slice a1 n1 c1]) huE
 clear gK hRA hwA hw2 huE hS1 hS2 hS3 hSB hSS
 go_wp2
 exact bodyPost_ret (resB rfl rfl gR rfl) rfl ⟨gB, _, rfl, gA⟩
set_option maxHeartbeats 1000000 in
theorem mul_pm (p q : Bool) (X Y : Nat) (a b : Option Addr) (ca cb : Nat) (w : World) (hA : Am w (.slice a (nl X) ca) X) (hB : Am w (.slice b (nl Y) cb) Y) (hx : nl X < 50000) (hy : nl Y < 50000) :
   Calls Tryz.prog 41 #[.agg #[.bool p, .slice a (nl X) ca], .agg #[.bool q, .slice b (nl Y) cb]] w fun e w' => Up w w' /\ ∃ v, e = .returned v /\ Big w' v (pm p X * pm q Y) := by
 rw [pm_times]
 go_enter Tryz.func41, Tryz.ntmps41
 go_wp2
 refine opU (S := (fun wq => Blk wq (w.heap.size + 1 + 1) 44 #[.bool false, .slice none 0 0] /\ wq.cell? ⟨w.heap.size, 0, none⟩ = some (.bool p) /\ wq.cell? ⟨w.heap.size + 1, 0, none⟩ = some (.bool q) /\ wq.cell? ⟨w.heap.size, 1, none⟩ = some (.slice a (nl X) ca) /\ wq.cell? ⟨w.heap.size + 1, 1, none⟩ = some (.slice b (nl Y) cb) /\ Below w.heap.size w wq)) (req := (fun j => j != 11)) (fun _ _ h hu => ⟨(h.1).up hu, hu.cell (h.2.1), hu.cell (h.2.2.1), hu.cell (h.2.2.2.1), hu.cell (h.2.2.2.2.1), below_up (h.2.2.2.2.2) hu⟩) ⟨gBlk, (by first | assumption | (apply Blk.cell; exact gBlk; exact rfl)), (by first | assumption | (apply Blk.cell; exact gBlk; exact rfl)), (by first | assumption | (apply Blk.cell; exact gBlk; exact rfl)), (by first | assumption | (apply Blk.cell; exact gBlk; exact rfl)), gUp⟩ (fun wS hSS hSu => ?_)
 have ⟨hS1, hS2, hS3, hS4, hS5, hSB⟩ := hSS
 refine tkP 0 (some 5) hSu ?_
 refine tkT 1 (some 6) rfl hSu hSS ?_ (hy := fun w' hSw => by ((try dsimp only at hSw); (try obtain ⟨_, _, _, _, _, _⟩ := hSw); go_simp; (try exact rfl)))
 refine tkP 2 (some 7) hSu ?_
 refine tkT 3 (some 8) rfl hSu hSS ?_ (hy := fun w' hSw => by ((try dsimp only at hSw); (try obtain ⟨_, _, _, _, _, _⟩ := hSw); go_simp; (try exact rfl)))
 refine tkP 4 (some 9) hSu ?_
 refine tkP 5 (some 10) hSu ?_
 refine tkT 6 (some 11) rfl hSu hSS ?_ (hy := fun w' hSw => by ((try dsimp only at hSw); (try obtain ⟨_, _, _, _, _, _⟩ := hSw); go_simp; (try exact rfl)))
 refine tkP 7 (some 12) hSu ?_
 refine tkT 8 (some 13) rfl hSu hSS ?_ (hy := fun w' hSw => by ((try dsimp only at hSw); (try obtain ⟨_, _, _, _, _, _⟩ := hSw); go_simp; (try exact rfl)))
 refine wpAnyU_callE (i := 9) (d := (some 14)) rfl rfl (by kernel_rfl) (by rfl) hSu.out (fun w' => by go_simp) (fun w' hw' => times_am (hA.up (below_up hSB hw')) (hB.up (below_up hSB hw')) (by omega) (by omega)) fun vP wP hwP hRP => ?_
 try simp only [Act.put, pu1, pu2, pu3]
 obtain ⟨a1, c1, rfl⟩ := hRP.shape
 refine wpAnyU_callE (i := 10) (d := (some 15)) rfl rfl (by kernel_rfl) (by rfl) hSu.out (fun w' => by go_simp) (fun w' hw' => callE_of (made_any (!(p == q)) a1 (nl (X * Y)) c1 w')) fun vM wM hwM hRM => ?_
 try simp only [Act.put, pu1, pu2, pu3]
 subst hRM
 refine wpAnyU_one (i := 11) rfl (by kernel_rfl) (by rfl) fun w2 hw2 => ?_
 have gK := ((hS1.up hwP).up hwM).up hw2
 refine wp_stB rfl rfl rfl rfl gK rfl rfl (one2 _ _ _ _) ?_
 refine ⟨fun h => by simp at h, ?_⟩
 try simp only [Act.put, pu1, pu2, pu3]
 refine wpAnyU_done (by kernel_rfl) (fun wF huE => ?_) _
 have gR := (gK.setRow #[.bool ((!(p == q)) && decide (0 < nl (X * Y))), .slice a1 (nl (X * Y)) c1]).up huE
 have gA := (((hRP.up hwM).up hw2).setRow (D := #[.bool ((!(p == q)) && decide (0 < nl (X * Y))), .slice a1 (nl (X * Y)) c1]) gK).up huE
 have gB := below_up (below_setRow (below_up (below_up (below_up hSB hwP) hwM) hw2) (show w.heap.size <= w.heap.size + 1 + 1 by omega) #[.bool ((!(p == q)) && decide (0 < nl (X * Y))), .slice a1 (nl (X * Y)) c1]) huE
 have gBig := big_made (!(p == q)) gA
 clear gK hRP hwP hwM hw2 huE hS1 hS2 hS3 hS4 hS5 hSB hSS gA
 go_wp2
 exact bodyPost_ret (resB rfl rfl gR rfl) rfl ⟨gB, _, rfl, gBig⟩
theorem mul_big {x y : Int} {va vb : Value} {w : World} (ha : Big w va x) (hb : Big w vb y) (hx : nl x.natAbs < 50000) (hy : nl y.natAbs < 50000) :
   Calls Tryz.prog 41 #[va, vb] w fun e w' => Up w w' /\ ∃ v, e = .returned v /\ Big w' v (x * y) := by
 obtain ⟨a, ca, rfl, hA⟩ := ha
 obtain ⟨b, cb, rfl, hB⟩ := hb
 have h := mul_pm (decide (x < 0)) (decide (y < 0)) x.natAbs y.natAbs a b ca cb w hA hB hx hy
 rw [<- pm_int, <- pm_int] at h
 exact h
theorem row_one {w : World} {b X : Nat} (h : b = w.heap.size) : Row (w.alloc (.cells #[.int .u64 (X : Nat)] 40)) b 40 1 (fun _ => X) :=
 row_new _ 1 _ _ h (by unfold cells; rfl)
theorem am_one {w : World} {b X : Nat} (hX : X < 18446744073709551616) (h0 : 0 < X) (hR : Row w b 40 1 (fun _ => X)) : Am w (.slice (some ⟨b, 0, none⟩) 1 1) X /\ nl X = 1 := by
 have h := am_row (n := 1) (c := 1) hR (Nat.le_refl _) (Nat.le_refl _) (fun _ _ => hX)
 have e1 : sumL (fun _ => X) 1 = X := by rw [sumL_succ, sumL_zero, bp_zero]; omega
 have e2 : lenL (fun _ => X) 1 = 1 := by rw [lenL_succ, if_neg (by omega)]
 have e3 := nl_sum (S := fun _ => X) (n := 1) (fun _ _ => hX)
 rw [e1, e2] at h e3
 exact ⟨h, e3⟩
theorem of_big (v : Int) (h1 : -9223372036854775808 <= v) (h2 : v < 9223372036854775808) (w : World) :
   Calls Tryz.prog 19 #[.int .i64 v] w fun e w' => Up w w' /\ ∃ u, e = .returned u /\ Big w' u v := by
 obtain ⟨X, hX⟩ : ∃ X, X = v.natAbs := ⟨_, rfl⟩
 by_cases h0 : v < 0
 ·have d0 : decide (v < 0) = true := decide_eq_true h0
  have e1 : IntKind.i64.wrap (v + 1) = v + 1 := IntWalk.i64_in _ (by omega)
  have e2 : IntKind.i64.wrap (-(v + 1)) = -(v + 1) := IntWalk.i64_in _ (by omega)
  obtain ⟨Y, hY⟩ : ∃ Y : Nat, (Y : Int) = -(v + 1) := ⟨(-(v + 1)).toNat, by omega⟩
  have e3 : IntKind.u64.wrap (-(v + 1)) = (Y : Nat) := by rw [IntKind.wrap_u64]; omega
  have e4 : IntKind.u64.wrap ((Y : Int) + 1) = (X : Nat) := by rw [IntKind.wrap_u64]; omega
  have HM := hid (fun a n c w => made_any true a n c w)
  have HX := hid hX
  have HX64 := hid (show X < 18446744073709551616 /\ 0 < X by omega)
  clear hX hY
  go_enter Tryz.func19, Tryz.ntmps19
  go_wp2_with (first | ((with_reducible apply stB_P); exact rfl; exact rfl; exact gBlk; exact rfl; exact rfl; exact one2 _ _ _ _) | (go_at_call 30; (with_reducible refine (HM.out _ _ _ _).mono ?_); rintro e wM ⟨rfl, hu⟩))
  have hR : Row ((w.alloc (Obj.cells #[Value.bool false, Value.slice none 0 0] 44)).alloc (Obj.cells #[Value.int IntKind.u64 (X : Nat)] 40)) (w.heap.size + 1) 40 1 (fun _ => X) := row_one (by simp)
  have hA := am_one HX64.out.1 HX64.out.2 (hR.up hu)
  have hB := big_made true (hA.2.symm ▸ hA.1)
  have hv : pm true X = v := by have := HX.out; simp only [pm, if_true]; omega
  rw [hv, hA.2, show (true && decide (0 < 1)) = true from rfl] at hB
  have hK : Blk wM w.heap.size 44 #[.bool false, .slice none 0 0] := gBlk
  exact bodyPost_ret (resB rfl rfl (hK.setRow _) rfl) rfl ⟨gUp, _, rfl, hB.setRow hK⟩
 ·have d0 : decide (v < 0) = false := decide_eq_false h0
  have e3 : IntKind.u64.wrap v = (X : Nat) := by rw [IntKind.wrap_u64]; omega
  have HM := hid (fun a n c w => made_any false a n c w)
  have HX := hid hX
  have HX64 := hid (show X < 18446744073709551616 by omega)
  clear hX
  have eS : sumL (fun _ => X) 1 = X := by rw [sumL_succ, sumL_zero, bp_zero]; omega
  have eL : lenL (fun _ => X) 1 = nl X := by
   have e3 := nl_sum (S := fun _ => X) (n := 1) (fun _ _ => HX64.out)
   rw [eS] at e3
   exact e3.symm
  have hR : Row ((w.alloc (Obj.cells #[Value.bool false, Value.slice none 0 0] 44)).alloc (Obj.cells #[Value.int IntKind.u64 (X : Nat)] 40)) (w.heap.size + 1) 40 1 (fun _ => X) := row_one (by simp)
  have hT := trim_row (w.heap.size + 1) 1 1 1 (fun _ => X) _ hR (Nat.le_refl _) (Nat.le_refl _) (by decide)
  have hA := am_row (c := 1) hR (Nat.le_refl _) (Nat.le_refl _) (fun _ _ => HX64.out)
  rw [eL] at hT hA
  rw [eS] at hA
  have HT := hid hT
  have HA := hid hA
  clear hT hA hR eL eS
  go_enter Tryz.func19, Tryz.ntmps19
  go_wp2_with (first | ((with_reducible apply stB_P); exact rfl; exact rfl; exact gBlk; exact rfl; exact rfl; exact one2 _ _ _ _) | (go_at_call 30; (with_reducible refine (HM.out _ _ _ _).mono ?_); rintro e wM ⟨rfl, hu⟩) | (go_at_call 31; (with_reducible refine HT.out.mono ?_); rintro e wT ⟨rfl, hv⟩))
  have hB := big_made false ((HA.out.up hv).up hu)
  have hv' : pm false X = v := by have := HX.out; simp only [pm, Bool.false_eq_true, if_false]; omega
  rw [hv', Bool.false_and] at hB
  have hK : Blk wM w.heap.size 44 #[.bool false, .slice none 0 0] := gBlk
  exact bodyPost_ret (resB rfl rfl (hK.setRow _) rfl) rfl ⟨gUp, _, rfl, hB.setRow hK⟩
theorem nl_one {X : Nat} (h : nl X = 1) : X < 18446744073709551616 /\ 0 < X /\ limb X 0 = X := by
 have h1 := lt_bp_nl X
 rw [h, bp_succ, bp_zero] at h1
 have h2 := nl_pos_iff.1 (show 0 < nl X by omega)
 refine ⟨by omega, h2, ?_⟩
 rw [limb0, Nat.mod_eq_of_lt (by omega)]
theorem nl_two {X : Nat} (h : 1 < nl X) : 18446744073709551616 <= X := by
 have h1 := bp_le_nl (show 0 < nl X by omega)
 have h2 := bp_mono (show 1 <= nl X - 1 by omega)
 rw [bp_succ, bp_zero] at h2
 omega
set_option maxHeartbeats 1000000 in
theorem int64_big {z : Int} {v : Value} {w : World} (h : Big w v z) (hz : nl z.natAbs < 50000) :
   Calls Tryz.prog 39 #[v] w fun e w' => e = .returned (i64V z) /\ Up w w' := by
 obtain ⟨a, c, rfl, hA⟩ := h
 obtain ⟨a', c', he, hc, hcell⟩ := hA.open
 obtain ⟨rfl, -, rfl⟩ : a = a' /\ True /\ c = c' := by simpa using he
 clear he hA
 have hpm := pm_int z
 obtain ⟨p, hp⟩ : ∃ p, decide (z < 0) = p := ⟨_, rfl⟩
 obtain ⟨X, hX⟩ : ∃ X, z.natAbs = X := ⟨_, rfl⟩
 rw [hp, hX] at hpm
 rw [hp, hX]
 rw [hX] at hc hcell hz
 rw [hpm]
 clear hpm hp hX
 rcases Nat.lt_trichotomy (nl X) 1 with hn | hn | hn
 ·have h0 : nl X = 0 := by omega
  have hX0 : X = 0 := by
   rcases Nat.eq_zero_or_pos X with h | h
   ·exact h
   ·have := nl_pos h; omega
  have e : i64V (pm p X) = .tuple #[.int .i64 0, .bool true] := by
   subst hX0
   rw [i64V_yes (by cases p <;> simp [pm])]
   cases p <;> simp [pm]
  rw [e, h0]
  clear hcell e
  go_enter Tryz.func39, Tryz.ntmps39
  go_wp2
  go_ret2
  exact ⟨rfl, gUp⟩
 ·obtain ⟨h64, hpos, hl⟩ := nl_one hn
  obtain ⟨b, rfl, hb, hcb⟩ := hcell 0 (by omega)
  rw [hl] at hcb
  rw [hn] at hc ⊢
  clear hcell
  have hcW : ((w.alloc (Obj.cells #[Value.bool p, Value.slice (some { block := b, off := 0 }) 1 c] 44))).cell? ⟨b, 0, none⟩ = some (.int .u64 (X : Nat)) := hcb _ gUp
  clear hcb hl hn
  by_cases h1 : 9223372036854775808 < X
  ·have e : i64V (pm p X) = .tuple #[.int .i64 0, .bool false] := i64V_no (by cases p <;> simp only [pm, Bool.false_eq_true, if_false, if_true] <;> omega)
   rw [e]
   have d1 : decide ((9223372036854775808 : Int) < X) = true := decide_eq_true (by omega)
   clear e
   go_enter Tryz.func39, Tryz.ntmps39
   go_wp2
   go_ret2
   exact ⟨rfl, gUp⟩
  ·have d1 : decide ((9223372036854775808 : Int) < X) = false := decide_eq_false (by omega)
   cases p with
   | true =>
     have e : i64V (pm true X) = .tuple #[.int .i64 (-(X : Int)), .bool true] := i64V_yes (by simp only [pm, if_true]; omega)
     rw [e]
     obtain ⟨Y, hY⟩ : ∃ Y : Nat, Y = X - 1 := ⟨_, rfl⟩
     obtain ⟨Z, hZ⟩ : ∃ Z : Int, Z = -(X : Int) := ⟨_, rfl⟩
     have e1 : IntKind.u64.wrap ((X : Int) - 1) = (Y : Nat) := by rw [IntKind.wrap_u64]; omega
     have e2 : IntKind.i64.wrap (Y : Int) = (Y : Nat) := IntWalk.i64_in _ (by omega)
     have e3 : IntKind.i64.wrap (-(Y : Int)) = -(Y : Int) := IntWalk.i64_in _ (by omega)
     have e4 : IntKind.i64.wrap (-(Y : Int) - 1) = Z := by rw [IntKind.wrap_i64]; omega
     rw [<- hZ]
     have hY1 : Y < 9223372036854775808 := by omega
     clear e hY hZ
     go_enter Tryz.func39, Tryz.ntmps39
     go_wp2
     go_ret2
     exact ⟨rfl, gUp⟩
   | false =>
     by_cases h2 : X = 9223372036854775808
     ·subst h2
      have e : i64V (pm false 9223372036854775808) = .tuple #[.int .i64 0, .bool false] := i64V_no (by simp [pm])
      rw [e]
      clear e
      go_enter Tryz.func39, Tryz.ntmps39
      go_wp2
      go_ret2
      exact ⟨rfl, gUp⟩
     ·have e : i64V (pm false X) = .tuple #[.int .i64 (X : Nat), .bool true] := i64V_yes (by simp only [pm, Bool.false_eq_true, if_false]; omega)
      rw [e]
      have d2 : ((X : Int) == 9223372036854775808) = false := by simp; omega
      have e2 : IntKind.i64.wrap (X : Int) = (X : Nat) := IntWalk.i64_in _ (by omega)
      clear e
      go_enter Tryz.func39, Tryz.ntmps39
      go_wp2
      go_ret2
      exact ⟨rfl, gUp⟩
 ·have h2 := nl_two hn
  have e : i64V (pm p X) = .tuple #[.int .i64 0, .bool false] := i64V_no (by cases p <;> simp only [pm, Bool.false_eq_true, if_false, if_true] <;> omega)
  rw [e]
  clear hcell e
  generalize nl X = n at *
  have d1 : decide ((1 : Int) < (n : Nat)) = true := decide_eq_true (by omega)
  have d0 : ((n : Int) == 0) = false := by simp; omega
  go_enter Tryz.func39, Tryz.ntmps39
  go_wp2
  go_ret2
  exact ⟨rfl, gUp⟩
theorem over_step {x Q y r b L X q r' : Nat} (h : x = Q * y + r * (b * 18446744073709551616) + (L + X * b)) (hq : y * q + r' = 18446744073709551616 * r + X) : x = (Q + q * b) * y + r' * b + L := by
 have h2 : (y * q + r') * b = (18446744073709551616 * r + X) * b := by rw [hq]
 have h3 : (Q + q * b) * y + r' * b = Q * y + (y * q + r') * b := by grind
 have h4 : (18446744073709551616 * r + X) * b = r * (b * 18446744073709551616) + X * b := by grind
 rw [h, h3, h2, h4]
 omega
set_option maxHeartbeats 2000000 in
theorem over_am {x y : Nat} {va vb : Value} {w : World} (ha : Am w va x) (hb : Am w vb y) (hx : nl x < 100000) (hy : nl y = 1) :
   Calls Tryz.prog 75 #[va, vb] w fun e w' => Up w w' /\ ∃ a n c b m d, e = .returned (.tuple #[.slice a n c, .slice b m d]) /\ Am w' (.slice a n c) (x / y) /\ Am w' (.slice b m d) (x % y) := by
 obtain ⟨a, ca, rfl, hca1, hca0⟩ := ha.open
 obtain ⟨b, cb, rfl, hcb1, hcb0⟩ := hb.open
 obtain ⟨hy64, hy0, hyl⟩ := nl_one hy
 have HC := hid (fun w' (h : Up w w') => cmp_am (ha.up h) (hb.up h) (by omega) (by omega))
 by_cases hlt : x < y
 ·have hA := hid ha
  have e1 : x / y = 0 := Nat.div_eq_of_lt hlt
  have e2 : x % y = x := Nat.mod_eq_of_lt hlt
  have d1 : decide (ordZ x y < 0) = true := by unfold ordZ; rw [if_pos hlt]; rfl
  rw [e1, e2]
  rw [hy] at HC hcb1 ⊢
  clear ha hb e1 e2 hca0 hcb0 hy
  go_enter Tryz.func75, Tryz.ntmps75
  go_wp2_with (first | (go_at_call 28; (with_reducible refine (HC.out _ gUp).mono ?_); rintro e wC ⟨rfl, huC⟩))
  go_ret2
  exact ⟨gUp, _, _, _, _, _, _, rfl, am_nil _, hA.out.up huC⟩
 ·have d1 : decide (ordZ x y < 0) = false := by
   unfold ordZ
   rw [if_neg hlt]
   split <;> simp
  obtain ⟨bb, rfl, hbb, hcb⟩ := hcb0 0 (by omega)
  rw [hyl] at hcb
  rw [hy] at HC hcb1 ⊢
  have hsx := sum_nl x
  have hn0 : 0 < nl x := nl_pos (by omega)
  have HSX := hid hsx
  have HXA := hid (nl_le (x := x) (k := nl x) (lt_bp_nl x))
  clear ha hb hsx hcb0 HXA hy
  generalize nl x = n at *
  go_enter Tryz.func75, Tryz.ntmps75
  go_wp2_with (first | (go_at_call 28; (with_reducible refine (HC.out _ gUp).mono ?_); rintro e wC ⟨rfl, huC⟩) | ((with_reducible apply mkP (n := n)); exact rfl; (first | rfl | omega); omega))
  have hsC := huC.size
  go_loopw [8, 9] (fun tr ti wr => ∃ (m r : Nat) (S : Nat -> Nat), m <= n /\ ti = .int .i64 ((m : Int) - 1) /\ tr = .int .u64 (r : Nat) /\ r < y /\ (∀ j, j < n -> S j < 18446744073709551616) /\ (∀ j, j < m -> S j = 0) /\ x = sumL S n * y + r * bp m + sumL (limb x) m /\
     Row wr wC.heap.size 40 n S /\ Below w.heap.size w wr)
   (fun _ ti _ => (intOf ti + 1).toNat)
  case atStart => exact ⟨n, 0, fun _ => 0, Nat.le_refl _, rfl, rfl, hy0, fun _ _ => by simp, fun _ _ => rfl, by rw [sumL_zeros, HSX.out]; omega, gRow, gUp⟩
  case round =>
   obtain ⟨m, r, S, hm, rfl, rfl, hr, hSb, hz, hsum, hS, hB⟩ := hrel
   have HSb := hid hSb
   have Hz := hid hz
   have Hsum := hid hsum
   clear hSb hz hsum
   by_cases hlt : 0 < m
   ·obtain ⟨k, rfl⟩ : ∃ k, m = k + 1 := ⟨m - 1, by omega⟩
    have e : (((k + 1 : Nat) : Int) - 1) = (k : Int) := by omega
    rw [e]
    clear e
    obtain ⟨ba, rfl, hba, hca⟩ := hca0 k (by omega)
    have hcx := hca _ hB
    have hcy := hcb _ hB
    have hlx := limb_lt x k
    have hkn : k < n := by omega
    obtain ⟨q, eq⟩ : ∃ q, q = (18446744073709551616 * r + limb x k) / y := ⟨_, rfl⟩
    obtain ⟨r', er⟩ : ∃ r', r' = (18446744073709551616 * r + limb x k) % y := ⟨_, rfl⟩
    have hD := div64_any r (limb x k) y hy64 hlx hr
    rw [<- eq, <- er] at hD
    have HD := hid hD
    have hq : q < 18446744073709551616 := by rw [eq]; exact short_q hr hlx
    have hr' : r' < y := by rw [er]; exact Nat.mod_lt _ hy0
    have HQR : Hid (y * q + r' = 18446744073709551616 * r + limb x k) := hid (by rw [eq, er]; exact Nat.div_add_mod _ _)
    clear eq er hD
    go_wp2
    refine opU (S := (fun wq => Row wq wC.heap.size 40 n S /\ wq.cell? ⟨ba, k, none⟩ = some (.int .u64 (limb x k : Nat)) /\ wq.cell? ⟨bb, 0, none⟩ = some (.int .u64 (y : Nat)) /\ Below w.heap.size w wq)) (req := (fun j => j != 15)) (fun _ _ h hu => ⟨(h.1).up hu, hu.cell (h.2.1), hu.cell (h.2.2.1), below_up (h.2.2.2) hu⟩) ⟨gRow, (by first | assumption | (apply Blk.cell; exact gBlk; exact rfl)), (by first | assumption | (apply Blk.cell; exact gBlk; exact rfl)), gUp⟩ (fun wS hSS hSu => ?_)
    have ⟨hS1, hS2, hS3, hSB⟩ := hSS
    clear hcx hcy hS hB
    refine tkP 0 (some 44) hSu ?_
    refine tkP 1 (some 45) hSu ?_
    refine tkP 2 (some 46) hSu ?_
    refine tkP 3 (some 47) hSu ?_
    refine tkP 4 (some 48) hSu ?_
    refine tkP 5 (some 49) hSu ?_
    refine tkT 6 (some 50) rfl hSu hSS ?_ (hy := fun w' hSw => by ((try dsimp only at hSw); (try obtain ⟨_, _, _, _⟩ := hSw); go_simp; (try exact rfl)))
    refine tkP 7 (some 51) hSu ?_
    refine tkP 8 (some 52) hSu ?_
    refine tkT 9 (some 53) rfl hSu hSS ?_ (hy := fun w' hSw => by ((try dsimp only at hSw); (try obtain ⟨_, _, _, _⟩ := hSw); go_simp; (try exact rfl)))
    refine tkC 10 (some 54) rfl hSu hSS ?_ (hy := fun w' hSw => (HD.out _))
    refine tkP 11 (some 43) hSu ?_
    refine tkP 12 (some 55) hSu ?_
    refine tkP 13 (some 56) hSu ?_
    refine tkP 14 (some 57) hSu ?_
    refine wpAnyU_one (i := 15) rfl (by kernel_rfl) (by rfl) fun w1 hw1 => ?_
    have hcW := (hS1.up hw1).cell k (by omega)
    have hfW := (hS1.up hw1).frozen k
    go_simp
    clear hcW hfW
    refine tkP 16 (some 8) hSu ?_
    refine wpAnyU_done (by kernel_rfl) (fun wF huE => ?_) _
    have gS := ((hS1.up hw1).set k q).up huE
    have gB := below_up ((below_up hSB hw1).setCell (p := ⟨wC.heap.size, k, none⟩) (show w.heap.size <= wC.heap.size by omega) (.int .u64 (q : Nat))) huE
    clear hS1 hS2 hS3 hSB hSS hw1 huE
    go_wp2
    go_roundw
    case rel =>
     refine ⟨k, r', upd S k q, by omega, by go_num, rfl, hr', upd_lt HSb.out hq, fun j hj => by rw [upd_other _ _ _ (by omega)]; exact Hz.out j (by omega), ?_, gS, gB⟩
     have h1 := sumL_upd S q (show k < n by omega)
     rw [Hz.out k (by omega), Nat.zero_mul, Nat.add_zero] at h1
     have h2 := Hsum.out
     rw [bp_succ, sumL_succ (limb x) k] at h2
     rw [h1]
     exact over_step h2 HQR.out
    case measure => simp [intOf] <;> omega
   ·obtain rfl : m = 0 := by omega
    have hfin := Hsum.out
    rw [bp_zero, sumL_zero, Nat.mul_one, Nat.add_zero] at hfin
    have e1 : x / y = sumL S n := by rw [hfin, Nat.mul_comm, Nat.mul_add_div hy0, Nat.div_eq_of_lt hr, Nat.add_zero]
    have e2 : x % y = r := by rw [hfin, Nat.mul_comm, Nat.mul_add_mod, Nat.mod_eq_of_lt hr]
    have ht := fun w' (h : Row w' wC.heap.size 40 n S) => trim_row wC.heap.size n n n S w' h (Nat.le_refl _) (Nat.le_refl _) (by omega)
    have hres := am_row (c := n) hS (Nat.le_refl _) (Nat.le_refl _) HSb.out
    rw [<- e1] at hres
    have hr64 : ∀ i, i < 1 -> (fun _ => r) i < 18446744073709551616 := fun _ _ => by show r < 18446744073709551616; omega
    have eR : sumL (fun _ => r) 1 = r := by rw [sumL_succ, sumL_zero, bp_zero]; omega
    have ht2 := fun w' b (h : Row w' b 40 1 (fun _ => r)) => trim_row b 1 1 1 (fun _ => r) w' h (Nat.le_refl _) (Nat.le_refl _) (by decide)
    have hres2 : ∀ w' b, Row w' b 40 1 (fun _ => r) -> Am w' (.slice (some ⟨b, 0, none⟩) (lenL (fun _ => r) 1) 1) (x % y) := fun w' b h => by
     have := am_row (c := 1) h (Nat.le_refl _) (Nat.le_refl _) hr64
     rw [eR] at this
     rw [e2]
     exact this
    have HT := hid ht
    have HT2 := hid ht2
    have HA := hid hres
    have HA2 := hid hres2
    clear ht hres hfin e1 e2 HSb Hsum Hz ht2 hres2 hr64 eR
    go_wp2_with (first | (go_at_call 31; (first | ((with_reducible refine (HT.out _ gRow).mono ?_); rintro e wT ⟨rfl, huT⟩) | ((with_reducible refine (HT2.out _ _ (row_one (by simp))).mono ?_); rintro e wV ⟨rfl, huV⟩))))
    go_ret2
    exact ⟨below_up (bl_alloc (below_up hB huT).size (below_up hB huT)) huV, _, _, _, _, _, _, rfl, ((HA.out.up huT).up (Up.alloc _ _)).up huV, (HA2.out _ _ (row_one rfl)).up huV⟩
theorem resBB {fn : Func} {p q : Tmp} (h : fn.results = #[.cell p 44, .cell q 44]) {tmps : Array Value} {w : World} {g k : Nat} {C D : Array Value} (hp : tmps.getD p undef = .pointer (some ⟨g, 0, none⟩)) (hq : tmps.getD q undef = .pointer (some ⟨k, 0, none⟩))
   (hC : Blk w g 44 C) (hD : Blk w k 44 D) (h2 : C.size = 2) (h3 : D.size = 2) : (results fn tmps).run Tryz.prog w = .ok (.tuple #[.agg C, .agg D]) w := by
 obtain ⟨fs, hu⟩ := undB
 have hp' : tmps[p]?.getD undef = .pointer (some ⟨g, 0, none⟩) := by simpa using hp
 have hq' : tmps[q]?.getD undef = .pointer (some ⟨k, 0, none⟩) := by simpa using hq
 simp [results, h, hp', hq', asAddr, run_loadVar_row w g _ 44 C (0, 0) _ hC hu rfl (by rw [infoB, h2]), run_loadVar_row w k _ 44 D (0, 0) _ hD hu rfl (by rw [infoB, h3])]
theorem pm_quo (p q : Bool) (X Y : Nat) : (pm p X).tdiv (pm q Y) = pm (p != q) (X / Y) := by
 cases p <;> cases q <;> simp [pm, Int.neg_tdiv, Int.tdiv_neg]
theorem pm_rest (p q : Bool) (X Y : Nat) : (pm p X).tmod (pm q Y) = pm p (X % Y) := by
 cases p <;> cases q <;> simp [pm, Int.neg_tmod, Int.tmod_neg] <;> exact Int.tmod_eq_emod_of_nonneg (by omega)
set_option maxHeartbeats 1000000 in
theorem div_pm (p q : Bool) (X Y : Nat) (a b : Option Addr) (ca cb : Nat) (w : World) (hA : Am w (.slice a (nl X) ca) X) (hB : Am w (.slice b (nl Y) cb) Y) (hx : nl X < 50000) (hy : nl Y = 1) :
   Calls Tryz.prog 61 #[.agg #[.bool p, .slice a (nl X) ca], .agg #[.bool q, .slice b (nl Y) cb]] w fun e w' => Up w w' /\ ∃ b1 a1 n1 c1 b2 a2 n2 c2, e = .returned (.tuple #[.agg #[.bool b1, .slice a1 n1 c1], .agg #[.bool b2, .slice a2 n2 c2]]) /\ Big w' (.agg #[.bool b1, .slice a1 n1 c1]) ((pm p X).tdiv (pm q Y)) /\ Big w' (.agg #[.bool b2, .slice a2 n2 c2]) ((pm p X).tmod (pm q Y)) := by
 rw [pm_quo, pm_rest]
 have HO := hid (fun w' (h : Up w w') => over_am (hA.up h) (hB.up h) (by omega) hy)
 rw [hy] at HO ⊢
 clear hy hA hB
 generalize nl X = n at *
 go_enter Tryz.func61, Tryz.ntmps61
 go_wp2_with (first | (go_at_call 75; (with_reducible refine (HO.out _ gUp).mono ?_); rintro e wO ⟨huO, a1, n1, c1, a2, n2, c2, rfl, hQ, hR⟩))
 obtain ⟨a1', c1', he1⟩ := hQ.shape
 obtain ⟨rfl, rfl, rfl⟩ : a1 = a1' /\ n1 = nl (X / Y) /\ c1 = c1' := by simpa using he1
 obtain ⟨a2', c2', he2⟩ := hR.shape
 obtain ⟨rfl, rfl, rfl⟩ : a2 = a2' /\ n2 = nl (X % Y) /\ c2 = c2' := by simpa using he2
 clear he1 he2
 refine opU (S := (fun wq => Blk wq (w.heap.size + 1 + 1) 44 #[.bool false, .slice none 0 0] /\ Blk wq (w.heap.size + 1 + 1 + 1) 44 #[.bool false, .slice none 0 0] /\ wq.cell? ⟨w.heap.size, 0, none⟩ = some (.bool p) /\ wq.cell? ⟨w.heap.size + 1, 0, none⟩ = some (.bool q) /\ Am wq (.slice a1 (nl (X / Y)) c1) (X / Y) /\ Am wq (.slice a2 (nl (X % Y)) c2) (X % Y) /\ Below w.heap.size w wq)) (req := (fun j => j != 11 && j != 12)) (fun _ _ h hu => ⟨(h.1).up hu, (h.2.1).up hu, hu.cell (h.2.2.1), hu.cell (h.2.2.2.1), (h.2.2.2.2.1).up hu, (h.2.2.2.2.2.1).up hu, below_up (h.2.2.2.2.2.2) hu⟩) ⟨gBlk, gBlk, (by first | assumption | (apply Blk.cell; exact gBlk; exact rfl)), (by first | assumption | (apply Blk.cell; exact gBlk; exact rfl)), (by (repeat (first | assumption | ((with_reducible apply am_set); exact gBlk) | (with_reducible apply am_alloc) | ((with_reducible apply am_up); assumption))); done), (by (repeat (first | assumption | ((with_reducible apply am_set); exact gBlk) | (with_reducible apply am_alloc) | ((with_reducible apply am_up); assumption))); done), gUp⟩ (fun wS hSS hSu => ?_)
 have ⟨hS1, hS2, hS3, hS4, hS5, hS6, hSB⟩ := hSS
 refine tkP 0 (some 16) hSu ?_
 refine tkT 1 (some 17) rfl hSu hSS ?_ (hy := fun w' hSw => by ((try dsimp only at hSw); (try obtain ⟨_, _, _, _, _, _, _⟩ := hSw); go_simp; (try exact rfl)))
 refine tkP 2 (some 18) hSu ?_
 refine tkT 3 (some 19) rfl hSu hSS ?_ (hy := fun w' hSw => by ((try dsimp only at hSw); (try obtain ⟨_, _, _, _, _, _, _⟩ := hSw); go_simp; (try exact rfl)))
 refine tkP 4 (some 20) hSu ?_
 refine tkP 5 (some 21) hSu ?_
 refine tkC 6 (some 22) rfl hSu hSS ?_ (hy := fun w' hSw => (made_any (!(p == q)) a1 (nl (X / Y)) c1 w'))
 refine tkP 7 (some 23) hSu ?_
 refine tkT 8 (some 24) rfl hSu hSS ?_ (hy := fun w' hSw => by ((try dsimp only at hSw); (try obtain ⟨_, _, _, _, _, _, _⟩ := hSw); go_simp; (try exact rfl)))
 refine tkP 9 (some 25) hSu ?_
 refine tkC 10 (some 26) rfl hSu hSS ?_ (hy := fun w' hSw => (made_any p a2 (nl (X % Y)) c2 w'))
 refine wpAnyU_one (i := 11) rfl (by kernel_rfl) (by rfl) fun w2 hw2 => ?_
 have k1 := hS1.up hw2
 refine wp_stB rfl rfl rfl rfl k1 rfl rfl (one2 _ _ _ _) ?_
 refine ⟨fun h => by simp at h, ?_⟩
 try simp only [Act.put, pu1]
 refine wpAnyU_one (i := 12) rfl (by kernel_rfl) (by rfl) fun w3 hw3 => ?_
 have k2 := ((hS2.up hw2).row_other (#[.bool (!(p == q) && decide (0 < nl (X / Y))), .slice a1 (nl (X / Y)) c1]) (show w.heap.size + 1 + 1 + 1 ≠ w.heap.size + 1 + 1 by omega)).up hw3
 refine wp_stB rfl rfl rfl rfl k2 rfl rfl (one2 _ _ _ _) ?_
 refine ⟨fun h => by simp at h, ?_⟩
 try simp only [Act.put, pu1]
 refine wpAnyU_done (by kernel_rfl) (fun wF huE => ?_) _
 have j1 := ((k1.setRow (#[.bool (!(p == q) && decide (0 < nl (X / Y))), .slice a1 (nl (X / Y)) c1])).up hw3).row_other (#[.bool (p && decide (0 < nl (X % Y))), .slice a2 (nl (X % Y)) c2]) (show w.heap.size + 1 + 1 ≠ w.heap.size + 1 + 1 + 1 by omega)
 have j2 := k2.setRow (#[.bool (p && decide (0 < nl (X % Y))), .slice a2 (nl (X % Y)) c2])
 have gQ := big_made (!(p == q)) (((((hS5.up hw2).setRow (D := (#[.bool (!(p == q) && decide (0 < nl (X / Y))), .slice a1 (nl (X / Y)) c1])) k1).up hw3).setRow (D := (#[.bool (p && decide (0 < nl (X % Y))), .slice a2 (nl (X % Y)) c2])) k2).up huE)
 have gR := big_made p (((((hS6.up hw2).setRow (D := (#[.bool (!(p == q) && decide (0 < nl (X / Y))), .slice a1 (nl (X / Y)) c1])) k1).up hw3).setRow (D := (#[.bool (p && decide (0 < nl (X % Y))), .slice a2 (nl (X % Y)) c2])) k2).up huE)
 have gB := below_up (below_setRow (below_up (below_setRow (below_up hSB hw2) (show w.heap.size <= w.heap.size + 1 + 1 by omega) (#[.bool (!(p == q) && decide (0 < nl (X / Y))), .slice a1 (nl (X / Y)) c1])) hw3) (show w.heap.size <= w.heap.size + 1 + 1 + 1 by omega) (#[.bool (p && decide (0 < nl (X % Y))), .slice a2 (nl (X % Y)) c2])) huE
 have j1' := j1.up huE
 have j2' := j2.up huE
 clear k1 k2 j1 j2 hS1 hS2 hS3 hS4 hS5 hS6 hSB hSS hw2 hw3 huE hQ hR
 go_wp2
 exact bodyPost_ret (resBB rfl rfl rfl j1' j2' rfl rfl) rfl ⟨gB, _, _, _, _, _, _, _, _, rfl, gQ, gR⟩
theorem big_set {w : World} {v : Value} {z : Int} {g : Nat} {C D : Array Value} (hg : Blk w g 44 C) (h : Big w v z) : Big (w.setRow g D) v z := h.setRow hg
theorem big_alloc {w : World} {v : Value} {z : Int} {o : Obj} (h : Big w v z) : Big (w.alloc o) v z := h.up (Up.alloc _ _)
theorem big_up {w w' : World} {v : Value} {z : Int} (hu : Up w w') (h : Big w v z) : Big w' v z := h.up hu
theorem small_nl {x : Int} (h1 : -9223372036854775808 <= x) (h2 : x <= 9223372036854775808) : nl x.natAbs < 50000 := by
 have := nl_le (x := x.natAbs) (k := 1) (by rw [bp_succ, bp_zero]; omega)
 omega
theorem small_nl2 {x : Int} (h1 : -85070591730234615865843651857942052864 <= x) (h2 : x <= 85070591730234615865843651857942052864) : nl x.natAbs < 50000 := by
 have := nl_le (x := x.natAbs) (k := 2) (by rw [bp_succ, bp_succ, bp_zero]; omega)
 omega
end Go.Proofs.YthnjmgoininkoaaGreatDoor
