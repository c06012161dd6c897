import Derived.Test.YthnjmgoininkoaaDoorPb
import Derived.DataShut
import Derived.Test.YthnjmgoininkoaaDoorRows
import Derived.Test.YthnjmgoininkoaaDoorTie
import Derived.ChangeSame
import Derived.ChangeVars
import Derived.JoinedOf
import Derived.RowKit
import Derived.RowKitTokens
import Derived.LaidLaws
import Derived.LaidHandle
import Derived.Stop.Joined
import Derived.ChangeMaps5
import Derived.SevenTiedAt
namespace Go.Proofs.YthnjmgoininkoaaDoor
open Go Go.RowKit
set_option maxRecDepth 100000
def nv (a b c : Int) : Int := (2 * (a * b) + c) / (2 * c)
def btw (v l m : Int) : Bool := decide (l <= v) && decide (v <= m)
theorem between_any (v l m : Int) (w : World) :
   Calls Tryd.prog 12 #[.int .i64 v, .int .i64 l, .int .i64 m] w fun e w' => e = .returned (.bool (btw v l m)) /\ Up w w' := by
 unfold btw
 obtain ⟨p, hp⟩ : ∃ p, decide (l <= v) = p := ⟨_, rfl⟩
 obtain ⟨q, hq⟩ : ∃ q, decide (v <= m) = q := ⟨_, rfl⟩
 rw [hp, hq]
 cases p
 all_goals
  go_enter Tryd.func12, Tryd.ntmps12
  go_wp2
  go_ret
  exact ⟨rfl, gUp⟩
theorem nv_bound {a b c M : Int} (hc : 0 < c) (h1 : -M <= a * b) (h2 : a * b <= M) : -M <= nv a b c /\ nv a b c <= M + 1 := by
 unfold nv
 generalize a * b = p at *
 have e1 := Int.ediv_mul_add_emod (2 * p + c) (2 * c)
 have e2 := Int.emod_nonneg (2 * p + c) (show 2 * c ≠ 0 by omega)
 have e3 := Int.emod_lt_of_pos (2 * p + c) (show 0 < 2 * c by omega)
 generalize (2 * p + c) / (2 * c) = q at *
 generalize (2 * p + c) % (2 * c) = r at *
 constructor
 ·rcases Int.lt_or_le q (-M) with hq | hq
  ·have h7 : (q + 1) * (2 * c) <= (q + 1) * 2 := Int.mul_le_mul_of_nonpos_left (by omega) (by omega)
   rw [Int.add_mul, Int.one_mul] at h7
   omega
  ·exact hq
 ·rcases Int.lt_or_le (M + 1) q with hq | hq
  ·have h6 : (q - 1) * 2 <= (q - 1) * (2 * c) := Int.mul_le_mul_of_nonneg_left (by omega) (by omega)
   rw [Int.sub_mul q 1 (2 * c), Int.one_mul] at h6
   omega
  ·exact hq
theorem part_any (a b c : Int) (a1 : -9223372036854775808 <= a) (a2 : a < 9223372036854775808) (b1 : -9223372036854775808 <= b) (b2 : b < 9223372036854775808) (c1 : 0 < c) (c2 : c < 9223372036854775808) (p1 : -1000000000000000000 <= a * b) (p2 : a * b <= 1000000000000000000) (w : World) :
   Calls Tryd.prog 15 #[.int .i64 a, .int .i64 b, .int .i64 c] w fun e w' => e = .returned (.int .i64 (nv a b c)) /\ Up w w' := by
 have hb := nv_bound c1 p1 p2
 have H := fun w => fx_muldiv a b c a1 a2 b1 b2 (by omega) c2 w
 rw [show nearV a b c = .tuple #[.int .i64 (nv a b c), .bool true] from by unfold nearV; rw [if_pos c1]; exact i64V_yes (by unfold nv at hb; omega)] at H
 have HM := hid H
 obtain ⟨z, hz⟩ : ∃ z, nv a b c = z := ⟨_, rfl⟩
 rw [hz] at HM ⊢
 clear H hb hz a1 a2 b1 b2 c1 c2 p1 p2
 go_enter Tryd.func15, Tryd.ntmps15
 go_wp2_with (first | (go_at_call 22; refine (HM.out _).mono ?_; rintro e w' ⟨rfl, hu⟩))
 go_ret
 exact ⟨rfl, gUp⟩
def soundB : ByteArray := ⟨#[115, 111, 117, 110, 100]⟩
theorem units_any (w : World) :
   Calls Tryd.prog 13 #[] w fun r w' => ∃ u, r = .returned u /\ Up w w' /\ ErrsG soundB w' u 27 := by
 have HW := hid (fun w => wrap_any (op := { data := #[115, 111, 117, 110, 100] }) (v := .iface 43 (.int .i64 27)) (e := .num 27) (w := w) rfl)
 go_enter Tryd.func13, Tryd.ntmps13
 go_wp2_with (first | (go_at_call 20; (with_reducible refine (HW.out _).mono ?_); rintro r w1 ⟨u1, rfl, hu1, h1⟩))
 go_ret
 obtain ⟨t, u, rfl⟩ := h1.iface
 exact ⟨_, rfl, hu1, .inr ⟨by decide, t, u, rfl, h1⟩⟩
def ToldE (B : ByteArray) (x : Int) (n : Int) (w : World) (r : Ending) (w' : World) : Prop := ∃ u, r = .returned (.tuple #[.int .i64 x, u]) /\ Up w w' /\ ErrsG B w' u n
def spOK (t s z : Int) : Bool := btw t (-500) 4500 && (btw s 0 4500 && btw z 0 1000000)
def spV (t s z : Int) : Int := if spOK t s z then 1449200 + 46 * t - nv (t * t) 55 10000 + nv (t * t * t) 29 100000000 + nv (13400 - t) (s - 3500) 1000 + nv 16 z 1000 else 0
def spC (t s z : Int) : Int := if spOK t s z then 0 else 27
theorem btw_ok {v l m : Int} (h : btw v l m = true) : l <= v /\ v <= m := by unfold btw at h; simpa using h
theorem mul_bd {a b A B : Int} (h1 : -A <= a) (h2 : a <= A) (h3 : -B <= b) (h4 : b <= B) : -(A * B) <= a * b /\ a * b <= A * B := by
 have h : (a * b).natAbs <= A.natAbs * B.natAbs := by rw [Int.natAbs_mul]; exact Nat.mul_le_mul (by omega) (by omega)
 have h' : (A * B).natAbs = A.natAbs * B.natAbs := Int.natAbs_mul A B
 have h0 : 0 <= A * B := Int.mul_nonneg (by omega) (by omega)
 omega
set_option maxHeartbeats 4000000 in
theorem speed_any (t s z : Int) (w : World) : Calls Tryd.prog 9 #[.int .i64 t, .int .i64 s, .int .i64 z] w (ToldE soundB (spV t s z) (spC t s z) w) := by
 have HB1 := hid (fun w => between_any t (-500) 4500 w)
 have HB2 := hid (fun w => between_any s 0 4500 w)
 have HB3 := hid (fun w => between_any z 0 1000000 w)
 have HE := hid (fun w => units_any w)
 have HV : Hid (spV t s z = if (btw t (-500) 4500 && (btw s 0 4500 && btw z 0 1000000)) then 1449200 + 46 * t - nv (t * t) 55 10000 + nv (t * t * t) 29 100000000 + nv (13400 - t) (s - 3500) 1000 + nv 16 z 1000 else 0) := hid rfl
 have HC : Hid (spC t s z = if (btw t (-500) 4500 && (btw s 0 4500 && btw z 0 1000000)) then 0 else 27) := hid rfl
 have o1 : btw t (-500) 4500 = true -> -500 <= t /\ t <= 4500 := btw_ok
 have o2 : btw s 0 4500 = true -> 0 <= s /\ s <= 4500 := btw_ok
 have o3 : btw z 0 1000000 = true -> 0 <= z /\ z <= 1000000 := btw_ok
 obtain ⟨x, hx⟩ : ∃ x, spV t s z = x := ⟨_, rfl⟩
 obtain ⟨c, hc⟩ : ∃ c, spC t s z = c := ⟨_, rfl⟩
 rw [hx] at HV ⊢
 rw [hc] at HC ⊢
 obtain ⟨p1, h1⟩ : ∃ p, btw t (-500) 4500 = p := ⟨_, rfl⟩
 obtain ⟨p2, h2⟩ : ∃ p, btw s 0 4500 = p := ⟨_, rfl⟩
 obtain ⟨p3, h3⟩ : ∃ p, btw z 0 1000000 = p := ⟨_, rfl⟩
 rw [h1] at HB1 o1 HV HC
 rw [h2] at HB2 o2 HV HC
 rw [h3] at HB3 o3 HV HC
 clear hx hc h1 h2 h3
 by_cases hp : (p1 && (p2 && p3)) = true
 ·obtain ⟨rfl, rfl, rfl⟩ : p1 = true /\ p2 = true /\ p3 = true := by cases p1 <;> cases p2 <;> cases p3 <;> simp at hp ⊢
  obtain ⟨t1, t2⟩ := o1 rfl
  obtain ⟨s1, s2⟩ := o2 rfl
  obtain ⟨z1, z2⟩ := o3 rfl
  have hV := HV.out
  rw [if_pos hp] at hV
  obtain rfl : c = 0 := by rw [HC.out, if_pos hp]
  have q1 := mul_bd (a := t) (b := t) (A := 4500) (B := 4500) (by omega) (by omega) (by omega) (by omega)
  have q2 := mul_bd (a := t * t) (b := t) (A := 20250000) (B := 4500) (by omega) (by omega) (by omega) (by omega)
  have q3 := mul_bd (a := t * t) (b := 55) (A := 20250000) (B := 55) (by omega) (by omega) (by omega) (by omega)
  have q4 := mul_bd (a := t * t * t) (b := 29) (A := 91125000000) (B := 29) (by omega) (by omega) (by omega) (by omega)
  have q5 := mul_bd (a := 13400 - t) (b := s - 3500) (A := 13900) (B := 3500) (by omega) (by omega) (by omega) (by omega)
  have q6 := mul_bd (a := 16) (b := z) (A := 16) (B := 1000000) (by omega) (by omega) (by omega) (by omega)
  have n1 := nv_bound (c := 10000) (M := 1113750000) (by omega) (by omega) (by omega : t * t * 55 <= _)
  have n2 := nv_bound (c := 100000000) (M := 2642625000000) (by omega) (by omega) (by omega : t * t * t * 29 <= _)
  have n3 := nv_bound (c := 1000) (M := 48650000) (by omega) (by omega) (by omega : (13400 - t) * (s - 3500) <= _)
  have n4 := nv_bound (c := 1000) (M := 16000000) (by omega) (by omega) (by omega : 16 * z <= _)
  have HP1 := hid (fun w => part_any (t * t) 55 10000 (by omega) (by omega) (by omega) (by omega) (by omega) (by omega) (by omega) (by omega) w)
  have HP2 := hid (fun w => part_any (t * t * t) 29 100000000 (by omega) (by omega) (by omega) (by omega) (by omega) (by omega) (by omega) (by omega) w)
  have HP3 := hid (fun w => part_any (13400 - t) (s - 3500) 1000 (by omega) (by omega) (by omega) (by omega) (by omega) (by omega) (by omega) (by omega) w)
  have HP4 := hid (fun w => part_any 16 z 1000 (by omega) (by omega) (by omega) (by omega) (by omega) (by omega) (by omega) (by omega) w)
  have e1 : IntKind.i64.wrap (46 * t) = 46 * t := IntWalk.i64_in _ (by omega)
  have e2 : IntKind.i64.wrap (t * t) = t * t := IntWalk.i64_in _ (by omega)
  have e3 : IntKind.i64.wrap (t * t * t) = t * t * t := IntWalk.i64_in _ (by omega)
  have e4 : IntKind.i64.wrap (13400 - t) = 13400 - t := IntWalk.i64_in _ (by omega)
  have e5 : IntKind.i64.wrap (s - 3500) = s - 3500 := IntWalk.i64_in _ (by omega)
  generalize nv (t * t) 55 10000 = N1 at *
  generalize nv (t * t * t) 29 100000000 = N2 at *
  generalize nv (13400 - t) (s - 3500) 1000 = N3 at *
  generalize nv 16 z 1000 = N4 at *
  have f1 : IntKind.i64.wrap (46 * t - N1) = 46 * t - N1 := IntWalk.i64_in _ (by omega)
  have f2 : IntKind.i64.wrap (46 * t - N1 + N2) = 46 * t - N1 + N2 := IntWalk.i64_in _ (by omega)
  have f3 : IntKind.i64.wrap (1449200 + (46 * t - N1 + N2)) = 1449200 + (46 * t - N1 + N2) := IntWalk.i64_in _ (by omega)
  have f4 : IntKind.i64.wrap (1449200 + (46 * t - N1 + N2) + N3) = 1449200 + (46 * t - N1 + N2) + N3 := IntWalk.i64_in _ (by omega)
  have f5 : IntKind.i64.wrap (1449200 + (46 * t - N1 + N2) + N3 + N4) = x := by rw [IntWalk.i64_in _ (by omega)]; omega
  clear q1 q2 q3 q4 q5 q6 n1 n2 n3 n4 t1 t2 s1 s2 z1 z2 o1 o2 o3 hV HV HC hp
  go_enter Tryd.func9, Tryd.ntmps9
  go_wp2_with (first
   | (go_at_call 12; (first | (with_reducible refine (HB1.out _).mono ?_) | (with_reducible refine (HB2.out _).mono ?_) | (with_reducible refine (HB3.out _).mono ?_)); rintro e w' ⟨rfl, hu⟩)
   | (go_at_call 15; (first | (with_reducible refine (HP1.out _).mono ?_) | (with_reducible refine (HP2.out _).mono ?_) | (with_reducible refine (HP3.out _).mono ?_) | (with_reducible refine (HP4.out _).mono ?_)); rintro e w' ⟨rfl, hu⟩))
  go_ret2
  exact ⟨_, rfl, gUp, ErrsG.none _ _⟩
 ·obtain rfl : x = 0 := by rw [HV.out, if_neg hp]
  obtain rfl : c = 27 := by rw [HC.out, if_neg hp]
  clear o1 o2 o3 HV HC
  cases p1
  ·go_enter Tryd.func9, Tryd.ntmps9
   go_wp2_with (first
    | (go_at_call 12; (with_reducible refine (HB1.out _).mono ?_); rintro e w' ⟨rfl, hu⟩)
    | (go_at_call 13; (with_reducible refine (HE.out _).mono ?_); rintro e wE ⟨u, rfl, huE, hE⟩))
   go_ret2
   exact ⟨_, rfl, gUp, hE⟩
  ·cases p2
   ·go_enter Tryd.func9, Tryd.ntmps9
    go_wp2_with (first
     | (go_at_call 12; (first | (with_reducible refine (HB1.out _).mono ?_) | (with_reducible refine (HB2.out _).mono ?_)); rintro e w' ⟨rfl, hu⟩)
     | (go_at_call 13; (with_reducible refine (HE.out _).mono ?_); rintro e wE ⟨u, rfl, huE, hE⟩))
    go_ret2
    exact ⟨_, rfl, gUp, hE⟩
   ·cases p3
    ·go_enter Tryd.func9, Tryd.ntmps9
     go_wp2_with (first
      | (go_at_call 12; (first | (with_reducible refine (HB1.out _).mono ?_) | (with_reducible refine (HB2.out _).mono ?_) | (with_reducible refine (HB3.out _).mono ?_)); rintro e w' ⟨rfl, hu⟩)
      | (go_at_call 13; (with_reducible refine (HE.out _).mono ?_); rintro e wE ⟨u, rfl, huE, hE⟩))
     go_ret2
     exact ⟨_, rfl, gUp, hE⟩
    ·exact absurd rfl hp
def rgOK (m c : Int) : Bool := btw m 0 2000000 && btw c 1 2000000
def rgV (m c : Int) : Int := if rgOK m c then nv m c 2000000 else 0
def rgC (m c : Int) : Int := if rgOK m c then 0 else 27
set_option maxHeartbeats 4000000 in
theorem range_any (m c : Int) (w : World) : Calls Tryd.prog 8 #[.int .i64 m, .int .i64 c] w (ToldE soundB (rgV m c) (rgC m c) w) := by
 have HB1 := hid (fun w => between_any m 0 2000000 w)
 have HB2 := hid (fun w => between_any c 1 2000000 w)
 have HE := hid (fun w => units_any w)
 have HV : Hid (rgV m c = if (btw m 0 2000000 && btw c 1 2000000) then nv m c 2000000 else 0) := hid rfl
 have HC : Hid (rgC m c = if (btw m 0 2000000 && btw c 1 2000000) then 0 else 27) := hid rfl
 have o1 : btw m 0 2000000 = true -> 0 <= m /\ m <= 2000000 := btw_ok
 have o2 : btw c 1 2000000 = true -> 1 <= c /\ c <= 2000000 := btw_ok
 obtain ⟨x, hx⟩ : ∃ x, rgV m c = x := ⟨_, rfl⟩
 obtain ⟨n, hn⟩ : ∃ n, rgC m c = n := ⟨_, rfl⟩
 rw [hx] at HV ⊢
 rw [hn] at HC ⊢
 obtain ⟨p1, h1⟩ : ∃ p, btw m 0 2000000 = p := ⟨_, rfl⟩
 obtain ⟨p2, h2⟩ : ∃ p, btw c 1 2000000 = p := ⟨_, rfl⟩
 rw [h1] at HB1 o1 HV HC
 rw [h2] at HB2 o2 HV HC
 clear hx hn h1 h2
 cases p1
 ·obtain rfl : x = 0 := HV.out
  obtain rfl : n = 27 := HC.out
  clear o1 o2 HV HC
  go_enter Tryd.func8, Tryd.ntmps8
  go_wp2_with (first
   | (go_at_call 12; (with_reducible refine (HB1.out _).mono ?_); rintro e w' ⟨rfl, hu⟩)
   | (go_at_call 13; (with_reducible refine (HE.out _).mono ?_); rintro e wE ⟨u, rfl, huE, hE⟩))
  go_ret2
  exact ⟨_, rfl, gUp, hE⟩
 ·cases p2
  ·obtain rfl : x = 0 := HV.out
   obtain rfl : n = 27 := HC.out
   clear o1 o2 HV HC
   go_enter Tryd.func8, Tryd.ntmps8
   go_wp2_with (first
    | (go_at_call 12; (first | (with_reducible refine (HB1.out _).mono ?_) | (with_reducible refine (HB2.out _).mono ?_)); rintro e w' ⟨rfl, hu⟩)
    | (go_at_call 13; (with_reducible refine (HE.out _).mono ?_); rintro e wE ⟨u, rfl, huE, hE⟩))
   go_ret2
   exact ⟨_, rfl, gUp, hE⟩
  ·obtain ⟨m1, m2⟩ := o1 rfl
   obtain ⟨c1, c2⟩ := o2 rfl
   have hV : x = nv m c 2000000 := HV.out
   subst hV
   obtain rfl : n = 0 := HC.out
   have q1 := mul_bd (a := m) (b := c) (A := 2000000) (B := 2000000) (by omega) (by omega) (by omega) (by omega)
   have HP := hid (fun w => part_any m c 2000000 (by omega) (by omega) (by omega) (by omega) (by omega) (by omega) (by omega) (by omega) w)
   generalize nv m c 2000000 = N1 at *
   clear q1 m1 m2 c1 c2 o1 o2 HV HC
   go_enter Tryd.func8, Tryd.ntmps8
   go_wp2_with (first
    | (go_at_call 12; (first | (with_reducible refine (HB1.out _).mono ?_) | (with_reducible refine (HB2.out _).mono ?_)); rintro e w' ⟨rfl, hu⟩)
    | (go_at_call 15; (with_reducible refine (HP.out _).mono ?_); rintro e w' ⟨rfl, hu⟩))
   go_ret2
   exact ⟨_, rfl, gUp, ErrsG.none _ _⟩
noncomputable def sq (n : Nat) : Nat := Classical.choose (root_ex n)
theorem sq_spec (n : Nat) : sq n * sq n <= n /\ n < (sq n + 1) * (sq n + 1) := Classical.choose_spec (root_ex n)
theorem sq_is {n r : Nat} (h1 : r * r <= n) (h2 : n < (r + 1) * (r + 1)) : sq n = r := by
 obtain ⟨a, b⟩ := sq_spec n
 rcases Nat.lt_trichotomy (sq n) r with h | h | h
 ·have := Nat.mul_le_mul (show sq n + 1 <= r from h) (show sq n + 1 <= r from h); omega
 ·exact h
 ·have := Nat.mul_le_mul (show r + 1 <= sq n from h) (show r + 1 <= sq n from h); omega
def flOK (r d : Int) : Bool := btw r 0 2097152 && decide (d.natAbs <= r.natAbs)
noncomputable def flV (r d : Int) : Int := if flOK r d then (sq (r.natAbs * r.natAbs - d.natAbs * d.natAbs) : Nat) else 0
def flC (r d : Int) : Int := if flOK r d then 0 else 27
set_option maxHeartbeats 4000000 in
theorem flat_any (r d : Int) (d1 : -9223372036854775808 <= d) (d2 : d < 9223372036854775808) (w : World) : Calls Tryd.prog 7 #[.int .i64 r, .int .i64 d] w (ToldE soundB (flV r d) (flC r d) w) := by
 have HB1 := hid (fun w => between_any r 0 2097152 w)
 have HE := hid (fun w => units_any w)
 have hA := fun w => fx_amount d d1 d2 w
 have HV : Hid (flV r d = if (btw r 0 2097152 && decide (d.natAbs <= r.natAbs)) then ((sq (r.natAbs * r.natAbs - d.natAbs * d.natAbs) : Nat) : Int) else 0) := hid rfl
 have HC : Hid (flC r d = if (btw r 0 2097152 && decide (d.natAbs <= r.natAbs)) then 0 else 27) := hid rfl
 have o1 : btw r 0 2097152 = true -> 0 <= r /\ r <= 2097152 := btw_ok
 obtain ⟨x, hx⟩ : ∃ x, flV r d = x := ⟨_, rfl⟩
 obtain ⟨n, hn⟩ : ∃ n, flC r d = n := ⟨_, rfl⟩
 rw [hx] at HV ⊢
 rw [hn] at HC ⊢
 obtain ⟨p1, h1⟩ : ∃ p, btw r 0 2097152 = p := ⟨_, rfl⟩
 rw [h1] at HB1 o1 HV HC
 obtain ⟨A, hAd⟩ : ∃ A, d.natAbs = A := ⟨_, rfl⟩
 rw [hAd] at HV HC hA
 clear hx hn h1
 by_cases hbig : A < 9223372036854775808
 ·rw [i64V_yes (by omega)] at hA
  have HA := hid hA
  clear hA
  cases p1
  ·obtain rfl : x = 0 := HV.out
   obtain rfl : n = 27 := HC.out
   clear o1 HV HC d1 d2 hAd hbig
   go_enter Tryd.func7, Tryd.ntmps7
   go_wp2_with (first
    | (go_at_call 11; (with_reducible refine (HA.out _).mono ?_); rintro e w' ⟨rfl, hu⟩)
    | (go_at_call 12; (with_reducible refine (HB1.out _).mono ?_); rintro e w' ⟨rfl, hu⟩)
    | (go_at_call 13; (with_reducible refine (HE.out _).mono ?_); rintro e wE ⟨u, rfl, huE, hE⟩))
   go_ret2
   exact ⟨_, rfl, gUp, hE⟩
  ·obtain ⟨r1, r2⟩ := o1 rfl
   obtain ⟨R, rfl⟩ : ∃ R : Nat, r = (R : Int) := ⟨r.toNat, by omega⟩
   rw [Int.natAbs_natCast] at HV HC
   by_cases hle : A <= R
   ·have hV := HV.out
    have hC := HC.out
    rw [decide_eq_true hle, Bool.and_true, if_pos rfl] at hV hC
    subst hV hC
    have hs := sq_spec (R * R - A * A)
    have hRR : R * R <= 2097152 * 2097152 := Nat.mul_le_mul (by omega) (by omega)
    have hAA : A * A <= R * R := Nat.mul_le_mul hle hle
    have hlt := sq_lt (B := 4294967296) hs.1 (by omega)
    have HS := hid (fun w => fx_sqrt (R * R - A * A) _ (by omega) hs.1 hs.2 w)
    have hd : decide (R < A) = false := decide_eq_false (by omega)
    have e1 : IntKind.i64.wrap ((R : Int) * R) = ((R * R : Nat) : Int) := by rw [IntWalk.i64_in _ (by omega)]; exact (Int.natCast_mul _ _).symm
    have e2 : IntKind.i64.wrap ((A : Int) * A) = ((A * A : Nat) : Int) := by rw [IntWalk.i64_in _ (by omega)]; exact (Int.natCast_mul _ _).symm
    have e3 : IntKind.i64.wrap (((R * R : Nat) : Int) - ((A * A : Nat) : Int)) = ((R * R - A * A : Nat) : Int) := by rw [IntWalk.i64_in _ (by omega)]; omega
    have e4 : IntKind.u64.wrap ((R * R - A * A : Nat) : Int) = ((R * R - A * A : Nat) : Int) := by rw [IntKind.wrap_u64]; omega
    have e5 : IntKind.i64.wrap ((sq (R * R - A * A) : Nat) : Int) = ((sq (R * R - A * A) : Nat) : Int) := IntWalk.i64_in _ (by omega)
    generalize sq (R * R - A * A) = Q at *
    clear hs hlt o1 HV HC r1 r2 d1 d2 hAd hbig
    generalize R * R - A * A = D at *
    generalize R * R = RR at *
    generalize A * A = AA at *
    clear hRR hAA hle
    go_enter Tryd.func7, Tryd.ntmps7
    go_wp2_with (first
     | (go_at_call 11; (with_reducible refine (HA.out _).mono ?_); rintro e w' ⟨rfl, hu⟩)
     | (go_at_call 12; (with_reducible refine (HB1.out _).mono ?_); rintro e w' ⟨rfl, hu⟩)
     | (go_at_call 14; (with_reducible refine (HS.out _).mono ?_); rintro e w' ⟨rfl, hu⟩))
    go_ret2
    exact ⟨_, rfl, gUp, ErrsG.none _ _⟩
   ·have hV := HV.out
    have hC := HC.out
    rw [decide_eq_false hle, Bool.and_false] at hV hC
    obtain rfl : x = 0 := hV
    obtain rfl : n = 27 := hC
    have hd : decide (R < A) = true := decide_eq_true (by omega)
    clear o1 HV HC r1 r2 d1 d2 hAd hbig hle
    go_enter Tryd.func7, Tryd.ntmps7
    go_wp2_with (first
     | (go_at_call 11; (with_reducible refine (HA.out _).mono ?_); rintro e w' ⟨rfl, hu⟩)
     | (go_at_call 12; (with_reducible refine (HB1.out _).mono ?_); rintro e w' ⟨rfl, hu⟩)
     | (go_at_call 13; (with_reducible refine (HE.out _).mono ?_); rintro e wE ⟨u, rfl, huE, hE⟩))
    go_ret2
    exact ⟨_, rfl, gUp, hE⟩
 ·rw [i64V_no (by omega)] at hA
  have HA := hid hA
  have hno : (p1 && decide (A <= r.natAbs)) = false := by
   cases p1
   ·rfl
   ·have := o1 rfl
    exact decide_eq_false (by omega)
  rw [hno] at HV HC
  obtain rfl : x = 0 := HV.out
  obtain rfl : n = 27 := HC.out
  clear o1 HV HC d1 d2 hAd hbig hA hno
  go_enter Tryd.func7, Tryd.ntmps7
  go_wp2_with (first
   | (go_at_call 11; (with_reducible refine (HA.out _).mono ?_); rintro e w' ⟨rfl, hu⟩)
   | (go_at_call 13; (with_reducible refine (HE.out _).mono ?_); rintro e wE ⟨u, rfl, huE, hE⟩))
  go_ret2
  exact ⟨_, rfl, gUp, hE⟩
theorem ssays13_any {u : Value} {e : Int} {w : World} (h : ErrsG soundB w u e) (hg : Glob w) :
   Calls Tryd.prog 10 #[u, .int .i64 e] w fun r w' => r = .returned (.bool true) /\ Up w w' := by
 rcases h with ⟨rfl, rfl⟩ | ⟨h0, t, x, rfl, hE⟩
 ·go_enter Tryd.func10, Tryd.ntmps10
  go_wp2_with fail
  go_ret
  exact ⟨rfl, Up.refl _⟩
 ·have d : (e == 0) = false := by simpa using h0
  have HO := hid (fun w' (hu : Up w w') => ops_any (hE.up hu) (show 1 < 1000000 by decide))
  have HC := hid (fun w' (hu : Up w w') => code_any (hE.up hu) (globUp hg hu))
  have de : (e == e) = true := by simp
  have dB : (soundB.toList == [115, 111, 117, 110, 100]) = true := by rw [show soundB.toList = [115, 111, 117, 110, 100] from by rw [ByteArray.toList_eq]; rfl]; rfl
  clear hE hg h0
  go_enter Tryd.func10, Tryd.ntmps10
  go_wp2_with (first
   | (go_at_call 16; (with_reducible refine (HO.out _ (Up.refl _)).mono ?_); rintro r w1 ⟨s, rfl, hu1, hs⟩; obtain ⟨g, cap, C, rfl, hB, h0⟩ := ownOne hs)
   | (go_at_call 17; (with_reducible refine (HC.out _ hu1).mono ?_); rintro r w2 ⟨rfl, hu2⟩; have hc := (hB.up hu2).cell 0 h0; have de2 : ((Er.flt soundB (.num e)).first.getD 36 == e) = true := by (show (e == e) = true; simp)))
  go_ret
  exact ⟨rfl, hu1.trans hu2⟩
set_option maxHeartbeats 8000000 in
theorem known13_true {w : World} (hg : Glob w) :
   Calls Tryd.prog 6 #[] w fun r w' => r = .returned (.bool true) /\ Up w w' := by
 have k1 : flV 5 3 = 4 := by
  have h : sq 16 = 4 := sq_is (by decide) (by decide)
  show (if flOK 5 3 then ((sq 16 : Nat) : Int) else 0) = 4
  rw [h]; rfl
 have HF := hid (fun w => flat_any 5 3 (by decide) (by decide) w)
 have HR := hid (fun w => range_any 2000000 1500000 w)
 have HG := hid (fun w => flat_any 3 5 (by decide) (by decide) w)
 rw [k1, show flC 5 3 = 0 from by decide] at HF
 rw [show rgV 2000000 1500000 = 1500000 from by decide, show rgC 2000000 1500000 = 0 from by decide] at HR
 rw [show flC 3 5 = 27 from by decide] at HG
 obtain ⟨z, hz⟩ : ∃ z, flV 3 5 = z := ⟨_, rfl⟩
 rw [hz] at HG
 have HW := hid hg
 clear hg hz
 go_enter Tryd.func6, Tryd.ntmps6
 go_wp2_with (first
  | (go_at_call 7; first
     | ((with_reducible refine (HF.out _).mono ?_); rintro e w1 ⟨u1, rfl, hu1, he1⟩; obtain rfl := he1.elim (fun h => h.2) (fun h => absurd rfl h.1))
     | ((with_reducible refine (HG.out _).mono ?_); rintro e w3 ⟨u3, rfl, hu3, he3⟩; have hU3 := (hu1.trans hu2).trans hu3))
  | (go_at_call 8; (with_reducible refine (HR.out _).mono ?_); rintro e w2 ⟨u2, rfl, hu2, he2⟩; obtain rfl := he2.elim (fun h => h.2) (fun h => absurd rfl h.1))
  | (go_at_call 10; (with_reducible refine (ssays13_any he3 (globUp HW.out hU3)).mono ?_); rintro e w4 ⟨rfl, hu4⟩))
 go_ret
 exact ⟨rfl, hU3.trans hu4⟩
theorem sp_yes {t : Int} (h1 : 0 <= t) (h2 : t <= 3000) :
   ∃ N1 N2 : Int, (0 <= N1 /\ N1 <= 49500) /\ (0 <= N2 /\ N2 <= 7830) /\ ∀ s z, 0 <= s -> s <= 4500 -> 0 <= z -> z <= 1000000 -> spV t s z = 1449200 + 46 * t - N1 + N2 + nv (13400 - t) (s - 3500) 1000 + nv 16 z 1000 /\ spC t s z = 0 := by
 have q1 := mul_bd (a := t) (b := t) (A := 3000) (B := 3000) (by omega) (by omega) (by omega) (by omega)
 have q2 := mul_bd (a := t * t) (b := t) (A := 9000000) (B := 3000) (by omega) (by omega) (by omega) (by omega)
 have r1 : 0 <= t * t := Int.mul_nonneg h1 h1
 have r2 : 0 <= t * t * t := Int.mul_nonneg r1 h1
 refine ⟨nv (t * t) 55 10000, nv (t * t * t) 29 100000000, ?_, ?_, fun s z h3 h4 h5 h6 => ?_⟩
 ·unfold nv; omega
 ·unfold nv; omega
 ·have o : spOK t s z = true := by unfold spOK btw; simp only [Bool.and_eq_true, decide_eq_true_eq]; omega
  exact ⟨by unfold spV; rw [if_pos o], by unfold spC; rw [if_pos o]⟩
set_option maxHeartbeats 8000000 in
theorem water_w {w : World} (hg : Glob w) {a b c : Int} (ha : 0 <= a /\ a < 65536) (hb : 0 <= b /\ b < 65536) (hc : 0 <= c /\ c < 4294967296) :
   Calls Tryd.prog 5 #[.int .u16 a, .int .u16 b, .int .u32 c] w fun e w' => e = .returned (.bool true) /\ Up w w' := by
 have HK := hid (known13_true hg)
 obtain ⟨t, et⟩ : ∃ y, a.tmod 3000 = y := ⟨_, rfl⟩
 obtain ⟨s, es⟩ : ∃ y, b.tmod 4400 = y := ⟨_, rfl⟩
 obtain ⟨z, ez⟩ : ∃ y, c.tmod 900000 = y := ⟨_, rfl⟩
 have bt : 0 <= t /\ t < 3000 := by rw [<- et, Int.tmod_eq_emod_of_nonneg ha.1]; omega
 have bs : 0 <= s /\ s < 4400 := by rw [<- es, Int.tmod_eq_emod_of_nonneg hb.1]; omega
 have bz : 0 <= z /\ z < 900000 := by rw [<- ez, Int.tmod_eq_emod_of_nonneg hc.1]; omega
 have u1 : IntKind.u16.wrap t = t := by rw [IntKind.wrap_u16]; omega
 have u2 : IntKind.u16.wrap s = s := by rw [IntKind.wrap_u16]; omega
 have u3 : IntKind.u32.wrap z = z := by rw [IntKind.wrap_u32]; omega
 have i1 : IntKind.i64.wrap t = t := IntWalk.i64_in _ (by omega)
 have i2 : IntKind.i64.wrap s = s := IntWalk.i64_in _ (by omega)
 have i3 : IntKind.i64.wrap z = z := IntWalk.i64_in _ (by omega)
 have i4 : IntKind.i64.wrap (z + 1000) = z + 1000 := IntWalk.i64_in _ (by omega)
 have i5 : IntKind.i64.wrap (s + 10) = s + 10 := IntWalk.i64_in _ (by omega)
 obtain ⟨N1, N2, hN1, hN2, hsp⟩ := sp_yes (t := t) (by omega) (by omega)
 obtain ⟨x1, y1⟩ := hsp s z (by omega) (by omega) (by omega) (by omega)
 obtain ⟨x2, y2⟩ := hsp s (z + 1000) (by omega) (by omega) (by omega) (by omega)
 obtain ⟨x3, y3⟩ := hsp (s + 10) z (by omega) (by omega) (by omega) (by omega)
 have H1 := hid (fun w => speed_any t s z w)
 have H2 := hid (fun w => speed_any t s (z + 1000) w)
 have H3 := hid (fun w => speed_any t (s + 10) z w)
 rw [y1] at H1
 rw [y2] at H2
 rw [y3] at H3
 have m1 : (13400 - t) * (s + 10 - 3500) = (13400 - t) * (s - 3500) + (13400 - t) * 10 := by rw [<- Int.mul_add]; congr 1; omega
 have m2 : (13400 - t) * (s - 3500) = (13400 - t) * s - (13400 - t) * 3500 := Int.mul_sub _ _ _
 have m3 := mul_bd (a := 13400 - t) (b := s) (A := 13400) (B := 4400) (by omega) (by omega) (by omega) (by omega)
 have m4 : 0 <= (13400 - t) * s := Int.mul_nonneg (by omega) (by omega)
 have b1 : spV t s z <= spV t s (z + 1000) := by rw [x1, x2]; unfold nv; omega
 have b2 : spV t s z <= spV t (s + 10) z := by rw [x1, x3]; unfold nv; rw [m1]; omega
 have b3 : 1300000 < spV t s z /\ spV t s z < 1700000 := by rw [x1]; unfold nv; omega
 generalize spV t s z = X1 at *
 generalize spV t s (z + 1000) = X2 at *
 generalize spV t (s + 10) z = X3 at *
 have g1 : decide (X1 <= X2) = true := decide_eq_true b1
 have g2 : decide (X1 <= X3) = true := decide_eq_true b2
 have g3 : decide (1300000 < X1) = true := decide_eq_true b3.1
 have g4 : decide (X1 < 1700000) = true := decide_eq_true b3.2
 clear hg ha hb hc bt bs bz x1 y1 x2 y2 x3 y3 b1 b2 b3 m1 m2 m3 m4 hsp hN1 hN2
 go_enter Tryd.func5, Tryd.ntmps5
 go_wp2_with (first
  | (go_at_call 6; (with_reducible refine HK.out.mono ?_); rintro e w0 ⟨rfl, hu0⟩)
  | (go_at_call 9; first
     | ((with_reducible refine (H1.out _).mono ?_); rintro e w1 ⟨v1, rfl, hu1, he1⟩; obtain rfl := he1.elim (fun h => h.2) (fun h => absurd rfl h.1))
     | ((with_reducible refine (H2.out _).mono ?_); rintro e w2 ⟨v2, rfl, hu2, he2⟩; obtain rfl := he2.elim (fun h => h.2) (fun h => absurd rfl h.1))
     | ((with_reducible refine (H3.out _).mono ?_); rintro e w3 ⟨v3, rfl, hu3, he3⟩; obtain rfl := he3.elim (fun h => h.2) (fun h => absurd rfl h.1))))
 go_ret
 exact ⟨rfl, ((hu0.trans hu1).trans hu2).trans hu3⟩
theorem wf_u {k : IntKind} {z m : Int} (h : (Lit.int k z).wf = true) (h0 : k.min = 0) (h1 : k.max = m) : 0 <= z /\ z < m + 1 := by
 have := (Lit.wf_int_iff k z).1 h
 rw [h0, h1] at this
 omega
theorem water_row {w : World} {a0 a1 a2 : Int} (hg : Glob w) (w0 : (Lit.int .u16 a0).wf = true) (w1 : (Lit.int .u16 a1).wf = true) (w2 : (Lit.int .u32 a2).wf = true) :
   Calls Tryd.prog 5 #[.int .u16 a0, .int .u16 a1, .int .u32 a2] w fun e w' => e = .returned (.bool true) /\ Up w w' := water_w hg (wf_u w0 rfl rfl) (wf_u w1 rfl rfl) (wf_u w2 rfl rfl)
end Go.Proofs.YthnjmgoininkoaaDoor
namespace Go.Proofs.YthnjmgoininkoaaDoor
open Go.ChangeShapes Go.WideShapes Go.RowKit
set_option maxRecDepth 100000
theorem own4 : ownKnob Tryd.prog.godebug = none := by kernel_rfl
theorem et4 : Tryd.prog.globalNamed "errors.errorType" = some 0 := by kernel_rfl
theorem rt4 : (Tryd.prog.cutTypes.find? (·.1 == "internal/reflectlite.rtype")).map (·.2) = some 96 := by kernel_rfl
theorem oneRow4 : ((List.range 152).filter fun t => Tryd.prog.rowNamed t [101, 114, 114, 111, 114]) = [25] := by kernel_rfl
theorem size4 : Tryd.prog.types.size = 152 := by kernel_rfl
theorem glob_of_laid {W : World} (h : laidMetH Tryd.prog [("errors.errorType", Rows.laid_errors_errorType)] W) : Glob W := by
 have h' : laidMet Tryd.prog [] W /\ handlesMet Tryd.prog [("errors.errorType", Rows.laid_errors_errorType)] W := h
 obtain ⟨name, u, ty, e1, e2, e3, e4, e5⟩ := h'.2 _ (List.mem_singleton.2 rfl)
 have en : name = [101, 114, 114, 111, 114] := (Option.some.inj e1).symm
 subst en
 obtain rfl := Option.some.inj (rt4.symm.trans e2)
 have hm : ty ∈ (List.range 152).filter fun t => Tryd.prog.rowNamed t [101, 114, 114, 111, 114] := List.mem_filter.2 ⟨List.mem_range.2 (by rw [<- size4]; exact e3), e4⟩
 rw [oneRow4] at hm
 obtain rfl := List.mem_singleton.1 hm
 have hh : typeHandle Tryd.prog 25 = .pointer (some ⟨3, 25, none⟩) := by kernel_rfl
 rw [hh] at e5
 unfold Glob
 simpa using World.var?_cell et4 e5 0
noncomputable def laidWorld (os : Os) : World :=
 let w0 := World.holding Tryd.prog os ⟨#[], #[], []⟩
 { w0 with heap := w0.heap.modify 0 fun
    | .cells _ t frozen => .cells #[.iface 96 (.agg #[.pointer (some ⟨3, 25, none⟩)])] t frozen
    | o => o }
theorem laidWorld_met (os : Os) (args : Array Value) : laidMetH Tryd.prog [("errors.errorType", Rows.laid_errors_errorType)] ((laidWorld os).forCall (fun _ _ => 0) ⟨#[], args, []⟩).memory :=
 laidMetH_of_parts (laidMet_nil _ _) (by kernel_rfl)
end Go.Proofs.YthnjmgoininkoaaDoor
