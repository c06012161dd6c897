import Derived.Test.YthnjmgoininkoaaDoorPb
import Derived.DataShut
import Derived.Test.YthnjmgoininkoaaDoorRows
import Derived.Test.YthnjmgoininkoaaDoorTie
import Derived.ChangeSame
import Derived.ChangeVars
import Derived.JoinedOf
import Derived.RowKit
import Derived.RowKitTokens
import Derived.LaidLaws
import Derived.LaidHandle
import Derived.Stop.Joined
import Derived.ChangeMaps5
import Derived.SevenTiedAt
namespace Go.Proofs.YthnjmgoininkoaaDoor
open Go Go.RowKit
set_option maxRecDepth 100000
def rgOK (m c : Int) : Bool := btw m 0 2000000 && btw c 1 2000000
def rgV (m c : Int) : Int := if rgOK m c then nv m c 2000000 else 0
def rgC (m c : Int) : Int := if rgOK m c then 0 else 27
set_option maxHeartbeats 4000000 in
theorem range_any (m c : Int) (w : World) : Calls Tryd.prog 8 #[.int .i64 m, .int .i64 c] w (ToldE soundB (rgV m c) (rgC m c) w) := by
 have HB1 := hid (fun w => between_any m 0 2000000 w)
 have HB2 := hid (fun w => between_any c 1 2000000 w)
 have HE := hid (fun w => units_any w)
 have HV : Hid (rgV m c = if (btw m 0 2000000 && btw c 1 2000000) then nv m c 2000000 else 0) := hid rfl
 have HC : Hid (rgC m c = if (btw m 0 2000000 && btw c 1 2000000) then 0 else 27) := hid rfl
 have o1 : btw m 0 2000000 = true -> 0 <= m /\ m <= 2000000 := btw_ok
 have o2 : btw c 1 2000000 = true -> 1 <= c /\ c <= 2000000 := btw_ok
 obtain ⟨x, hx⟩ : ∃ x, rgV m c = x := ⟨_, rfl⟩
 obtain ⟨n, hn⟩ : ∃ n, rgC m c = n := ⟨_, rfl⟩
 rw [hx] at HV ⊢
 rw [hn] at HC ⊢
 obtain ⟨p1, h1⟩ : ∃ p, btw m 0 2000000 = p := ⟨_, rfl⟩
 obtain ⟨p2, h2⟩ : ∃ p, btw c 1 2000000 = p := ⟨_, rfl⟩
 rw [h1] at HB1 o1 HV HC
 rw [h2] at HB2 o2 HV HC
 clear hx hn h1 h2
 cases p1
 ·obtain rfl : x = 0 := HV.out
  obtain rfl : n = 27 := HC.out
  clear o1 o2 HV HC
  go_enter Tryd.func8, Tryd.ntmps8
  go_wp2_with (first
   | (go_at_call 12; (with_reducible refine (HB1.out _).mono ?_); rintro e w' ⟨rfl, hu⟩)
   | (go_at_call 13; (with_reducible refine (HE.out _).mono ?_); rintro e wE ⟨u, rfl, huE, hE⟩))
  go_ret2
  exact ⟨_, rfl, gUp, hE⟩
 ·cases p2
  ·obtain rfl : x = 0 := HV.out
   obtain rfl : n = 27 := HC.out
   clear o1 o2 HV HC
   go_enter Tryd.func8, Tryd.ntmps8
   go_wp2_with (first
    | (go_at_call 12; (first | (with_reducible refine (HB1.out _).mono ?_) | (with_reducible refine (HB2.out _).mono ?_)); rintro e w' ⟨rfl, hu⟩)
    | (go_at_call 13; (with_reducible refine (HE.out _).mono ?_); rintro e wE ⟨u, rfl, huE, hE⟩))
   go_ret2
   exact ⟨_, rfl, gUp, hE⟩
  ·obtain ⟨m1, m2⟩ := o1 rfl
   obtain ⟨c1, c2⟩ := o2 rfl
   have hV : x = nv m c 2000000 := HV.out
   subst hV
   obtain rfl : n = 0 := HC.out
   have q1 := mul_bd (a := m) (b := c) (A := 2000000) (B := 2000000) (by omega) (by omega) (by omega) (by omega)
   have HP := hid (fun w => part_any m c 2000000 (by omega) (by omega) (by omega) (by omega) (by omega) (by omega) (by omega) (by omega) w)
   generalize nv m c 2000000 = N1 at *
   clear q1 m1 m2 c1 c2 o1 o2 HV HC
   go_enter Tryd.func8, Tryd.ntmps8
   go_wp2_with (first
    | (go_at_call 12; (first | (with_reducible refine (HB1.out _).mono ?_) | (with_reducible refine (HB2.out _).mono ?_)); rintro e w' ⟨rfl, hu⟩)
    | (go_at_call 15; (with_reducible refine (HP.out _).mono ?_); rintro e w' ⟨rfl, hu⟩))
   go_ret2
   exact ⟨_, rfl, gUp, ErrsG.none _ _⟩
noncomputable def sq (n : Nat) : Nat := Classical.choose (root_ex n)
theorem sq_spec (n : Nat) : sq n * sq n <= n /\ n < (sq n + 1) * (sq n + 1) := Classical.choose_spec (root_ex n)
theorem sq_is {n r : Nat} (h1 : r * r <= n) (h2 : n < (r + 1) * (r + 1)) : sq n = r := by
 obtain ⟨a, b⟩ := sq_spec n
 rcases Nat.lt_trichotomy (sq n) r with h | h | h
 ·have := Nat.mul_le_mul (show sq n + 1 <= r from h) (show sq n + 1 <= r from h); omega
 ·exact h
 ·have := Nat.mul_le_mul (show r + 1 <= sq n from h) (show r + 1 <= sq n from h); omega
def flOK (r d : Int) : Bool := btw r 0 2097152 && decide (d.natAbs <= r.natAbs)
noncomputable def flV (r d : Int) : Int := if flOK r d then (sq (r.natAbs * r.natAbs - d.natAbs * d.natAbs) : Nat) else 0
def flC (r d : Int) : Int := if flOK r d then 0 else 27
set_option maxHeartbeats 4000000 in
theorem flat_any (r d : Int) (d1 : -9223372036854775808 <= d) (d2 : d < 9223372036854775808) (w : World) : Calls Tryd.prog 7 #[.int .i64 r, .int .i64 d] w (ToldE soundB (flV r d) (flC r d) w) := by
 have HB1 := hid (fun w => between_any r 0 2097152 w)
 have HE := hid (fun w => units_any w)
 have hA := fun w => fx_amount d d1 d2 w
 have HV : Hid (flV r d = if (btw r 0 2097152 && decide (d.natAbs <= r.natAbs)) then ((sq (r.natAbs * r.natAbs - d.natAbs * d.natAbs) : Nat) : Int) else 0) := hid rfl
 have HC : Hid (flC r d = if (btw r 0 2097152 && decide (d.natAbs <= r.natAbs)) then 0 else 27) := hid rfl
 have o1 : btw r 0 2097152 = true -> 0 <= r /\ r <= 2097152 := btw_ok
 obtain ⟨x, hx⟩ : ∃ x, flV r d = x := ⟨_, rfl⟩
 obtain ⟨n, hn⟩ : ∃ n, flC r d = n := ⟨_, rfl⟩
 rw [hx] at HV ⊢
 rw [hn] at HC ⊢
 obtain ⟨p1, h1⟩ : ∃ p, btw r 0 2097152 = p := ⟨_, rfl⟩
 rw [h1] at HB1 o1 HV HC
 obtain ⟨A, hAd⟩ : ∃ A, d.natAbs = A := ⟨_, rfl⟩
 rw [hAd] at HV HC hA
 clear hx hn h1
 by_cases hbig : A < 9223372036854775808
 ·rw [i64V_yes (by omega)] at hA
  have HA := hid hA
  clear hA
  cases p1
  ·obtain rfl : x = 0 := HV.out
   obtain rfl : n = 27 := HC.out
   clear o1 HV HC d1 d2 hAd hbig
   go_enter Tryd.func7, Tryd.ntmps7
   go_wp2_with (first
    | (go_at_call 11; (with_reducible refine (HA.out _).mono ?_); rintro e w' ⟨rfl, hu⟩)
    | (go_at_call 12; (with_reducible refine (HB1.out _).mono ?_); rintro e w' ⟨rfl, hu⟩)
    | (go_at_call 13; (with_reducible refine (HE.out _).mono ?_); rintro e wE ⟨u, rfl, huE, hE⟩))
   go_ret2
   exact ⟨_, rfl, gUp, hE⟩
  ·obtain ⟨r1, r2⟩ := o1 rfl
   obtain ⟨R, rfl⟩ : ∃ R : Nat, r = (R : Int) := ⟨r.toNat, by omega⟩
   rw [Int.natAbs_natCast] at HV HC
   by_cases hle : A <= R
   ·have hV := HV.out
    have hC := HC.out
    rw [decide_eq_true hle, Bool.and_true, if_pos rfl] at hV hC
    subst hV hC
    have hs := sq_spec (R * R - A * A)
    have hRR : R * R <= 2097152 * 2097152 := Nat.mul_le_mul (by omega) (by omega)
    have hAA : A * A <= R * R := Nat.mul_le_mul hle hle
    have hlt := sq_lt (B := 4294967296) hs.1 (by omega)
    have HS := hid (fun w => fx_sqrt (R * R - A * A) _ (by omega) hs.1 hs.2 w)
    have hd : decide (R < A) = false := decide_eq_false (by omega)
    have e1 : IntKind.i64.wrap ((R : Int) * R) = ((R * R : Nat) : Int) := by rw [IntWalk.i64_in _ (by omega)]; exact (Int.natCast_mul _ _).symm
    have e2 : IntKind.i64.wrap ((A : Int) * A) = ((A * A : Nat) : Int) := by rw [IntWalk.i64_in _ (by omega)]; exact (Int.natCast_mul _ _).symm
    have e3 : IntKind.i64.wrap (((R * R : Nat) : Int) - ((A * A : Nat) : Int)) = ((R * R - A * A : Nat) : Int) := by rw [IntWalk.i64_in _ (by omega)]; omega
    have e4 : IntKind.u64.wrap ((R * R - A * A : Nat) : Int) = ((R * R - A * A : Nat) : Int) := by rw [IntKind.wrap_u64]; omega
    have e5 : IntKind.i64.wrap ((sq (R * R - A * A) : Nat) : Int) = ((sq (R * R - A * A) : Nat) : Int) := IntWalk.i64_in _ (by omega)
    generalize sq (R * R - A * A) = Q at *
    clear hs hlt o1 HV HC r1 r2 d1 d2 hAd hbig
    generalize R * R - A * A = D at *
    generalize R * R = RR at *
    generalize A * A = AA at *
    clear hRR hAA hle
    go_enter Tryd.func7, Tryd.ntmps7
    go_wp2_with (first
     | (go_at_call 11; (with_reducible refine (HA.out _).mono ?_); rintro e w' ⟨rfl, hu⟩)
     | (go_at_call 12; (with_reducible refine (HB1.out _).mono ?_); rintro e w' ⟨rfl, hu⟩)
     | (go_at_call 14; (with_reducible refine (HS.out _).mono ?_); rintro e w' ⟨rfl, hu⟩))
    go_ret2
    exact ⟨_, rfl, gUp, ErrsG.none _ _⟩
   ·have hV := HV.out
    have hC := HC.out
    rw [decide_eq_false hle, Bool.and_false] at hV hC
    obtain rfl : x = 0 := hV
    obtain rfl : n = 27 := hC
    have hd : decide (R < A) = true := decide_eq_true (by omega)
    clear o1 HV HC r1 r2 d1 d2 hAd hbig hle
    go_enter Tryd.func7, Tryd.ntmps7
    go_wp2_with (first
     | (go_at_call 11; (with_reducible refine (HA.out _).mono ?_); rintro e w' ⟨rfl, hu⟩)
     | (go_at_call 12; (with_reducible refine (HB1.out _).mono ?_); rintro e w' ⟨rfl, hu⟩)
     | (go_at_call 13; (with_reducible refine (HE.out _).mono ?_); rintro e wE ⟨u, rfl, huE, hE⟩))
    go_ret2
    exact ⟨_, rfl, gUp, hE⟩
 ·rw [i64V_no (by omega)] at hA
  have HA := hid hA
  have hno : (p1 && decide (A <= r.natAbs)) = false := by
   cases p1
   ·rfl
   ·have := o1 rfl
    exact decide_eq_false (by omega)
  rw [hno] at HV HC
  obtain rfl : x = 0 := HV.out
  obtain rfl : n = 27 := HC.out
  clear o1 HV HC d1 d2 hAd hbig hA hno
  go_enter Tryd.func7, Tryd.ntmps7
  go_wp2_with (first
   | (go_at_call 11; (with_reducible refine (HA.out _).mono ?_); rintro e w' ⟨rfl, hu⟩)
   | (go_at_call 13; (with_reducible refine (HE.out _).mono ?_); rintro e wE ⟨u, rfl, huE, hE⟩))
  go_ret2
  exact ⟨_, rfl, gUp, hE⟩
theorem ssays13_any {u : Value} {e : Int} {w : World} (h : ErrsG soundB w u e) (hg : Glob w) :
   Calls Tryd.prog 10 #[u, .int .i64 e] w fun r w' => r = .returned (.bool true) /\ Up w w' := by
 rcases h with ⟨rfl, rfl⟩ | ⟨h0, t, x, rfl, hE⟩
 ·go_enter Tryd.func10, Tryd.ntmps10
  go_wp2_with fail
  go_ret
  exact ⟨rfl, Up.refl _⟩
 ·have d : (e == 0) = false := by simpa using h0
  have HO := hid (fun w' (hu : Up w w') => ops_any (hE.up hu) (show 1 < 1000000 by decide))
  have HC := hid (fun w' (hu : Up w w') => code_any (hE.up hu) (globUp hg hu))
  have de : (e == e) = true := by simp
  have dB : (soundB.toList == [115, 111, 117, 110, 100]) = true := by rw [show soundB.toList = [115, 111, 117, 110, 100] from by rw [ByteArray.toList_eq]; rfl]; rfl
  clear hE hg h0
  go_enter Tryd.func10, Tryd.ntmps10
  go_wp2_with (first
   | (go_at_call 16; (with_reducible refine (HO.out _ (Up.refl _)).mono ?_); rintro r w1 ⟨s, rfl, hu1, hs⟩; obtain ⟨g, cap, C, rfl, hB, h0⟩ := ownOne hs)
   | (go_at_call 17; (with_reducible refine (HC.out _ hu1).mono ?_); rintro r w2 ⟨rfl, hu2⟩; have hc := (hB.up hu2).cell 0 h0; have de2 : ((Er.flt soundB (.num e)).first.getD 36 == e) = true := by (show (e == e) = true; simp)))
  go_ret
  exact ⟨rfl, hu1.trans hu2⟩
set_option maxHeartbeats 8000000 in
theorem known13_true {w : World} (hg : Glob w) :
   Calls Tryd.prog 6 #[] w fun r w' => r = .returned (.bool true) /\ Up w w' := by
 have k1 : flV 5 3 = 4 := by
  have h : sq 16 = 4 := sq_is (by decide) (by decide)
  show (if flOK 5 3 then ((sq 16 : Nat) : Int) else 0) = 4
  rw [h]; rfl
 have HF := hid (fun w => flat_any 5 3 (by decide) (by decide) w)
 have HR := hid (fun w => range_any 2000000 1500000 w)
 have HG := hid (fun w => flat_any 3 5 (by decide) (by decide) w)
 rw [k1, show flC 5 3 = 0 from by decide] at HF
 rw [show rgV 2000000 1500000 = 1500000 from by decide, show rgC 2000000 1500000 = 0 from by decide] at HR
 rw [show flC 3 5 = 27 from by decide] at HG
 obtain ⟨z, hz⟩ : ∃ z, flV 3 5 = z := ⟨_, rfl⟩
 rw [hz] at HG
 have HW := hid hg
 clear hg hz
 go_enter Tryd.func6, Tryd.ntmps6
 go_wp2_with (first
  | (go_at_call 7; first
     | ((with_reducible refine (HF.out _).mono ?_); rintro e w1 ⟨u1, rfl, hu1, he1⟩; obtain rfl := he1.elim (fun h => h.2) (fun h => absurd rfl h.1))
     | ((with_reducible refine (HG.out _).mono ?_); rintro e w3 ⟨u3, rfl, hu3, he3⟩; have hU3 := (hu1.trans hu2).trans hu3))
  | (go_at_call 8; (with_reducible refine (HR.out _).mono ?_); rintro e w2 ⟨u2, rfl, hu2, he2⟩; obtain rfl := he2.elim (fun h => h.2) (fun h => absurd rfl h.1))
  | (go_at_call 10; (with_reducible refine (ssays13_any he3 (globUp HW.out hU3)).mono ?_); rintro e w4 ⟨rfl, hu4⟩))
 go_ret
 exact ⟨rfl, hU3.trans hu4⟩
theorem line_nv {t m c : Int} (h0 : 0 <= m) (hc : 0 <= c) : nv t c 2000000 <= nv (t + m) c 2000000 /\ -1 <= nv t (2 * c) 2000000 - 2 * nv t c 2000000 /\ nv t (2 * c) 2000000 - 2 * nv t c 2000000 <= 1 := by
 unfold nv
 have h1 : 0 <= m * c := Int.mul_nonneg h0 hc
 have h2 : (t + m) * c = t * c + m * c := Int.add_mul _ _ _
 have h3 : t * (2 * c) = 2 * (t * c) := Int.mul_left_comm _ _ _
 omega
theorem rg_yes {m c : Int} (h1 : 0 <= m) (h2 : m <= 2000000) (h3 : 1 <= c) (h4 : c <= 2000000) : rgV m c = nv m c 2000000 /\ rgC m c = 0 /\ 0 <= nv m c 2000000 /\ nv m c 2000000 <= 2000001 := by
 have o : rgOK m c = true := by unfold rgOK btw; simp only [Bool.and_eq_true, decide_eq_true_eq]; omega
 have q1 := mul_bd (a := m) (b := c) (A := 2000000) (B := 2000000) (by omega) (by omega) (by omega) (by omega)
 have q2 : 0 <= m * c := Int.mul_nonneg h1 (by omega)
 refine ⟨by unfold rgV; rw [if_pos o], by unfold rgC; rw [if_pos o], ?_, ?_⟩ <;> (unfold nv; omega)
set_option maxHeartbeats 8000000 in
theorem sline_w {w : World} (hg : Glob w) {a m b : Int} (ha : 0 <= a /\ a < 4294967296) (hm : 0 <= m /\ m < 65536) (hb : 0 <= b /\ b < 4294967296) :
   Calls Tryd.prog 4 #[.int .u32 a, .int .u16 m, .int .u32 b] w fun e w' => e = .returned (.bool true) /\ Up w w' := by
 have HK := hid (known13_true hg)
 obtain ⟨t, et⟩ : ∃ y, a.tmod 1900000 = y := ⟨_, rfl⟩
 obtain ⟨c', ec⟩ : ∃ y, b.tmod 1000000 = y := ⟨_, rfl⟩
 have bt : 0 <= t /\ t < 1900000 := by rw [<- et, Int.tmod_eq_emod_of_nonneg ha.1]; omega
 have bc : 0 <= c' /\ c' < 1000000 := by rw [<- ec, Int.tmod_eq_emod_of_nonneg hb.1]; omega
 have u1 : IntKind.u32.wrap t = t := by rw [IntKind.wrap_u32]; omega
 have u2 : IntKind.u32.wrap c' = c' := by rw [IntKind.wrap_u32]; omega
 have i1 : IntKind.i64.wrap t = t := IntWalk.i64_in _ (by omega)
 have i2 : IntKind.i64.wrap c' = c' := IntWalk.i64_in _ (by omega)
 have i3 : IntKind.i64.wrap m = m := IntWalk.i64_in _ (by omega)
 obtain ⟨c, hc⟩ : ∃ y, c' + 1 = y := ⟨_, rfl⟩
 have i4 : IntKind.i64.wrap (c' + 1) = c := by rw [hc]; exact IntWalk.i64_in _ (by omega)
 have i5 : IntKind.i64.wrap (t + m) = t + m := IntWalk.i64_in _ (by omega)
 have i6 : IntKind.i64.wrap (2 * c) = 2 * c := IntWalk.i64_in _ (by omega)
 obtain ⟨x1, y1, z1, b1⟩ := rg_yes (m := t) (c := c) (by omega) (by omega) (by omega) (by omega)
 obtain ⟨x2, y2, z2, b2⟩ := rg_yes (m := t + m) (c := c) (by omega) (by omega) (by omega) (by omega)
 obtain ⟨x3, y3, z3, b3⟩ := rg_yes (m := t) (c := 2 * c) (by omega) (by omega) (by omega) (by omega)
 obtain ⟨l1, l2, l3⟩ := line_nv (t := t) (m := m) (c := c) (by omega) (by omega)
 have H1 := hid (fun w => range_any t c w)
 have H2 := hid (fun w => range_any (t + m) c w)
 have H3 := hid (fun w => range_any t (2 * c) w)
 rw [x1, y1] at H1
 rw [x2, y2] at H2
 rw [x3, y3] at H3
 generalize nv t c 2000000 = N1 at *
 generalize nv (t + m) c 2000000 = N2 at *
 generalize nv t (2 * c) 2000000 = N3 at *
 have j1 : IntKind.i64.wrap (2 * N1) = 2 * N1 := IntWalk.i64_in _ (by omega)
 obtain ⟨E, hE⟩ : ∃ y, N3 - 2 * N1 = y := ⟨_, rfl⟩
 rw [hE] at l2 l3
 have j2 : IntKind.i64.wrap (N3 - 2 * N1) = E := by rw [hE]; exact IntWalk.i64_in _ (by omega)
 have g1 : decide (N1 <= N2) = true := decide_eq_true l1
 have g2 : decide (-1 <= E) = true := decide_eq_true l2
 have g3 : decide (E <= 1) = true := decide_eq_true l3
 clear hg ha hm hb bt bc x1 y1 z1 b1 x2 y2 z2 b2 x3 y3 z3 b3 l1 l2 l3 hc hE
 go_enter Tryd.func4, Tryd.ntmps4
 go_wp2_with (first
  | (go_at_call 6; (with_reducible refine HK.out.mono ?_); rintro e w0 ⟨rfl, hu0⟩)
  | (go_at_call 8; first
     | ((with_reducible refine (H1.out _).mono ?_); rintro e w1 ⟨v1, rfl, hu1, he1⟩; obtain rfl := he1.elim (fun h => h.2) (fun h => absurd rfl h.1))
     | ((with_reducible refine (H2.out _).mono ?_); rintro e w2 ⟨v2, rfl, hu2, he2⟩; obtain rfl := he2.elim (fun h => h.2) (fun h => absurd rfl h.1))
     | ((with_reducible refine (H3.out _).mono ?_); rintro e w3 ⟨v3, rfl, hu3, he3⟩; obtain rfl := he3.elim (fun h => h.2) (fun h => absurd rfl h.1))))
 go_ret
 exact ⟨rfl, ((hu0.trans hu1).trans hu2).trans hu3⟩
theorem wf_u {k : IntKind} {z m : Int} (h : (Lit.int k z).wf = true) (h0 : k.min = 0) (h1 : k.max = m) : 0 <= z /\ z < m + 1 := by
 have := (Lit.wf_int_iff k z).1 h
 rw [h0, h1] at this
 omega
theorem sline_row {w : World} {a0 a1 a2 : Int} (hg : Glob w) (w0 : (Lit.int .u32 a0).wf = true) (w1 : (Lit.int .u16 a1).wf = true) (w2 : (Lit.int .u32 a2).wf = true) :
   Calls Tryd.prog 4 #[.int .u32 a0, .int .u16 a1, .int .u32 a2] w fun e w' => e = .returned (.bool true) /\ Up w w' := sline_w hg (wf_u w0 rfl rfl) (wf_u w1 rfl rfl) (wf_u w2 rfl rfl)
end Go.Proofs.YthnjmgoininkoaaDoor
namespace Go.Proofs.YthnjmgoininkoaaDoor
open Go.ChangeShapes Go.WideShapes Go.RowKit
set_option maxRecDepth 100000
theorem own4 : ownKnob Tryd.prog.godebug = none := by kernel_rfl
theorem et4 : Tryd.prog.globalNamed "errors.errorType" = some 0 := by kernel_rfl
theorem rt4 : (Tryd.prog.cutTypes.find? (·.1 == "internal/reflectlite.rtype")).map (·.2) = some 96 := by kernel_rfl
theorem oneRow4 : ((List.range 152).filter fun t => Tryd.prog.rowNamed t [101, 114, 114, 111, 114]) = [25] := by kernel_rfl
theorem size4 : Tryd.prog.types.size = 152 := by kernel_rfl
theorem glob_of_laid {W : World} (h : laidMetH Tryd.prog [("errors.errorType", Rows.laid_errors_errorType)] W) : Glob W := by
 have h' : laidMet Tryd.prog [] W /\ handlesMet Tryd.prog [("errors.errorType", Rows.laid_errors_errorType)] W := h
 obtain ⟨name, u, ty, e1, e2, e3, e4, e5⟩ := h'.2 _ (List.mem_singleton.2 rfl)
 have en : name = [101, 114, 114, 111, 114] := (Option.some.inj e1).symm
 subst en
 obtain rfl := Option.some.inj (rt4.symm.trans e2)
 have hm : ty ∈ (List.range 152).filter fun t => Tryd.prog.rowNamed t [101, 114, 114, 111, 114] := List.mem_filter.2 ⟨List.mem_range.2 (by rw [<- size4]; exact e3), e4⟩
 rw [oneRow4] at hm
 obtain rfl := List.mem_singleton.1 hm
 have hh : typeHandle Tryd.prog 25 = .pointer (some ⟨3, 25, none⟩) := by kernel_rfl
 rw [hh] at e5
 unfold Glob
 simpa using World.var?_cell et4 e5 0
noncomputable def laidWorld (os : Os) : World :=
 let w0 := World.holding Tryd.prog os ⟨#[], #[], []⟩
 { w0 with heap := w0.heap.modify 0 fun
    | .cells _ t frozen => .cells #[.iface 96 (.agg #[.pointer (some ⟨3, 25, none⟩)])] t frozen
    | o => o }
theorem laidWorld_met (os : Os) (args : Array Value) : laidMetH Tryd.prog [("errors.errorType", Rows.laid_errors_errorType)] ((laidWorld os).forCall (fun _ _ => 0) ⟨#[], args, []⟩).memory :=
 laidMetH_of_parts (laidMet_nil _ _) (by kernel_rfl)
end Go.Proofs.YthnjmgoininkoaaDoor
