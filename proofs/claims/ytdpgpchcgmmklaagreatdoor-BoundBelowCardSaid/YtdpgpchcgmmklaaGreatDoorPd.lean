import Derived.Test.YtdpgpchcgmmklaaGreatDoorPc
import Derived.Lib.AppendZeros
import Derived.Lib.AppendZerosOnto
import Derived.Laws.MakeOwn
namespace Go.Proofs.YtdpgpchcgmmklaaGreatDoor
open Go Go.RowKit
set_option maxRecDepth 100000
theorem pm_times (p q : Bool) (X Y : Nat) : pm p X * pm q Y = pm (p != q) (X * Y) := by
 cases p <;> cases q <;> simp [pm, Int.natCast_mul, Int.neg_mul, Int.mul_neg]
set_option maxHeartbeats 1000000 in
theorem sub_big {x y : Int} {va vb : Value} {w : World} (ha : Big w va x) (hb : Big w vb y) (hx : nl x.natAbs < 50000) (hy : nl y.natAbs < 50000) :
   Calls Tryz.prog 29 #[va, vb] w fun e w' => Up w w' /\ ∃ v, e = .returned v /\ Big w' v (x - y) := by
 obtain ⟨p, a, n, ca, rfl⟩ := ha.shape
 obtain ⟨q, b, m, cb, hq, hn⟩ := big_neg hb
 subst hq
 have hA := hid ha
 have hN := hid hn
 rw [Int.sub_eq_add_neg]
 have hy' : nl (-y).natAbs < 50000 := by rw [Int.natAbs_neg]; exact hy
 clear ha hb hn
 go_enter Tryz.func29, Tryz.ntmps29
 go_wp2
 refine opU (S := (fun wq => Blk wq (w.heap.size + 1 + 1) 59 #[.bool false, .slice none 0 0] /\ Blk wq w.heap.size 59 #[.bool p, .slice a n ca] /\ Blk wq (w.heap.size + 1) 59 #[.bool q, .slice b m cb] /\ Below w.heap.size w wq)) (req := (fun j => j != 4)) (fun _ _ h hu => ⟨(h.1).up hu, (h.2.1).up hu, (h.2.2.1).up hu, below_up (h.2.2.2) hu⟩) ⟨gBlk, gBlk, gBlk, gUp⟩ (fun wS hSS hSu => ?_)
 have ⟨hS1, hS2, hS3, hSB⟩ := hSS
 refine tkT 0 (some 5) rfl hSu hSS ?_ (hy := fun w' hSw => run_ldB rfl rfl hSw.2.1 rfl)
 refine tkT 1 (some 6) rfl hSu hSS ?_ (hy := fun w' hSw => run_ldB rfl rfl hSw.2.2.1 rfl)
 refine tkC 2 (some 7) rfl hSu hSS ?_ (hy := fun w' hSw => (neg_any q b m cb w'))
 refine wpAnyU_callE (i := 3) (d := (some 8)) rfl rfl (by kernel_rfl) (by rfl) hSu.out (fun w' => by go_simp) (fun w' hw' => add_big (hA.out.up (below_up hSB hw')) (hN.out.up (below_up hSB hw')) hx hy') fun vA wA hwA hRA => ?_
 try simp only [Act.put, pu1, pu2, pu3]
 obtain ⟨b1, a1, n1, c1, rfl⟩ := hRA.shape
 refine wpAnyU_one (i := 4) rfl (by kernel_rfl) (by rfl) fun w2 hw2 => ?_
 have gK := (hS1.up hwA).up hw2
 refine wp_stB rfl rfl rfl rfl gK rfl rfl (one2 _ _ _ _) ?_
 refine ⟨fun h => by simp at h, ?_⟩
 try simp only [Act.put, pu1, pu2, pu3]
 refine wpAnyU_done (by kernel_rfl) (fun wF huE => ?_) _
 have gR := (gK.setRow #[.bool b1, .slice a1 n1 c1]).up huE
 have gA := ((hRA.up hw2).setRow (D := #[.bool b1, .slice a1 n1 c1]) gK).up huE
 have gB := below_up (below_setRow (below_up (below_up hSB hwA) hw2) (show w.heap.size <= w.heap.size + 1 + 1 by omega) #[.bool b1, .slice a1 n1 c1]) huE
 clear gK hRA hwA hw2 huE hS1 hS2 hS3 hSB hSS
 go_wp2
 exact bodyPost_ret (resB rfl rfl gR rfl) rfl ⟨gB, _, rfl, gA⟩
set_option maxHeartbeats 1000000 in
theorem mul_pm (p q : Bool) (X Y : Nat) (a b : Option Addr) (ca cb : Nat) (w : World) (hA : Am w (.slice a (nl X) ca) X) (hB : Am w (.slice b (nl Y) cb) Y) (hx : nl X < 50000) (hy : nl Y < 50000) :
   Calls Tryz.prog 37 #[.agg #[.bool p, .slice a (nl X) ca], .agg #[.bool q, .slice b (nl Y) cb]] w fun e w' => Up w w' /\ ∃ v, e = .returned v /\ Big w' v (pm p X * pm q Y) := by
 rw [pm_times]
 go_enter Tryz.func37, Tryz.ntmps37
 go_wp2
 refine opU (S := (fun wq => Blk wq (w.heap.size + 1 + 1) 59 #[.bool false, .slice none 0 0] /\ wq.cell? ⟨w.heap.size, 0, none⟩ = some (.bool p) /\ wq.cell? ⟨w.heap.size + 1, 0, none⟩ = some (.bool q) /\ wq.cell? ⟨w.heap.size, 1, none⟩ = some (.slice a (nl X) ca) /\ wq.cell? ⟨w.heap.size + 1, 1, none⟩ = some (.slice b (nl Y) cb) /\ Below w.heap.size w wq)) (req := (fun j => j != 11)) (fun _ _ h hu => ⟨(h.1).up hu, hu.cell (h.2.1), hu.cell (h.2.2.1), hu.cell (h.2.2.2.1), hu.cell (h.2.2.2.2.1), below_up (h.2.2.2.2.2) hu⟩) ⟨gBlk, (by first | assumption | (apply Blk.cell; exact gBlk; exact rfl)), (by first | assumption | (apply Blk.cell; exact gBlk; exact rfl)), (by first | assumption | (apply Blk.cell; exact gBlk; exact rfl)), (by first | assumption | (apply Blk.cell; exact gBlk; exact rfl)), gUp⟩ (fun wS hSS hSu => ?_)
 have ⟨hS1, hS2, hS3, hS4, hS5, hSB⟩ := hSS
 refine tkP 0 (some 5) hSu ?_
 refine tkT 1 (some 6) rfl hSu hSS ?_ (hy := fun w' hSw => by ((try dsimp only at hSw); (try obtain ⟨_, _, _, _, _, _⟩ := hSw); go_simp; (try exact rfl)))
 refine tkP 2 (some 7) hSu ?_
 refine tkT 3 (some 8) rfl hSu hSS ?_ (hy := fun w' hSw => by ((try dsimp only at hSw); (try obtain ⟨_, _, _, _, _, _⟩ := hSw); go_simp; (try exact rfl)))
 refine tkP 4 (some 9) hSu ?_
 refine tkP 5 (some 10) hSu ?_
 refine tkT 6 (some 11) rfl hSu hSS ?_ (hy := fun w' hSw => by ((try dsimp only at hSw); (try obtain ⟨_, _, _, _, _, _⟩ := hSw); go_simp; (try exact rfl)))
 refine tkP 7 (some 12) hSu ?_
 refine tkT 8 (some 13) rfl hSu hSS ?_ (hy := fun w' hSw => by ((try dsimp only at hSw); (try obtain ⟨_, _, _, _, _, _⟩ := hSw); go_simp; (try exact rfl)))
 refine wpAnyU_callE (i := 9) (d := (some 14)) rfl rfl (by kernel_rfl) (by rfl) hSu.out (fun w' => by go_simp) (fun w' hw' => times_am (hA.up (below_up hSB hw')) (hB.up (below_up hSB hw')) (by omega) (by omega)) fun vP wP hwP hRP => ?_
 try simp only [Act.put, pu1, pu2, pu3]
 obtain ⟨a1, c1, rfl⟩ := hRP.shape
 refine wpAnyU_callE (i := 10) (d := (some 15)) rfl rfl (by kernel_rfl) (by rfl) hSu.out (fun w' => by go_simp) (fun w' hw' => callE_of (made_any (!(p == q)) a1 (nl (X * Y)) c1 w')) fun vM wM hwM hRM => ?_
 try simp only [Act.put, pu1, pu2, pu3]
 subst hRM
 refine wpAnyU_one (i := 11) rfl (by kernel_rfl) (by rfl) fun w2 hw2 => ?_
 have gK := ((hS1.up hwP).up hwM).up hw2
 refine wp_stB rfl rfl rfl rfl gK rfl rfl (one2 _ _ _ _) ?_
 refine ⟨fun h => by simp at h, ?_⟩
 try simp only [Act.put, pu1, pu2, pu3]
 refine wpAnyU_done (by kernel_rfl) (fun wF huE => ?_) _
 have gR := (gK.setRow #[.bool ((!(p == q)) && decide (0 < nl (X * Y))), .slice a1 (nl (X * Y)) c1]).up huE
 have gA := (((hRP.up hwM).up hw2).setRow (D := #[.bool ((!(p == q)) && decide (0 < nl (X * Y))), .slice a1 (nl (X * Y)) c1]) gK).up huE
 have gB := below_up (below_setRow (below_up (below_up (below_up hSB hwP) hwM) hw2) (show w.heap.size <= w.heap.size + 1 + 1 by omega) #[.bool ((!(p == q)) && decide (0 < nl (X * Y))), .slice a1 (nl (X * Y)) c1]) huE
 have gBig := big_made (!(p == q)) gA
 clear gK hRP hwP hwM hw2 huE hS1 hS2 hS3 hS4 hS5 hSB hSS gA
 go_wp2
 exact bodyPost_ret (resB rfl rfl gR rfl) rfl ⟨gB, _, rfl, gBig⟩
theorem mul_big {x y : Int} {va vb : Value} {w : World} (ha : Big w va x) (hb : Big w vb y) (hx : nl x.natAbs < 50000) (hy : nl y.natAbs < 50000) :
   Calls Tryz.prog 37 #[va, vb] w fun e w' => Up w w' /\ ∃ v, e = .returned v /\ Big w' v (x * y) := by
 obtain ⟨a, ca, rfl, hA⟩ := ha
 obtain ⟨b, cb, rfl, hB⟩ := hb
 have h := mul_pm (decide (x < 0)) (decide (y < 0)) x.natAbs y.natAbs a b ca cb w hA hB hx hy
 rw [<- pm_int, <- pm_int] at h
 exact h
theorem row_one {w : World} {b X : Nat} (h : b = w.heap.size) : Row (w.alloc (.cells #[.int .u64 (X : Nat)] 76)) b 76 1 (fun _ => X) :=
 row_new _ 1 _ _ h (by unfold cells; rfl)
theorem am_one {w : World} {b X : Nat} (hX : X < 18446744073709551616) (h0 : 0 < X) (hR : Row w b 76 1 (fun _ => X)) : Am w (.slice (some ⟨b, 0, none⟩) 1 1) X /\ nl X = 1 := by
 have h := am_row (n := 1) (c := 1) hR (Nat.le_refl _) (Nat.le_refl _) (fun _ _ => hX)
 have e1 : sumL (fun _ => X) 1 = X := by rw [sumL_succ, sumL_zero, bp_zero]; omega
 have e2 : lenL (fun _ => X) 1 = 1 := by rw [lenL_succ, if_neg (by omega)]
 have e3 := nl_sum (S := fun _ => X) (n := 1) (fun _ _ => hX)
 rw [e1, e2] at h e3
 exact ⟨h, e3⟩
theorem of_big (v : Int) (h1 : -9223372036854775808 <= v) (h2 : v < 9223372036854775808) (w : World) :
   Calls Tryz.prog 30 #[.int .i64 v] w fun e w' => Up w w' /\ ∃ u, e = .returned u /\ Big w' u v := by
 obtain ⟨X, hX⟩ : ∃ X, X = v.natAbs := ⟨_, rfl⟩
 by_cases h0 : v < 0
 ·have d0 : decide (v < 0) = true := decide_eq_true h0
  have e1 : IntKind.i64.wrap (v + 1) = v + 1 := IntWalk.i64_in _ (by omega)
  have e2 : IntKind.i64.wrap (-(v + 1)) = -(v + 1) := IntWalk.i64_in _ (by omega)
  obtain ⟨Y, hY⟩ : ∃ Y : Nat, (Y : Int) = -(v + 1) := ⟨(-(v + 1)).toNat, by omega⟩
  have e3 : IntKind.u64.wrap (-(v + 1)) = (Y : Nat) := by rw [IntKind.wrap_u64]; omega
  have e4 : IntKind.u64.wrap ((Y : Int) + 1) = (X : Nat) := by rw [IntKind.wrap_u64]; omega
  have HM := hid (fun a n c w => made_any true a n c w)
  have HX := hid hX
  have HX64 := hid (show X < 18446744073709551616 /\ 0 < X by omega)
  clear hX hY
  go_enter Tryz.func30, Tryz.ntmps30
  go_wp2_with (first | ((with_reducible apply stB_P); exact rfl; exact rfl; exact gBlk; exact rfl; exact rfl; exact one2 _ _ _ _) | (go_at_call 49; (with_reducible refine (HM.out _ _ _ _).mono ?_); rintro e wM ⟨rfl, hu⟩))
  have hR : Row ((w.alloc (Obj.cells #[Value.bool false, Value.slice none 0 0] 59)).alloc (Obj.cells #[Value.int IntKind.u64 (X : Nat)] 76)) (w.heap.size + 1) 76 1 (fun _ => X) := row_one (by simp)
  have hA := am_one HX64.out.1 HX64.out.2 (hR.up hu)
  have hB := big_made true (hA.2.symm ▸ hA.1)
  have hv : pm true X = v := by have := HX.out; simp only [pm, if_true]; omega
  rw [hv, hA.2, show (true && decide (0 < 1)) = true from rfl] at hB
  have hK : Blk wM w.heap.size 59 #[.bool false, .slice none 0 0] := gBlk
  exact bodyPost_ret (resB rfl rfl (hK.setRow _) rfl) rfl ⟨gUp, _, rfl, hB.setRow hK⟩
 ·have d0 : decide (v < 0) = false := decide_eq_false h0
  have e3 : IntKind.u64.wrap v = (X : Nat) := by rw [IntKind.wrap_u64]; omega
  have HM := hid (fun a n c w => made_any false a n c w)
  have HX := hid hX
  have HX64 := hid (show X < 18446744073709551616 by omega)
  clear hX
  have eS : sumL (fun _ => X) 1 = X := by rw [sumL_succ, sumL_zero, bp_zero]; omega
  have eL : lenL (fun _ => X) 1 = nl X := by
   have e3 := nl_sum (S := fun _ => X) (n := 1) (fun _ _ => HX64.out)
   rw [eS] at e3
   exact e3.symm
  have hR : Row ((w.alloc (Obj.cells #[Value.bool false, Value.slice none 0 0] 59)).alloc (Obj.cells #[Value.int IntKind.u64 (X : Nat)] 76)) (w.heap.size + 1) 76 1 (fun _ => X) := row_one (by simp)
  have hT := trim_row (w.heap.size + 1) 1 1 1 (fun _ => X) _ hR (Nat.le_refl _) (Nat.le_refl _) (by decide)
  have hA := am_row (c := 1) hR (Nat.le_refl _) (Nat.le_refl _) (fun _ _ => HX64.out)
  rw [eL] at hT hA
  rw [eS] at hA
  have HT := hid hT
  have HA := hid hA
  clear hT hA hR eL eS
  go_enter Tryz.func30, Tryz.ntmps30
  go_wp2_with (first | ((with_reducible apply stB_P); exact rfl; exact rfl; exact gBlk; exact rfl; exact rfl; exact one2 _ _ _ _) | (go_at_call 49; (with_reducible refine (HM.out _ _ _ _).mono ?_); rintro e wM ⟨rfl, hu⟩) | (go_at_call 50; (with_reducible refine HT.out.mono ?_); rintro e wT ⟨rfl, hv⟩))
  have hB := big_made false ((HA.out.up hv).up hu)
  have hv' : pm false X = v := by have := HX.out; simp only [pm, Bool.false_eq_true, if_false]; omega
  rw [hv', Bool.false_and] at hB
  have hK : Blk wM w.heap.size 59 #[.bool false, .slice none 0 0] := gBlk
  exact bodyPost_ret (resB rfl rfl (hK.setRow _) rfl) rfl ⟨gUp, _, rfl, hB.setRow hK⟩
theorem sgn_cmp {x y : Int} : sgn (x - y) = cmpZ x y := by
 unfold sgn cmpZ
 split <;> split <;> (try split) <;> (try split) <;> first | rfl | omega
theorem cmp_big {x y : Int} {va vb : Value} {w : World} (ha : Big w va x) (hb : Big w vb y) (hx : nl x.natAbs < 50000) (hy : nl y.natAbs < 50000) :
   Calls Tryz.prog 61 #[va, vb] w fun e w' => e = .returned (.int .i64 (cmpZ x y)) /\ Up w w' := by
 obtain ⟨p, a, n, ca, rfl⟩ := ha.shape
 obtain ⟨q, b, m, cb, rfl⟩ := hb.shape
 have hA := hid ha
 have hB := hid hb
 clear ha hb
 go_enter Tryz.func61, Tryz.ntmps61
 go_wp2_with (first | ((with_reducible apply ldB_P); exact rfl; exact rfl; exact gBlk; exact rfl) | (go_at_call 29; (with_reducible refine (sub_big (hA.out.up gUp) (hB.out.up gUp) hx hy).mono ?_); rintro e wS ⟨huS, v, rfl, hv⟩; obtain ⟨a1, c1, rfl, -⟩ := hv) | (go_at_call 52; (with_reducible refine (bsign_any _ _ _ _ _).mono ?_); rintro e wT ⟨rfl, huT⟩))
 go_ret
 exact ⟨ret_int (by rw [sgn_big, sgn_cmp]), gUp⟩
theorem nl_one {X : Nat} (h : nl X = 1) : X < 18446744073709551616 /\ 0 < X /\ limb X 0 = X := by
 have h1 := lt_bp_nl X
 rw [h, bp_succ, bp_zero] at h1
 have h2 := nl_pos_iff.1 (show 0 < nl X by omega)
 refine ⟨by omega, h2, ?_⟩
 rw [limb0, Nat.mod_eq_of_lt (by omega)]
theorem nl_two {X : Nat} (h : 1 < nl X) : 18446744073709551616 <= X := by
 have h1 := bp_le_nl (show 0 < nl X by omega)
 have h2 := bp_mono (show 1 <= nl X - 1 by omega)
 rw [bp_succ, bp_zero] at h2
 omega
set_option maxHeartbeats 1000000 in
theorem int64_big {z : Int} {v : Value} {w : World} (h : Big w v z) (hz : nl z.natAbs < 50000) :
   Calls Tryz.prog 39 #[v] w fun e w' => e = .returned (i64V z) /\ Up w w' := by
 obtain ⟨a, c, rfl, hA⟩ := h
 obtain ⟨a', c', he, hc, hcell⟩ := hA.open
 obtain ⟨rfl, -, rfl⟩ : a = a' /\ True /\ c = c' := by simpa using he
 clear he hA
 have hpm := pm_int z
 obtain ⟨p, hp⟩ : ∃ p, decide (z < 0) = p := ⟨_, rfl⟩
 obtain ⟨X, hX⟩ : ∃ X, z.natAbs = X := ⟨_, rfl⟩
 rw [hp, hX] at hpm
 rw [hp, hX]
 rw [hX] at hc hcell hz
 rw [hpm]
 clear hpm hp hX
 rcases Nat.lt_trichotomy (nl X) 1 with hn | hn | hn
 ·have h0 : nl X = 0 := by omega
  have hX0 : X = 0 := by
   rcases Nat.eq_zero_or_pos X with h | h
   ·exact h
   ·have := nl_pos h; omega
  have e : i64V (pm p X) = .tuple #[.int .i64 0, .bool true] := by
   subst hX0
   rw [i64V_yes (by cases p <;> simp [pm])]
   cases p <;> simp [pm]
  rw [e, h0]
  clear hcell e
  go_enter Tryz.func39, Tryz.ntmps39
  go_wp2
  go_ret2
  exact ⟨rfl, gUp⟩
 ·obtain ⟨h64, hpos, hl⟩ := nl_one hn
  obtain ⟨b, rfl, hb, hcb⟩ := hcell 0 (by omega)
  rw [hl] at hcb
  rw [hn] at hc ⊢
  clear hcell
  have hcW : ((w.alloc (Obj.cells #[Value.bool p, Value.slice (some { block := b, off := 0 }) 1 c] 59))).cell? ⟨b, 0, none⟩ = some (.int .u64 (X : Nat)) := hcb _ gUp
  clear hcb hl hn
  by_cases h1 : 9223372036854775808 < X
  ·have e : i64V (pm p X) = .tuple #[.int .i64 0, .bool false] := i64V_no (by cases p <;> simp only [pm, Bool.false_eq_true, if_false, if_true] <;> omega)
   rw [e]
   have d1 : decide ((9223372036854775808 : Int) < X) = true := decide_eq_true (by omega)
   clear e
   go_enter Tryz.func39, Tryz.ntmps39
   go_wp2
   go_ret2
   exact ⟨rfl, gUp⟩
  ·have d1 : decide ((9223372036854775808 : Int) < X) = false := decide_eq_false (by omega)
   cases p with
   | true =>
     have e : i64V (pm true X) = .tuple #[.int .i64 (-(X : Int)), .bool true] := i64V_yes (by simp only [pm, if_true]; omega)
     rw [e]
     obtain ⟨Y, hY⟩ : ∃ Y : Nat, Y = X - 1 := ⟨_, rfl⟩
     obtain ⟨Z, hZ⟩ : ∃ Z : Int, Z = -(X : Int) := ⟨_, rfl⟩
     have e1 : IntKind.u64.wrap ((X : Int) - 1) = (Y : Nat) := by rw [IntKind.wrap_u64]; omega
     have e2 : IntKind.i64.wrap (Y : Int) = (Y : Nat) := IntWalk.i64_in _ (by omega)
     have e3 : IntKind.i64.wrap (-(Y : Int)) = -(Y : Int) := IntWalk.i64_in _ (by omega)
     have e4 : IntKind.i64.wrap (-(Y : Int) - 1) = Z := by rw [IntKind.wrap_i64]; omega
     rw [<- hZ]
     have hY1 : Y < 9223372036854775808 := by omega
     clear e hY hZ
     go_enter Tryz.func39, Tryz.ntmps39
     go_wp2
     go_ret2
     exact ⟨rfl, gUp⟩
   | false =>
     by_cases h2 : X = 9223372036854775808
     ·subst h2
      have e : i64V (pm false 9223372036854775808) = .tuple #[.int .i64 0, .bool false] := i64V_no (by simp [pm])
      rw [e]
      clear e
      go_enter Tryz.func39, Tryz.ntmps39
      go_wp2
      go_ret2
      exact ⟨rfl, gUp⟩
     ·have e : i64V (pm false X) = .tuple #[.int .i64 (X : Nat), .bool true] := i64V_yes (by simp only [pm, Bool.false_eq_true, if_false]; omega)
      rw [e]
      have d2 : ((X : Int) == 9223372036854775808) = false := by simp; omega
      have e2 : IntKind.i64.wrap (X : Int) = (X : Nat) := IntWalk.i64_in _ (by omega)
      clear e
      go_enter Tryz.func39, Tryz.ntmps39
      go_wp2
      go_ret2
      exact ⟨rfl, gUp⟩
 ·have h2 := nl_two hn
  have e : i64V (pm p X) = .tuple #[.int .i64 0, .bool false] := i64V_no (by cases p <;> simp only [pm, Bool.false_eq_true, if_false, if_true] <;> omega)
  rw [e]
  clear hcell e
  generalize nl X = n at *
  have d1 : decide ((1 : Int) < (n : Nat)) = true := decide_eq_true (by omega)
  have d0 : ((n : Int) == 0) = false := by simp; omega
  go_enter Tryz.func39, Tryz.ntmps39
  go_wp2
  go_ret2
  exact ⟨rfl, gUp⟩
theorem big_set {w : World} {v : Value} {z : Int} {g : Nat} {C D : Array Value} (hg : Blk w g 59 C) (h : Big w v z) : Big (w.setRow g D) v z := h.setRow hg
theorem big_alloc {w : World} {v : Value} {z : Int} {o : Obj} (h : Big w v z) : Big (w.alloc o) v z := h.up (Up.alloc _ _)
theorem big_amount {w : World} {b : Bool} {a : Option Addr} {n c : Nat} {z : Int} (h : Big w (.agg #[.bool b, .slice a n c]) z) : Big w (.agg #[.bool false, .slice a n c]) ((z.natAbs : Nat) : Int) := by
 obtain ⟨a', c', h1, h2⟩ := h
 obtain ⟨-, rfl, rfl, rfl⟩ : b = decide (z < 0) /\ a = a' /\ n = nl z.natAbs /\ c = c' := by simpa using h1
 exact ⟨_, _, by rw [decide_eq_false (by omega)]; rfl, h2⟩
theorem amount_any (b : Bool) (a : Option Addr) (n c : Nat) (w : World) :
   Calls Tryz.prog 62 #[.agg #[.bool b, .slice a n c]] w fun e w' => e = .returned (.agg #[.bool false, .slice a n c]) /\ Up w w' := by
 have hm := fun w => made_any false a n c w
 rw [Bool.false_and] at hm
 have HM := hid hm
 clear hm
 go_enter Tryz.func62, Tryz.ntmps62
 go_wp2_with (first | ((with_reducible apply stB_P); exact rfl; exact rfl; exact gBlk; exact rfl; exact rfl; exact one2 _ _ _ _) | (go_at_call 49; refine (HM.out _).mono ?_; rintro e w' ⟨rfl, hu⟩))
 exact bodyPost_ret (resB rfl rfl gBlk rfl) rfl ⟨rfl, gUp⟩
theorem fits_gen {z M : Int} {va : Value} {w : World} (ha : Big w va z) (hz : nl z.natAbs < 50000) (h1 : -9223372036854775808 <= M) (h2 : M < 9223372036854775808) (hm : nl M.natAbs < 50000) :
   Calls Tryz.prog 38 #[va, .int .i64 M] w fun e w' => e = .returned (.bool (decide (cmpZ ((z.natAbs : Nat) : Int) M <= 0))) /\ Up w w' := by
 obtain ⟨p, a, n, c, rfl⟩ := ha.shape
 have hA := hid (big_amount ha)
 have HO := hid (fun w => of_big M h1 h2 w)
 have HN : Hid (nl ((z.natAbs : Nat) : Int).natAbs < 50000) := hid hz
 have HM := hid hm
 obtain ⟨o, ho⟩ : ∃ o, decide (cmpZ ((z.natAbs : Nat) : Int) M <= 0) = o := ⟨_, rfl⟩
 rw [ho]
 clear ha h1 h2 hz hm
 go_enter Tryz.func38, Tryz.ntmps38
 go_wp2_with (first | ((with_reducible apply ldB_P); exact rfl; exact rfl; exact gBlk; exact rfl) | (go_at_call 62; (with_reducible refine (amount_any _ _ _ _ _).mono ?_); rintro e wA ⟨rfl, huA⟩) | (go_at_call 30; (with_reducible refine (HO.out _).mono ?_); rintro e wO ⟨huO, u, rfl, hBO⟩; obtain ⟨qo, ao, no, co, rfl⟩ := hBO.shape) | (go_at_call 61; (with_reducible refine (cmp_big (hA.out.up gUp) hBO HN.out HM.out).mono ?_); rintro e wC ⟨rfl, huC⟩))
 go_ret
 exact ⟨rfl, gUp⟩
theorem nl_bp {z : Int} {k : Nat} (hk : k < 50000) (h : z.natAbs < bp k) : nl z.natAbs < 50000 := by have := nl_le h; omega
theorem i64_bp {z : Int} (h : I64 z) : z.natAbs < bp 1 := by unfold I64 at h; rw [bp_succ, bp_zero]; omega
theorem rfits_any {z : Int} {va : Value} {w : World} (ha : Big w va z) (hz : nl z.natAbs < 50000) :
   Calls Tryz.prog 38 #[va, .int .i64 1073741824] w fun e w' => e = .returned (.bool (fit z)) /\ Up w w' := by
 have h := fits_gen (M := 1073741824) ha hz (by omega) (by omega) (nl_bp (k := 1) (by omega) (by rw [bp_succ, bp_zero]; decide))
 have he : decide (cmpZ ((z.natAbs : Nat) : Int) 1073741824 <= 0) = fit z := by
  unfold fit
  rw [decide_eq_decide]
  unfold cmpZ
  split
  ·omega
  ·split <;> omega
 rw [he] at h
 exact h
theorem rat_ent2 {v : Value} {n : Nat} {l : List Int} {i j : Nat} {w : World} (h : Sm w v n l) (n8 : n <= 8) (hln : l.length = triN n) (hij : i <= j) (hj : j < n) :
   Calls Tryz.prog 36 #[v, .int .i64 (i : Nat), .int .i64 (j : Nat)] w fun r w' => r = .returned (.int .i64 (zth l (pos n i j))) /\ Up w w' := by
 have hkl : pos n i j < l.length := by rw [hln]; exact pos_lt hij hj
 have HX := hid (fun w => (pos_idx hij hj) ▸ rat_any (n : Int) (i : Int) (j : Int) (by omega) (by omega) (by omega) (by omega) (by omega) w)
 obtain ⟨k, hk⟩ : ∃ k, pos n i j = k := ⟨_, rfl⟩
 rw [hk] at HX hkl ⊢
 obtain ⟨s, rfl, hV, hN, hl, hlen⟩ := h
 obtain ⟨p, cap, rfl, hcap, hc⟩ := hV
 obtain ⟨ad, rfl, hcell⟩ := hc k hkl
 have hcell' := (Up.alloc w (.cells #[.int .i64 (n : Int), .slice (some ad) l.length cap] 24)).cellEq hcell
 clear hc hl hk hcell hln
 go_enter Tryz.func36, Tryz.ntmps36
 go_wp2_with fail
 go_quiet ((go_at_call 40; exact Calls.quiet_of_same (HX.out _)))
 go_wp2_with fail
 go_ret
 exact ⟨rfl, up_alloc_drewN _ _ _⟩
def diC (N : Int) (l : List Int) (x : Int) : Int := if rt N l then (if (diL N.toNat l x).all fit then 0 else 21) else 23
def diR (N : Int) (l : List Int) (x : Int) : List Int := if diC N l x = 0 then diL N.toNat l x else []
def diN (N : Int) (l : List Int) (x : Int) : Int := if diC N l x = 0 then N else 0
theorem diL_len (n : Nat) (l : List Int) (x : Int) : (diL n l x).length = l.length := mk_len _ _
theorem diL_at {n : Nat} {l : List Int} (x : Int) (hn : n <= 8) (hl : l.length = triN n) {i j : Nat} (hij : i <= j) (hj : j < n) : zth (diL n l x) (pos n i j) = if i = j then zth l (pos n i j) + x else zth l (pos n i j) := by
 unfold diL
 rw [mk_at (by rw [hl]; exact pos_lt hij hj), prs_at hn hij hj]
theorem diL_row {n : Nat} {l : List Int} (x : Int) (hn : n <= 8) (hl : l.length = triN n) {i q : Nat} (hi : i < n) (h1 : pos n i i + 1 <= q) (h2 : q < pos n (i + 1) (i + 1)) : zth (diL n l x) q = zth l q := by
 have hr := pos_row hi
 obtain ⟨j, rfl, hj1, hj2⟩ : ∃ j, q = pos n i j /\ i < j /\ j < n := by
  refine ⟨i + (q - pos n i i), ?_, by omega, ?_⟩ <;> (unfold pos at *; omega)
 rw [diL_at x hn hl (by omega) hj2, if_neg (by omega)]
def rowE (n : Nat) (l : List Int) (i : Nat) : List Int := mk n fun j => ent n l i j
def sqE (n : Nat) (l : List Int) : List (List Int) := (List.range n).map fun i => rowE n l i
theorem mk_take_succ {n : Nat} (f : Nat -> Int) {j : Nat} (hj : j < n) : (mk n f).take (j + 1) = (mk n f).take j ++ [f j] := by
 unfold mk
 rw [take_map_succ f (List.range n) 0 (by simpa using hj), List.getD_eq_getElem?_getD, List.getElem?_range hj]
 rfl
theorem at_right {v : Value} {n : Nat} {l : List Int} {i j : Nat} {w : World} (hm : Sm w v n l) (hR : rt n l = true) (hi : i < n) (hj : j < n) :
   Calls Tryz.prog 47 #[v, .int .i64 (i : Nat), .int .i64 (j : Nat)] w fun r w' => r = .returned (.tuple #[.int .i64 (ent n l i j), .nilIface]) /\ Up w w' := by
 have hr : rng (n : Int) i j = true := decide_eq_true (by omega)
 have h0 : atC (n : Int) l i j = 0 := by unfold atC; rw [hR, if_pos rfl, hr, if_pos rfl]
 have h1 : atV (n : Int) l i j = ent n l i j := by unfold atV; rw [if_pos h0]
 refine (at_any (i : Int) (j : Int) hm).mono ?_
 rintro r w' ⟨u, rfl, hu, he⟩
 rw [h0] at he
 rw [h1]
 rcases he with ⟨-, h⟩ | ⟨h, -⟩
 ·subst h; exact ⟨rfl, hu⟩
 ·exact absurd rfl h
theorem ent_i64 {n : Nat} {l : List Int} (hR : rt n l = true) {i j : Nat} (hi : i < n) (hj : j < n) : I64 (ent n l i j) := by
 obtain ⟨k, _, hk, he⟩ := idx_nat hR (show rng (n : Int) i j = true from decide_eq_true (by omega))
 rw [he]
 exact fit_i64 ((rt_spec hR).2.2.2 k hk)
theorem idx_turn (n i j : Int) : idx n i j = idx n j i := by
 unfold idx
 rw [Int.min_comm i j, Int.max_comm i j]
def Mat (s : Nat) (L : List (List Int)) (M : Nat -> Nat -> Int) : Prop := L.length = s /\ ∀ i, i < s -> (L.getD i []).length = s /\ ∀ j, j < s -> zth (L.getD i []) j = M i j
def bb (k r : Nat) : Nat := 2 ^ k * (fct (r + k + 1) * 1073741824 ^ (r + k + 1))
def St (q : Int) (k : Nat) (M : Nat -> Nat -> Int) : Prop := Good q (bb k) M /\ q ≠ 0 /\ q.natAbs < bp 5
theorem Good.mono {q : Int} {b c : Nat -> Nat} {M : Nat -> Nat -> Int} (h : Good q b M) (hbc : ∀ r, b r <= c r) : Good q c M := fun r R C => by
 obtain ⟨D, h1, h2⟩ := h r R C
 exact ⟨D, h1, Nat.le_trans h2 (hbc r)⟩
def AM (n : Nat) (l : List Int) : Nat -> Nat -> Int := fun i j => if i < n /\ j < n then ent n l i j else 0
theorem AM_at {n : Nat} {l : List Int} {i j : Nat} (hi : i < n) (hj : j < n) : AM n l i j = ent n l i j := by unfold AM; rw [if_pos ⟨hi, hj⟩]
theorem AM_abs {n : Nat} {l : List Int} (hR : rt n l = true) (i j : Nat) : (AM n l i j).natAbs <= 1073741824 := by
 unfold AM
 split
 ·rename_i h
  obtain ⟨k, _, hk, he⟩ := idx_nat hR (show rng (n : Int) i j = true from decide_eq_true (by omega))
  rw [he]
  have := of_decide_eq_true ((rt_spec hR).2.2.2 k hk)
  omega
 ·simp
theorem AM_symm (n : Nat) (l : List Int) : Symm (AM n l) := fun i j => by
 unfold AM
 by_cases h : i < n /\ j < n
 ·rw [if_pos h, if_pos ⟨h.2, h.1⟩]; unfold ent; rw [idx_turn]
 ·rw [if_neg h, if_neg (fun x => h ⟨x.2, x.1⟩)]
def elimB : ByteArray := ⟨#[101, 108, 105, 109]⟩
def ErrsE (w : World) (u : Value) (e : Int) : Prop := (e = 0 /\ u = .nilIface) \/ (e ≠ 0 /\ ∃ t x, u = .iface t x /\ IsEr w u (.flt elimB (.num e)))
end Go.Proofs.YtdpgpchcgmmklaaGreatDoor
namespace Go.Proofs.YtdpgpchcgmmklaaGreatDoor
set_option maxRecDepth 100000
def bdM : Nat := 73786976294838206464
def bdB (k : Nat) : Nat := fct k * bdM ^ k
theorem bdB_bp {k : Nat} (hk : k <= 7) : bdB (0 + k + 1) < bp 9 := by
 have h : ∀ k, k <= 7 -> bdB (0 + k + 1) < 18446744073709551616 ^ 9 := by
  intro k hk
  rcases k with _ | _ | _ | _ | _ | _ | _ | _ | k
  all_goals first | decide | omega
 have e : bp 9 = 18446744073709551616 ^ 9 := by
  simp only [bp_succ, bp_zero]
 rw [e]
 exact h k hk
theorem def_pd {n : Nat} {V : Nat -> Nat -> Int} (hs : Symm V) (hV : ∀ i j, (V i j).natAbs <= bdM) : ((mins n 1 V).all fun x => decide (0 < x)) = true ↔ PD n V := by
 rw [List.all_eq_true]
 refine Iff.trans ?_ (pd_mins (n := n) (q := 1) (by decide) (Good.start hV) hs).symm
 exact ⟨fun h x hx => of_decide_eq_true (h x hx), fun h x hx => decide_eq_true (h x hx)⟩
end Go.Proofs.YtdpgpchcgmmklaaGreatDoor
namespace Go.Proofs.YtdpgpchcgmmklaaGreatDoor
open Go Go.RowKit
set_option maxRecDepth 100000
def tailV (g n c2 : Nat) : Value := .slice (some ⟨g, if c2 = 0 then 0 else 1, none⟩) n c2
theorem run_tail {ev : Operand -> Value} {w : World} {d : Option Tmp} {s : Tmp} {ty : TypeId} {pos : String} {af : Array Edge} {gd : Option (Nat × Bool)} {g n c2 : Nat} (hc : n <= c2) (hx : ev (.tmp s) = .slice (some ⟨g, 0, none⟩) (n + 1) (c2 + 1)) (hk : ev (.const (.int .i64 1)) = .int .i64 1) :
   (execOp ev { dst := d, op := .slice 51 (.tmp s) (some (.const (.int .i64 1))) none none, type := ty, pos := pos, after := af, guard := gd }).run Tryz.prog w = .ok (.value (tailV g n c2)) w := by
 unfold tailV
 rcases c2 with _ | c2
 ·obtain rfl : n = 0 := by omega
  go_simp
 ·go_simp
  intro h
  omega
theorem OwnR.open {w : World} {b : Nat} {v : Value} {L : List (List Int)} (h : OwnR w b v L) (h0 : 0 < L.length) :
   ∃ g cap C, v = .slice (some ⟨g, 0, none⟩) L.length cap /\ b <= g /\ L.length <= cap /\ Blk w g 80 C /\ ∀ i, i < L.length -> ∃ s, C[i]? = some s /\ Wb w b s (L.getD i []) := by
 obtain ⟨xs, ⟨_, h1 | ⟨g, cap, cur, hv, hbb, hB, hc, _, _, ht⟩⟩, h2⟩ := h
 ·omega
 ·refine ⟨g, cap, cur, hv, hbb, hc, hB, fun i hi => ?_⟩
  obtain ⟨s, h3, h4⟩ := h2 i hi
  rw [<- ht, List.getElem?_take_of_lt (by omega), Array.getElem?_toList] at h3
  exact ⟨s, h3, h4⟩
theorem Blk.below {a b : World} {g B : Nat} {t : TypeId} {C : Array Value} (hB : Blk a g t C) (h : Below B a b) (hg : g < B) : Blk b g t C := by
 unfold Blk
 rw [h.block g hg]
 exact hB
theorem Blk.grown {w w' : World} {g : Nat} {row : Option Nat} {t : TypeId} {C : Array Value} (hB : Blk w g t C) (hg : w.grownBy w' row) (hr : row ≠ some g) : Blk w' g t C := by
 unfold Blk
 rw [hg.block g hB.lt (fun e => hr e.symm)]
 exact hB
theorem wpL_folded {P : Program} {ops : Array Oper} {rest : List Oper} {Q : Exit -> Act -> World -> Prop} {a : Act} {w : World} (R : World -> Prop) (h : R w) (k : ∀ w', R w' -> wpList P ops Q rest a w') : wpList P ops Q rest a w := k w h
def triR (n : Nat) (f : Nat -> Nat -> Int) (i : Nat) : List Int := mk (n - i) fun j => f i (i + j)
def triE (n : Nat) (f : Nat -> Nat -> Int) : List (List Int) := (List.range n).map (triR n f)
theorem triE_len (n : Nat) (f : Nat -> Nat -> Int) : (triE n f).length = n := by unfold triE; simp
theorem triR_len (n : Nat) (f : Nat -> Nat -> Int) (i : Nat) : (triR n f i).length = n - i := mk_len _ _
theorem triR_at {n : Nat} {f : Nat -> Nat -> Int} {i j : Nat} (h : j < n - i) : zth (triR n f i) j = f i (i + j) := mk_at h
theorem triE_at {n : Nat} {f : Nat -> Nat -> Int} {i : Nat} (h : i < n) : (triE n f).getD i [] = triR n f i := by
 rw [List.getD_eq_getElem?_getD]
 unfold triE
 rw [List.getElem?_map, List.getElem?_range h]
 rfl
theorem triR_congr {n i : Nat} {f g : Nat -> Nat -> Int} (h : ∀ j, i <= j -> j < n -> f i j = g i j) : triR n f i = triR n g i := by
 refine list_ext (by rw [triR_len, triR_len]) fun j hj => ?_
 rw [triR_len] at hj
 rw [triR_at hj, triR_at hj, h (i + j) (by omega) (by omega)]
theorem triE_congr {n : Nat} {f g : Nat -> Nat -> Int} (h : ∀ i j, i < n -> i <= j -> j < n -> f i j = g i j) : triE n f = triE n g := by
 unfold triE
 refine List.map_congr_left fun i hi => triR_congr fun j h1 h2 => h i j (by simpa using hi) h1 h2
theorem triE_take_succ (n : Nat) (f : Nat -> Nat -> Int) {i : Nat} (hi : i < n) : (triE n f).take (i + 1) = (triE n f).take i ++ [triR n f i] := by
 unfold triE
 rw [take_map_succ (triR n f) (List.range n) 0 (by simpa using hi), List.getD_eq_getElem?_getD, List.getElem?_range hi]
 rfl
def bq : Nat := bp 7 * 2147483648
theorem bq_two : 2 * (bq * bq) <= bp 15 := by
 have e : bp 15 = bp 7 * bp 7 * 18446744073709551616 := by rw [<- bp_add, bp_succ 14]
 unfold bq
 rw [e, show bp 7 * 2147483648 * (bp 7 * 2147483648) = bp 7 * bp 7 * 4611686018427387904 from by rw [Nat.mul_mul_mul_comm]]
 omega
theorem bq_pos : 1 < bq := by unfold bq; have := bp_pos 7; omega
theorem bq_bp : bq < bp 15 := by
 have h1 := bq_two
 have h2 := bq_pos
 have h3 : bq * 1 <= bq * bq := Nat.mul_le_mul_left _ (by omega)
 omega
theorem bq_inR {z : Int} (h : z.natAbs < bq) : InR z := few_inR (k := 15) (by omega) (Nat.lt_trans h bq_bp)
theorem bq_mul {a b : Int} (ha : a.natAbs < bq) (hb : b.natAbs < bq) : 2 * (a * b).natAbs < bp 15 := by
 have h : (a * b).natAbs < bq * bq := by rw [Int.natAbs_mul]; exact Nat.mul_lt_mul_of_lt_of_lt ha hb
 have := bq_two
 omega
theorem bdB_bq {k : Nat} (hk : k <= 6) : bdB (0 + k + 1) < bq := by
 have h : ∀ k, k <= 6 -> bdB (0 + k + 1) < 18446744073709551616 ^ 7 * 2147483648 := by
  intro k hk
  rcases k with _ | _ | _ | _ | _ | _ | _ | k
  all_goals first | decide | omega
 have e : bq = 18446744073709551616 ^ 7 * 2147483648 := by
  unfold bq
  simp only [bp_succ, bp_zero]
 rw [e]
 exact h k hk
theorem bmins_succ (s : Nat) (q : Int) (M : Nat -> Nat -> Int) : mins (s + 1) q M = M 0 0 :: (if 0 < M 0 0 then mins s (M 0 0) (nxt q M) else []) := rfl
def Sb (q : Int) (k : Nat) (M : Nat -> Nat -> Int) : Prop := Good q (fun r => bdB (r + k + 1)) M /\ 0 < q /\ q.natAbs < bq /\ Symm M
theorem Sb.start {V : Nat -> Nat -> Int} (hV : ∀ i j, (V i j).natAbs <= bdM) (hs : Symm V) : Sb 1 0 V := ⟨Good.start hV, by decide, by have := bq_pos; show 1 < bq; omega, hs⟩
theorem Sb.small {q : Int} {k : Nat} {M : Nat -> Nat -> Int} (h : Sb q k M) (hk : k <= 6) (i j : Nat) : (M i j).natAbs < bq := Nat.lt_of_le_of_lt (h.1.entry i j) (bdB_bq hk)
theorem Sb.inR {q : Int} {k : Nat} {M : Nat -> Nat -> Int} (h : Sb q k M) (hk : k <= 7) (i j : Nat) : InR (M i j) := few_inR (k := 9) (by omega) (Nat.lt_of_le_of_lt (h.1.entry i j) (bdB_bp hk))
theorem Sb.next {q : Int} {k : Nat} {M : Nat -> Nat -> Int} (h : Sb q k M) (hk : k <= 6) (ha : 0 < M 0 0) : Sb (M 0 0) (k + 1) (nxt q M) :=
 ⟨(h.1.next (Int.ne_of_gt h.2.1) (Int.ne_of_gt ha)).mono fun r => by rw [show r + 1 + k + 1 = r + (k + 1) + 1 by omega]; exact Nat.le_refl _, ha, h.small hk 0 0, h.2.2.2.nxt q⟩
def tkB (z : Int) (A R : List Int) (q : Int) : List Int := mk R.length fun j => (z * zth R j - zth A 0 * zth A j).tdiv q
theorem tkB_tri {s i : Nat} {M : Nat -> Nat -> Int} {q : Int} (hs : Symm M) (hi : i < s) : tkB (M 0 0) ((triR (s + 1) M 0).drop (i + 1)) (triR (s + 1) M (i + 1)) q = triR s (nxt q M) i := by
 unfold tkB
 have hd : ∀ j, j < s - i -> zth ((triR (s + 1) M 0).drop (i + 1)) j = M 0 (i + j + 1) := fun j hj => by
  unfold zth
  rw [List.getD_eq_getElem?_getD, List.getElem?_drop, <- List.getD_eq_getElem?_getD]
  have h := triR_at (n := s + 1) (f := M) (i := 0) (j := i + 1 + j) (by omega)
  unfold zth at h
  rw [h]
  congr 1
  omega
 refine list_ext (by rw [mk_len, triR_len, triR_len]; omega) fun j hj => ?_
 rw [mk_len, triR_len] at hj
 rw [mk_at (by rw [triR_len]; exact hj), triR_at (by omega), triR_at (by omega), hd 0 (by omega), hd j (by omega)]
 unfold nxt chio
 rw [show i + 1 + j = i + j + 1 by omega, show i + 0 + 1 = i + 1 by omega, hs (i + 1) 0]
def Rg (w : World) (g o : Nat) (C : Array Value) (l : List Int) : Prop := Blk w g 78 C /\ ∀ j, j < l.length -> ∀ w', Blk w' g 78 C -> w'.rangeAt g (o + j * 16) (wc (zth l j))
theorem Rg.up {w w' : World} (hu : Up w w') {g o : Nat} {C : Array Value} {l : List Int} (h : Rg w g o C l) : Rg w' g o C l := ⟨h.1.up hu, h.2⟩
set_option maxHeartbeats 8000000 in
theorem tkb_any {gA oA cA : Nat} {CA : Array Value} {vr : Value} {A R : List Int} {z q : Int} {w : World} (hA : Rg w gA oA CA A) (lA : A.length = R.length) (hR : Wv w vr R) (h0 : 0 < R.length) (h8 : R.length <= 8)
   (bz : z.natAbs < bq) (bA : ∀ j, j < R.length -> (zth A j).natAbs < bq) (bR : ∀ j, j < R.length -> (zth R j).natAbs < bq) (bQ : q.natAbs < bq) (q0 : q ≠ 0) :
   Calls Tryz.prog 65 #[wideV (enc z), .slice (some ⟨gA, oA, none⟩) R.length cA, vr, wideV (enc q)] w fun r w' => ∃ v, r = .returned v /\ Up w w' /\ ∃ b, w.heap.size <= b /\ OwnW w' b v (tkB z A R q) := by
 obtain ⟨gR, cR, CR, rfl, hcR, hBR, htR⟩ := hR.open h0
 have HRR := hid (fun j (hj : j < R.length) w' (hB : Blk w' gR 78 CR) => wv_range hB htR hj)
 have HRA := hid (fun j (hj : j < R.length) => hA.2 j (by omega))
 have hBA := hA.1
 have HbA := hid bA
 have HbR := hid bR
 have hAt : ∀ j, j < R.length -> zth (tkB z A R q) j = (z * zth R j - zth A 0 * zth A j).tdiv q := fun j hj => by unfold tkB; rw [mk_at hj]
 have HAt := hid hAt
 have HT := hid (fun j (hj : j < R.length) => show (tkB z A R q).take (j + 1) = (tkB z A R q).take j ++ [zth (tkB z A R q) j] from by rw [hAt j hj]; unfold tkB; rw [mk_take_succ _ hj])
 have hlL : (tkB z A R q).length = R.length := by unfold tkB; rw [mk_len]
 have HlL := hid hlL
 obtain ⟨L', hL'⟩ : ∃ x, tkB z A R q = x := ⟨_, rfl⟩
 rw [hL'] at HAt HT HlL ⊢
 have hq : InR q := bq_inR bQ
 obtain ⟨wS, hwS⟩ : ∃ x, (w.alloc (.cells (cells 16 (limb (enc z))) 78)).alloc (.cells (cells 16 (limb (enc q))) 78) = x := ⟨_, rfl⟩
 have hBz : Row wS w.heap.size 78 16 (limb (enc z)) := by rw [<- hwS]; exact (row_newc (w := w) 78 16 (limb (enc z)) rfl).up (Up.alloc _ _)
 have hBq : Row wS (w.heap.size + 1) 78 16 (limb (enc q)) := by rw [<- hwS]; exact row_newc _ _ _ (by simp)
 have hUS : Up w wS := by rw [<- hwS]; exact (Up.alloc _ _).trans (Up.alloc _ _)
 have hBAS := hBA.up hUS
 have hBRS := hBR.up hUS
 clear hR hA htR hL' hlL hAt bA bR hBA hBR
 unfold wideV at *
 go_enter Tryz.func65, Tryz.ntmps65
 go_wp2_with fail
 go_loopg [9, 22] R.length (fun g tl ti wr => ∃ i : Nat, i <= R.length /\ R.length - i <= g /\ ti = .int .i64 (i : Nat) /\ OwnW wr wS.heap.size tl (L'.take i) /\ Up wS wr)
 case atStart => exact ⟨0, Nat.zero_le _, by omega, rfl, by rw [List.take_zero]; exact OwnW.nil _ _, Up.refl _⟩
 case round =>
  obtain ⟨i, hi, hig, rfl, hO, hu⟩ := hrel
  by_cases hlt : i < R.length
  ·have e1 : IntKind.i64.wrap ((i : Int) + 1) = (i : Int) + 1 := IntWalk.i64_in _ (by omega)
   have hbA0 := HbA.out 0 h0
   have hbAi := HbA.out i hlt
   have hbRi := HbR.out i hlt
   have b1 := bq_mul bz hbRi
   have b2 := bq_mul hbA0 hbAi
   have HM1 := hid (fun w => mul_z (bq_inR bz) (bq_inR hbRi) w)
   have HM2 := hid (fun w => mul_z (bq_inR hbA0) (bq_inR hbAi) w)
   rw [opt_yes (few_inR (k := 15) (by omega) (by omega))] at HM1
   rw [opt_yes (few_inR (k := 15) (by omega) (by omega))] at HM2
   have b3 : (z * zth R i - zth A 0 * zth A i).natAbs < bp 15 := by
    have := Int.natAbs_sub_le (z * zth R i) (zth A 0 * zth A i)
    omega
   have HS := hid (fun w => sub_z (few_inR (k := 15) (by omega) (show (z * zth R i).natAbs < bp 15 by omega)) (few_inR (k := 15) (by omega) (show (zth A 0 * zth A i).natAbs < bp 15 by omega)) w)
   rw [opt_yes (few_inR (by omega) b3)] at HS
   have HD := hid (fun w => div_any (few_inR (by omega) b3) hq w)
   have hdv : divZV (z * zth R i - zth A 0 * zth A i) q = .tuple #[wideV (enc (zth L' i)), wideV (enc ((z * zth R i - zth A 0 * zth A i).tmod q)), .bool true] := by
    unfold divZV
    rw [if_neg (by rintro (h | h); exact q0 h; exact h (few_inR (k := 15) (by omega) (tdiv_bp b3))), <- HAt.out i hlt]
   rw [hdv] at HD
   have HT9 := hid (HT.out i hlt)
   have HTk : Hid ((L'.take i).length < 1000000) := hid (by rw [List.length_take, HlL.out]; omega)
   have HRi := hid (HRR.out i hlt)
   have HA0 := hid (HRA.out 0 h0)
   have HAi := hid (HRA.out i hlt)
   clear b1 b2 b3 hdv hbA0 hbAi hbRi
   generalize (z * zth R i - zth A 0 * zth A i).tmod q = rest at *
   generalize z * zth R i - zth A 0 * zth A i = dif at *
   generalize zth L' i = num at *
   go_wp2_with fail
   have hBAr := hBAS.up hu
   have hBRr := hBRS.up hu
   have hBzr := hBz.up hu
   have hBqr := hBq.up hu
   unfold wideV at *
   refine opU (S := (fun wq => Up wr wq /\ Below w.heap.size w wq)) (req := (fun j => j != 10)) (fun _ _ h hu => ⟨(h.1).trans hu, below_up (h.2) hu⟩) ⟨(by first | exact Up.refl _ | assumption), gUp⟩ (fun wS hSS hSu => ?_)
   have ⟨hS1, hSB⟩ := hSS
   refine tkT 0 (some 26) rfl hSu hSS ?_ (hy := fun w' hSw => run_ld undW infoW _ rfl _ rfl (hBzr.up hSw.1))
   refine tkP 1 (some 27) hSu ?_
   refine tkP 2 (some 28) hSu ?_
   refine tkP 3 (some 29) hSu ?_
   refine tkT 4 (some 30) rfl hSu hSS ?_ (hy := fun w' hSw => run_ldW rfl rfl (HRi.out _ (hBRr.up hSw.1)))
   refine tkC 5 (some 31) rfl hSu hSS ?_ (hy := fun w' hSw => (HM1.out _))
   refine tkP 6 (some 25) hSu ?_
   refine tkP 7 (some 32) hSu ?_
   refine tkP 8 (some 33) hSu ?_
   refine wpAnyU_allocW (i := 9) (d := (some 11)) rfl rfl (by kernel_rfl) (by rfl) rfl hSu.out fun w2 hw2 => ?_
   try simp only [Act.put, pu1, pu2, pu3]
   refine wpAnyU_one (i := 10) rfl (by kernel_rfl) (by rfl) fun w3 hw3 => ?_
   refine wp_st_rowN infoW rfl _ _ rfl _ rfl rfl ((Row.up (row_newc _ 16 _ rfl) hw3)) ?_
   refine ⟨fun h => by simp at h, ?_⟩
   try simp only [Act.put, pu1, pu2, pu3]
   refine tkP 11 (some 12) hSu ?_
   refine wpAnyU_done (by kernel_rfl) (fun wF huE => ?_) _
   have hP1 := ((Row.up (row_newc 78 16 (fun _ => 0) (rfl : w2.heap.size = w2.heap.size)) hw3).setRow (limb (enc (z * zth R i)))).up huE
   have hx1 := up_var (hS1.trans hw2) hw3 huE
   have hlt1 := Nat.le_trans hu.size (hS1.trans hw2).size
   clear hS1 hSB hSS hw2 hw3 huE
   obtain ⟨wA, hwA⟩ : ∃ x, wF = x := ⟨_, rfl⟩
   rw [hwA] at hP1 hx1 ⊢
   clear hwA
   obtain ⟨b1, hb1⟩ : ∃ x, w2.heap.size = x := ⟨_, rfl⟩
   rw [hb1] at hP1 hlt1 ⊢
   clear hb1
   have hBAA := hBAr.up hx1
   go_wp2_with fail
   refine opU (S := (fun wq => Up wA wq /\ Below w.heap.size w wq)) (req := (fun j => j != 12)) (fun _ _ h hu => ⟨(h.1).trans hu, below_up (h.2) hu⟩) ⟨(by first | exact Up.refl _ | assumption), gUp⟩ (fun wS hSS hSu => ?_)
   have ⟨hS1, hSB⟩ := hSS
   refine tkP 0 (some 35) hSu ?_
   refine tkP 1 (some 36) hSu ?_
   refine tkT 2 (some 37) rfl hSu hSS ?_ (hy := fun w' hSw => run_ldW rfl rfl (by have h := HA0.out _ (hBAA.up hSw.1); simpa using h))
   refine tkP 3 (some 38) hSu ?_
   refine tkP 4 (some 39) hSu ?_
   refine tkP 5 (some 40) hSu ?_
   refine tkT 6 (some 41) rfl hSu hSS ?_ (hy := fun w' hSw => run_ldW rfl rfl (HAi.out _ (hBAA.up hSw.1)))
   refine tkC 7 (some 42) rfl hSu hSS ?_ (hy := fun w' hSw => (HM2.out _))
   refine tkP 8 (some 34) hSu ?_
   refine tkP 9 (some 43) hSu ?_
   refine tkP 10 (some 44) hSu ?_
   refine wpAnyU_allocW (i := 11) (d := (some 13)) rfl rfl (by kernel_rfl) (by rfl) rfl hSu.out fun w4 hw4 => ?_
   try simp only [Act.put, pu1, pu2, pu3]
   refine wpAnyU_one (i := 12) rfl (by kernel_rfl) (by rfl) fun w5 hw5 => ?_
   refine wp_st_rowN infoW rfl _ _ rfl _ rfl rfl ((Row.up (row_newc _ 16 _ rfl) hw5)) ?_
   refine ⟨fun h => by simp at h, ?_⟩
   try simp only [Act.put, pu1, pu2, pu3]
   refine tkP 13 (some 14) hSu ?_
   refine wpAnyU_done (by kernel_rfl) (fun wF huE => ?_) _
   have hP2 := ((Row.up (row_newc 78 16 (fun _ => 0) (rfl : w4.heap.size = w4.heap.size)) hw5).setRow (limb (enc (zth A 0 * zth A i)))).up huE
   have hx2 := up_var (hS1.trans hw4) hw5 huE
   clear hS1 hSB hSS hw4 hw5 huE
   obtain ⟨wB, hwB⟩ : ∃ x, wF = x := ⟨_, rfl⟩
   rw [hwB] at hP2 hx2 ⊢
   clear hwB
   obtain ⟨b2, hb2⟩ : ∃ x, w4.heap.size = x := ⟨_, rfl⟩
   rw [hb2] at hP2 ⊢
   clear hb2
   replace hP1 := hP1.up hx2
   have hx12 := hx1.trans hx2
   have hBqB := hBqr.up hx12
   have hOB := hO.up hx12
   have huB := hu.trans hx12
   clear hx1 hx2 hBAA
   generalize z * zth R i = p1 at *
   generalize zth A 0 * zth A i = p2 at *
   go_upto_region 8 with (first
    | ((with_reducible apply ld_rowP undW infoW); exact rfl; exact rfl; (first | exact hP1 | exact hP2))
    | (go_at_call 46; (with_reducible refine (HS.out _).mono ?_); rintro r w6 ⟨rfl, hu6⟩)
    | ((with_reducible apply st_rowP infoW); exact rfl; exact rfl; exact row_newz _ rfl
       refine wpL_folded (fun wd => Up w6 wd /\ Row wd w6.heap.size 78 16 (limb (enc dif))) ⟨gUp, gRow⟩ ?_
       rintro wC ⟨huC, hPd⟩))
   have hxC := hu6.trans huC
   have hBqC := hBqB.up hxC
   have hOC := hOB.up hxC
   have hUC := huB.trans hxC
   obtain ⟨b3, hb3⟩ : ∃ x, w6.heap.size = x := ⟨_, rfl⟩
   rw [hb3] at hPd ⊢
   clear hb3 hu6 huC hxC hP1 hP2 hBqB hOB huB hx12
   go_wp2_with (first
    | ((with_reducible apply ld_rowP undW infoW); exact rfl; exact rfl; (first | exact hPd | exact hBqC | exact hPn))
    | (go_at_call 83; (with_reducible refine (HD.out _).mono ?_); rintro r w7 ⟨rfl, hu7⟩)
    | ((with_reducible apply st_rowP infoW); exact rfl; exact rfl; (focus (exact gRow))
       first
       | (refine wpL_folded (fun wd => Up w7 wd /\ Row wd w7.heap.size 78 16 (limb (enc num))) ⟨below_setRow huD (Nat.le_succ _) _, hPn0.row_other _ (Nat.ne_of_lt (Nat.lt_succ_self _))⟩ ?_
          rintro wE ⟨huE, hPn⟩
          have hxE := hu7.trans huE
          have hsE := hxE.size)
       | (refine wpL_folded (fun wd => Up w7 wd /\ Row wd w7.heap.size 78 16 (limb (enc num)) /\ Row wd (w7.heap.size + 1) 78 16 (fun _ => 0)) ⟨gUp, gRow, gRow⟩ ?_
          rintro wD ⟨huD, hPn0, hZ⟩))
    | ((with_reducible apply bsW_P); exact rfl)
    | ((with_reducible apply appW (l := L'.take i) (m := [num])); exact rfl; exact rfl; exact OwnW.up (hxE.trans (Up.alloc _ _)) hOC; exact one_range rfl; (focus (have := hUC.size; simp; omega)); exact HTk.out; (focus (simp; done)); rintro v8 w8 hO8 - hb8))
   go_roundg (R.length - (i + 1))
   case measure => omega
   case rel => exact ⟨i + 1, hlt, Nat.le_refl _, rfl, by rw [HT9.out]; exact hO8, Below.trans (hUC.trans (hxE.trans (Up.alloc _ _))) hb8⟩
  ·obtain rfl : i = R.length := by omega
   rw [List.take_of_length_le (by rw [HlL.out]; exact Nat.le_refl _)] at hO
   go_wp2_with fail
   go_ret
   exact ⟨_, rfl, hUS.trans hu, _, hUS.size, hO⟩
theorem fill_oneR (p : Option Addr) (m n : Nat) (z : Array Value) : Instr.fill (fun i => some (i * 1, 1)) ((Array.range (1 * 1)).map (z[· % z.size]!)) [(0, .slice p m n)] = some #[.slice p m n] := by
 kernel_rfl
theorem bsR_wp {o : Oper} {a : Act} {w : World} {K : Act -> World -> Prop} {Q : Exit -> Act -> World -> Prop} {s : Tmp} {p : Option Addr} {m n : Nat} (ho : o.op = .buildSlice 51 1 #[(0, .tmp s)]) (hs : a.eval (.tmp s) = .slice p m n)
   (h : K (a.put o.dst (.slice (some ⟨w.heap.size, 0, none⟩) 1 1)) (w.alloc (.cells #[.slice p m n] 80))) : o.wp Tryz.prog a w K Q := by
 obtain ⟨i0, hi0, he⟩ := Option.map_eq_some_iff.1 infoRs
 simp only [Prod.mk.injEq] at he
 refine wp_buildSlice 51 80 1 _ ho #[.slice p m n] i0 _ undRs hi0 he.1 (by rw [he.2.1]; decide) (by rw [he.2.1]; decide) ?_ h
 simp only [List.map_toArray, List.map_cons, List.map_nil, hs, he.2.1]
 exact fill_oneR _ _ _ _
theorem appR_wp {o : Oper} {a : Act} {w : World} {K : Act -> World -> Prop} {Q : Exit -> Act -> World -> Prop} {s u : Operand} {base g c : Nat} {v : Value} {L : List (List Int)} {x : Value} {r : List Int}
   (ho : o.op = .call { callee := .builtin .append, args := #[s, u], argTypes := #[51, 51] })
   (hs : a.eval s = v) (hu : a.eval u = .slice (some ⟨g, 0, none⟩) 1 c) (hown : OwnR w base v L) (hV : w.cell? ⟨g, 0, none⟩ = some x) (hx : Wb w base x r) (hbase : base <= w.heap.size) (hl : L.length < 1000000)
   (h : ∀ v' w', OwnR w' base v' (L ++ [r]) -> Below base w w' -> K (a.put o.dst v') w') : o.wp Tryz.prog a w K Q := by
 obtain ⟨i0, hi0, he⟩ := Option.map_eq_some_iff.1 infoRs
 simp only [Prod.mk.injEq] at he
 obtain ⟨xs, hxs, hE⟩ := hown
 have hlt := World.ownsRow.lt hxs
 have hrow : ∀ k, v.ownBlock = some k -> ∃ C, Blk w k 80 C := by
  intro k hk
  obtain ⟨_, ⟨rfl, _⟩ | ⟨g', cap, cur, rfl, _, hB, _⟩⟩ := hxs
  ·simp [Value.ownBlock] at hk
  ·simp [Value.ownBlock] at hk; subst hk; exact ⟨cur, hB⟩
 have hxl : xs.length = L.length := by have := hxs.1; omega
 obtain ⟨px, cx, rfl⟩ := hx.1.slice
 refine wp_append_own w s u 51 ho base 80 i0 _ 1 24 undRs hi0 he.1 he.2.1 he.2.2 rfl (by decide) v L.length xs hs hxs ⟨g, 0, none⟩ 1 c [.slice px r.length cx] hu rfl (fun j y hy => by
  rcases j with _ | j
  ·simp at hy; subst hy; rw [Addr.add_mid]; exact hV
  ·simp at hy) (by simp [Value.oneCell']) (by unfold maxLen; omega) (by omega) hbase ?_
 intro v' w' h1 h2 _
 refine h v' w' ⟨xs ++ [.slice px r.length cx], by rw [List.length_append]; exact h1, fun i hi => ?_⟩ ⟨h2.os, h2.tape, h2.output, h2.size, fun k hk => h2.block k (by omega) fun e => ?_⟩
 ·rw [List.length_append, List.length_singleton] at hi
  by_cases e : i < L.length
  ·obtain ⟨s', h3, h4⟩ := hE i e
   refine ⟨s', by rw [List.getElem?_append_left (by omega)]; exact h3, ?_⟩
   rw [show (L ++ [r]).getD i [] = L.getD i [] from by rw [List.getD_eq_getElem?_getD, List.getD_eq_getElem?_getD, List.getElem?_append_left e]]
   exact ⟨h4.1.grown h2 hrow, h4.2⟩
  ·obtain rfl : i = L.length := by omega
   refine ⟨_, by rw [List.getElem?_append_right (by omega), hxl, Nat.sub_self]; rfl, ?_⟩
   rw [show (L ++ [r]).getD L.length [] = r from by rw [List.getD_eq_getElem?_getD, List.getElem?_append_right (Nat.le_refl _), Nat.sub_self]; rfl]
   exact ⟨hx.1.grown h2 hrow, hx.2⟩
 ·have := hlt k e.symm
  omega
theorem rg_drop {w : World} {g : Nat} {C : Array Value} {l : List Int} (hB : Blk w g 78 C) (ht : C.toList.take (l.length * 16) = wcs l) (i : Nat) : Rg w g (i * 16) C (l.drop i) := by
 refine ⟨hB, fun j hj w' hB' => ?_⟩
 rw [List.length_drop] at hj
 have h := wv_range hB' ht (i := i + j) (by omega)
 rw [show zth (l.drop i) j = zth l (i + j) from by unfold zth; rw [List.getD_eq_getElem?_getD, List.getD_eq_getElem?_getD, List.getElem?_drop], <- Nat.add_mul]
 exact h
theorem run_from {ev : Operand -> Value} {w : World} {d : Option Tmp} {s k : Tmp} {ty : TypeId} {pos : String} {af : Array Edge} {gd : Option (Nat × Bool)} {g n c i : Nat} (hi : i + 1 < n) (hc : n <= c) (hx : ev (.tmp s) = .slice (some ⟨g, 0, none⟩) n c) (hk : ev (.tmp k) = .int .i64 ((i : Int) + 1)) :
   (execOp ev { dst := d, op := .slice 80 (.tmp s) (some (.tmp k)) none none, type := ty, pos := pos, after := af, guard := gd }).run Tryz.prog w = .ok (.value (.slice (some ⟨g, (i + 1) * 16, none⟩) (n - (i + 1)) (c - (i + 1)))) w := by
 go_simp
 rw [if_pos (by omega), if_neg (by omega)]
set_option maxHeartbeats 16000000 in
theorem fewerb_any {vr : Value} {s : Nat} {M : Nat -> Nat -> Int} {q : Int} {w : World} (hR : Rz w vr (triE (s + 1) M)) (hs : Symm M) (h8 : s + 1 <= 8) (hM : 0 < s -> ∀ i j, (M i j).natAbs < bq) (bQ : q.natAbs < bq) (q0 : q ≠ 0) :
   Calls Tryz.prog 45 #[vr, wideV (enc q)] w fun r w' => ∃ z, r = .returned z /\ Up w w' /\ ∃ b, w.heap.size <= b /\ OwnR w' b z (triE s (nxt q M)) := by
 obtain ⟨gO, cO, CO, rfl, hcO, hBO, hE⟩ := hR.open (by rw [triE_len]; omega)
 rw [triE_len] at hE hcO ⊢
 obtain ⟨sF, hsF, hWF⟩ := hE 0 (by omega)
 rw [triE_at (by omega)] at hWF
 obtain ⟨gF, cF, CF, rfl, hcF, hBF, htF⟩ := hWF.open (by rw [triR_len]; omega)
 rw [triR_len, Nat.sub_zero] at hsF hcF
 have HF0 := hid (show zth (triR (s + 1) M 0) 0 = M 0 0 from by rw [triR_at (by omega)])
 have HR0 : Hid (∀ w', Blk w' gF 78 CF -> w'.rangeAt gF 0 (wc (M 0 0))) := hid (fun w' hB => by
  have h := wv_range hB htF (i := 0) (by rw [triR_len]; omega)
  rw [HF0.out, Nat.zero_mul] at h
  exact h)
 have HE := hid (fun i (hi : i < s) => show ∃ x, CO[1 + i]? = some x /\ Wv w x (triR (s + 1) M (i + 1)) from by
  obtain ⟨x, h1, h2⟩ := hE (i + 1) (by omega)
  rw [triE_at (by omega)] at h2
  exact ⟨x, by rw [Nat.add_comm]; exact h1, h2⟩)
 obtain ⟨wJ, hwS⟩ : ∃ x, w.alloc (.cells (cells 16 (limb (enc q))) 78) = x := ⟨_, rfl⟩
 have hBox : Row wJ w.heap.size 78 16 (limb (enc q)) := by rw [<- hwS]; exact row_newc _ _ _ rfl
 have hUS : Up w wJ := by rw [<- hwS]; exact Up.alloc _ _
 have HTK := hid (fun i (hi : i < s) (x : Value) (h2 : Wv w x (triR (s + 1) M (i + 1))) (w' : World) (hu : Up wJ w') => show Calls Tryz.prog 65 #[.agg (cells 16 (limb (enc (M 0 0)))), .slice (some ⟨gF, (i + 1) * 16, none⟩) (s - i) (cF - (i + 1)), x, .agg (cells 16 (limb (enc q)))] w' (fun e w'' => Up w' w'' /\ ∃ v, e = .returned v /\ (fun v w'' => ∃ b, wJ.heap.size <= b /\ OwnW w'' b v (triR s (nxt q M) i)) v w'') from by
  have hl : (triR (s + 1) M (i + 1)).length = s - i := by rw [triR_len]; omega
  have hd : ((triR (s + 1) M 0).drop (i + 1)).length = s - i := by rw [List.length_drop, triR_len]; omega
  have hb := hM (by omega)
  have h := tkb_any (cA := cF - (i + 1)) (z := M 0 0) (q := q) ((rg_drop hBF htF (i + 1)).up (hUS.trans hu)) (by rw [hl, hd]) (h2.up (hUS.trans hu)) (by rw [hl]; omega) (by rw [hl]; omega) (hb 0 0)
   (fun j hj => by
    rw [hl] at hj
    rw [show zth ((triR (s + 1) M 0).drop (i + 1)) j = zth (triR (s + 1) M 0) (i + 1 + j) from by unfold zth; rw [List.getD_eq_getElem?_getD, List.getD_eq_getElem?_getD, List.getElem?_drop], triR_at (by omega)]
    exact hb _ _)
   (fun j hj => by rw [hl] at hj; rw [triR_at (by omega)]; exact hb _ _) bQ q0
  rw [tkB_tri hs hi, hl] at h
  refine h.mono fun _ _ h => ?_
  obtain ⟨z, rfl, hu2, b, hb2, hO⟩ := h
  exact ⟨hu2, z, rfl, b, Nat.le_trans hu.size hb2, hO⟩)
 have HML := hid (triE_len s (nxt q M))
 have HT := hid (fun k (hk : k < s) => triE_take_succ s (nxt q M) hk)
 obtain ⟨T, hT⟩ : ∃ T, triE s (nxt q M) = T := ⟨_, rfl⟩
 rw [hT] at HML HT ⊢
 have hBOS := hBO.up hUS
 have hBFS := hBF.up hUS
 have hc0 := hBOS.cell 0 hsF
 obtain ⟨m0, hm0⟩ : ∃ y, M 0 0 = y := ⟨_, rfl⟩
 rw [hm0] at HR0 HTK
 obtain ⟨c2, rfl⟩ : ∃ c2, cO = c2 + 1 := ⟨cO - 1, by omega⟩
 clear hR hE hWF htF hM hs bQ q0 hm0 hT hBO hBF HF0
 unfold wideV at *
 go_enter Tryz.func45, Tryz.ntmps45
 go_wp2_with fail
 refine opU (S := (fun wq => wq.cell? ⟨gO, 0, none⟩ = some (.slice (some ⟨gF, 0, none⟩) (s + 1) cF) /\ Up wJ wq /\ Below w.heap.size w wq)) (req := (fun _ => true)) (fun _ _ h hu => ⟨hu.cell (h.1), (h.2.1).trans hu, below_up (h.2.2) hu⟩) ⟨(by first | assumption | (apply Blk.cell; exact gBlk; exact rfl)), (by first | exact Up.refl _ | assumption), gUp⟩ (fun wS hSS hSu => ?_)
 have ⟨hS1, hS2, hSB⟩ := hSS
 refine tkP 0 (some 10) hSu ?_
 refine tkP 1 (some 11) hSu ?_
 refine tkT 2 (some 12) rfl hSu hSS ?_ (hy := fun w' hSw => by ((try dsimp only at hSw); (try obtain ⟨_, _, _⟩ := hSw); go_simp; (try exact rfl)))
 refine tkP 3 (some 13) hSu ?_
 refine tkO 4 (some 14) rfl hSu ?_ (hy := fun w' => run_tail (by omega) rfl rfl)
 refine tkP 5 (some 5) hSu ?_
 refine tkP 6 (some 6) hSu ?_
 refine wpAnyU_done (by kernel_rfl) (fun wF huE => ?_) _
 have hX1 := hS2.trans huE
 obtain ⟨w1, hw1⟩ : ∃ x, wF = x := ⟨_, rfl⟩
 rw [hw1] at hX1 ⊢
 clear hw1 hS1 hS2 hSB hSS huE hc0
 obtain ⟨pT, hpT⟩ : ∃ y, tailV gO s c2 = .slice y s c2 := ⟨_, rfl⟩
 have HpT := hid hpT
 rw [hpT]
 clear hpT
 go_wp2_with fail
 go_loopg [7, 17] s (fun g tr ti wr => ∃ i : Nat, i <= s /\ s - i <= g /\ ti = .int .i64 (i : Nat) /\ OwnR wr wJ.heap.size tr (T.take i) /\ Up wJ wr)
 case atStart => exact ⟨0, Nat.zero_le _, by omega, rfl, by rw [List.take_zero]; exact OwnR.nil _ _, hX1⟩
 case round =>
  obtain ⟨i, hi, hig, rfl, hO, hu⟩ := hrel
  by_cases hlt : i < s
  ·obtain ⟨x, hx, hWx⟩ := HE.out i hlt
   obtain ⟨px, cx, rfl⟩ := hWx.slice
   have e1 : IntKind.i64.wrap ((i : Int) + 1) = (i : Int) + 1 := IntWalk.i64_in _ (by omega)
   have hcx : wr.cell? ⟨gO, 1 + i, none⟩ = some (.slice px (triR (s + 1) M (i + 1)).length cx) := (hBOS.up hu).cell _ hx
   have HTKi := hid (fun w' (hu' : Up wJ w') => HTK.out i hlt _ hWx w' hu')
   have hrl : (triR (s + 1) M (i + 1)).length = s - i := by rw [triR_len]; omega
   rw [hrl] at HTKi hcx
   have HT9 := hid (HT.out i hlt)
   have HTk : Hid ((T.take i).length < 1000000) := hid (by rw [List.length_take, HML.out]; omega)
   have hpT1 : pT = some ⟨gO, 1, none⟩ := by
    have h := HpT.out
    unfold tailV at h
    rw [if_neg (by omega)] at h
    injection h with h _ _
    exact h.symm
   subst hpT1
   clear hrl hx hWx HE
   go_upto_region 6 with fail
   have hBFr := hBFS.up hu
   have hBxr := hBox.up hu
   have es : s + 1 - (i + 1) = s - i := by omega
   have hsu := hu.size
   refine opU (S := (fun wq => Up wr wq /\ Below w.heap.size w wq)) (req := (fun j => j != 11 && j != 12)) (fun _ _ h hu => ⟨(h.1).trans hu, below_up (h.2) hu⟩) ⟨(by first | exact Up.refl _ | assumption), gUp⟩ (fun wS hSS hSu => ?_)
   have ⟨hS1, hSB⟩ := hSS
   refine tkP 0 (some 22) hSu ?_
   refine tkP 1 (some 23) hSu ?_
   refine tkP 2 (some 24) hSu ?_
   refine tkT 3 (some 25) rfl hSu hSS ?_ (hy := fun w' hSw => run_ldW rfl rfl (HR0.out _ (hBFr.up hSw.1)))
   refine tkP 4 (some 26) hSu ?_
   refine tkP 5 (some 27) hSu ?_
   refine tkP 6 (some 28) hSu ?_
   refine tkO 7 (some 29) rfl hSu ?_ (hy := fun w' => run_from (n := s + 1) (i := i) (by omega) hcF rfl rfl)
   refine tkP 8 (some 30) hSu ?_
   refine tkT 9 (some 31) rfl hSu hSS ?_ (hy := fun w' hSw => run_ld undW infoW _ rfl _ rfl (hBxr.up hSw.1))
   try rw [es]
   refine wpAnyU_callE (i := 10) (d := (some 32)) rfl rfl (by kernel_rfl) (by rfl) hSu.out (fun w' => by go_simp) (fun w' hw' => (HTKi.out w' (hu.trans (hS1.trans hw')))) fun vG wG hwG hRG => ?_
   try simp only [Act.put, pu1, pu2, pu3]
   obtain ⟨bN, hbN, hON⟩ := hRG
   obtain ⟨pN, cN, rfl⟩ := hON.slice
   have hxG := hS1.trans hwG
   refine wpAnyU_one (i := 11) rfl (by kernel_rfl) (by rfl) fun w6 hw6 => ?_
   refine bsR_wp rfl rfl ?_
   refine ⟨fun h => by simp at h, ?_⟩
   try simp only [Act.put, pu1]
   refine wpAnyU_one (i := 12) rfl (by kernel_rfl) (by rfl) fun w7 hw7 => ?_
   have hx7 := (hxG.trans (hw6.trans (Up.alloc _ _))).trans hw7
   have hs7 := hx7.size
   refine appR_wp (L := T.take i) (r := triR s (nxt q M) i) rfl rfl rfl (OwnR.up hx7 hO) (((Blk.new _ _ rfl).up hw7).cell 0 rfl) ((((hON.up hw6).up (Up.alloc _ _)).up hw7).wb hbN) (by omega) HTk.out ?_
   rintro v8 w8 hO8 hb8
   refine ⟨fun h => by simp at h, ?_⟩
   try simp only [Act.put]
   refine tkP 13 (some 7) hSu ?_
   refine wpAnyU_done (by kernel_rfl) (fun wF huE => ?_) _
   go_wp2_with fail
   go_roundg (s - (i + 1))
   case measure => omega
   case rel => exact ⟨i + 1, hlt, Nat.le_refl _, rfl, by rw [HT9.out]; exact hO8.up huE, Below.trans (Below.trans (hu.trans hx7) hb8) (Below.mono huE (by have := hb8.size; omega))⟩
  ·obtain rfl : i = s := by omega
   rw [<- HML.out, List.take_length] at hO
   go_wp2_with fail
   go_ret
   exact ⟨_, rfl, hUS.trans hu, _, hUS.size, hO⟩
def Lead (s : Nat) (M : Nat -> Nat -> Int) (F : List Int) (M' : Nat -> Nat -> Int) : Prop :=
 F.length = s + 1 /\ (∀ j, j < s + 1 -> zth F j = M' 0 j) /\ M' 0 0 ≠ 0 /\ (M' = M \/ ∃ i, i ≠ 0 /\ i < s + 1 /\ M' = add0 i M)
def detC (N : Int) (l : List Int) : Int := if rt N l then 0 else 23
def detV (N : Int) (l : List Int) : Int := if rt N l then det N.toNat (AM N.toNat l) else 0
def RInv (w : World) (base bx rs : Nat) (n : Int) (sA : Value) (new old : List Int) (p : Nat) (wr : World) : Prop :=
 OwnI wr base sA (mixed new old p) /\ (∀ q, q < p -> fit (zth new q) = true) /\ Blk wr bx 24 #[.int .i64 n, sA] /\ Blk wr rs 24 #[.int .i64 0, .slice none 0 0] /\ Up w wr
theorem In64.mixed {new old : List Int} (hl : new.length = old.length) (h : In64 old) {p : Nat} (hf : ∀ q, q < p -> fit (zth new q) = true) : In64 (mixed new old p) := by
 intro i hi
 rw [mixed_len hl] at hi
 rw [mixed_get hl _ hi]
 split
 ·rename_i h1; exact fit_i64 (hf i h1)
 ·exact h i hi
theorem OwnI.sm {w : World} {base : Nat} {s : Value} {l : List Int} {N : Int} (h : OwnI w base s l) (hN : I64 N) (hl : In64 l) (hn : l.length <= 1000) : Sm w (.agg #[.int .i64 N, s]) N l := ⟨s, rfl, h.vw, hN, hl, hn⟩
set_option maxHeartbeats 8000000 in
theorem rdiag_any {v : Value} {N : Int} {l : List Int} (x : Int) {w : World} (hm : Sm w v N l) (hx : I64 x) :
   Calls Tryz.prog 20 #[v, .int .i64 x] w (RSymPost w (diN N l x) (diR N l x) (diC N l x)) := by
 have HR := hid (fun w' (hu : Up w w') => rright_any (hm.up hu))
 have HCP := hid (fun w' (hu : Up w w') => copy_any (hm.up hu))
 obtain ⟨s, rfl, hV, hN, hl, hlen⟩ := hm
 obtain ⟨p, cap, rfl, hcap, hc⟩ := hV
 obtain ⟨W0, hW0⟩ : ∃ W0, (w.alloc (.cells #[.int .i64 N, .slice p l.length cap] 24)).alloc (.cells #[.int .i64 0, .slice none 0 0] 24) = W0 := ⟨_, rfl⟩
 have hB : Blk W0 w.heap.size 24 #[.int .i64 N, .slice p l.length cap] := by rw [<- hW0]; exact (Blk.new _ _ rfl).old _
 have hQ : Blk W0 (w.heap.size + 1) 24 #[.int .i64 0, .slice none 0 0] := by rw [<- hW0]; exact Blk.new _ _ (by simp)
 have hU : Up w W0 := by rw [<- hW0]; exact (Up.alloc _ _).trans (Up.alloc _ _)
 cases hR : rt N l with
 | false =>
   have e : diC N l x = 23 := by unfold diC; rw [hR]; rfl
   have e2 : diR N l x = [] := by unfold diR; rw [e]; rfl
   have e3 : diN N l x = 0 := by unfold diN; rw [e]; rfl
   rw [e, e2, e3]
   rw [hR] at HR
   clear e e2 e3 hR hc hl hN
   go_enter Tryz.func20, Tryz.ntmps20
   go_wp2_with (first
    | ((with_reducible apply ldM_P); exact rfl; exact rfl; exact hB; exact rfl)
    | (go_at_call 27; (with_reducible refine (HR.out _ hU).mono ?_); rintro r w1 ⟨rfl, hu1⟩; replace hQ := hQ.up hu1)
    | ((with_reducible apply stM_P); exact rfl; exact rfl; exact hQ; exact rfl; exact rfl; exact two2 _ _ _ _ _))
   exact bodyPost_ret (resMs (u := .int .i64 23) rfl rfl rfl (hQ.setRow _) rfl) rfl (RSymPost.err 23 (hU.trans hu1) (by omega))
 | true =>
   rw [hR] at HR
   obtain ⟨n0, n8, htri, _⟩ := rt_spec hR
   obtain ⟨n, rfl⟩ : ∃ n : Nat, N = (n : Int) := ⟨N.toNat, by omega⟩
   rw [tri_nat] at htri
   have n8' : n <= 8 := by omega
   have hln : l.length = triN n := by omega
   have eN : ((n : Int)).toNat = n := by omega
   obtain ⟨L', hL'⟩ : ∃ L', diL n l x = L' := ⟨_, rfl⟩
   have HlL : Hid (L'.length = l.length) := hid (by rw [<- hL', diL_len])
   have Hat : Hid (∀ i, i < n -> zth L' (pos n i i) = zth l (pos n i i) + x) := hid (fun i hi => by rw [<- hL', diL_at x n8' hln (Nat.le_refl _) hi, if_pos rfl])
   have Hrow : Hid (∀ i q, i < n -> pos n i i + 1 <= q -> q < pos n (i + 1) (i + 1) -> zth L' q = zth l q) := hid (fun i q hi h1 h2 => by rw [<- hL']; exact diL_row x n8' hln hi h1 h2)
   have Hfl := hid (rt_spec hR).2.2.2
   obtain ⟨hc9, hd9⟩ : (∀ k, k < L'.length -> fit (zth L' k) = false -> RSymPost w (diN n l x) (diR n l x) (diC n l x) = RSymPost w 0 [] 21) /\
      ((∀ k, k < L'.length -> fit (zth L' k) = true) -> RSymPost w (diN n l x) (diR n l x) (diC n l x) = RSymPost w n L' 0) := by
    refine ⟨fun k hk hf => ?_, fun hf => ?_⟩
    ·have e : diC n l x = 21 := by unfold diC; rw [hR, eN, hL', all_no hk hf]; rfl
     unfold diN diR; rw [e]; rfl
    ·have e : diC n l x = 0 := by unfold diC; rw [hR, eN, hL', all_yes hf]; rfl
     unfold diN diR; rw [e, if_pos rfl, if_pos rfl, eN, hL']
   have Hbad := hid hc9
   have Hgood := hid hd9
   obtain ⟨PP, hPP⟩ : ∃ PP, RSymPost w (diN n l x) (diR n l x) (diC n l x) = PP := ⟨_, rfl⟩
   rw [hPP] at Hbad Hgood ⊢
   have HN64 := hid hN
   have HLn := hid hln
   have Hl64 := hid hl
   have hx64 := hid hx
   have HOx := hid (fun w => of_big x hx.1 hx.2 w)
   clear hPP hc9 hd9 hL' hc hl hx hR htri hln hN eN hcap n0 n8
   go_enter Tryz.func20, Tryz.ntmps20
   go_wp2_with (first
    | ((with_reducible apply ldM_P); exact rfl; exact rfl; exact hB; exact rfl)
    | (go_at_call 27; (with_reducible refine (HR.out _ hU).mono ?_); rintro r w1 ⟨rfl, hu1⟩; replace hQ := hQ.up hu1; replace hB := hB.up hu1; replace hU := hU.trans hu1)
    | (go_at_call 17; (with_reducible refine (HCP.out _ hU).mono ?_); rintro r w2 ⟨sA, rfl, hu2, hO⟩; have hlt := hB.lt; have hlt2 := hQ.lt; replace hQ := hQ.up hu2; replace hB := hB.up hu2; replace hU := hU.trans hu2; obtain ⟨pA, nA, cA, rfl⟩ := OwnI.slice hO; have hO2 := OwnI.setRow (D := #[.int .i64 (n : Int), .slice pA nA cA]) hO hB; have hB2 := hB.setRow #[.int .i64 (n : Int), .slice pA nA cA]; have hQ2 := Blk.row_other hQ #[.int .i64 (n : Int), .slice pA nA cA] (show w.heap.size + 1 ≠ w.heap.size by omega); have hU2 := below_setRow hU (Nat.le_refl _) #[.int .i64 (n : Int), .slice pA nA cA])
    | ((with_reducible apply stM_P); exact rfl; exact rfl; exact hB; exact rfl; exact rfl; exact two2 _ _ _ _ _))
   obtain ⟨base, hbase⟩ : ∃ b, w1.heap.size = b := ⟨_, rfl⟩
   have hbs : w.heap.size + 1 < base := by omega
   rw [hbase] at hO2
   clear hbase hlt hlt2 hu1 hu2 hO hB hQ hU
   go_loopg [6] n (fun g ti wr => ∃ i : Nat, i <= n /\ n - i <= g /\ ti = .int .i64 (i : Nat) /\ RInv w base w.heap.size (w.heap.size + 1) n (.slice pA nA cA) L' l (pos n i i) wr)
   case atStart => exact ⟨0, Nat.zero_le _, by omega, rfl, by rw [pos_zero, mixed_zero]; exact hO2, fun q hq => by rw [pos_zero] at hq; omega, hB2, hQ2, hU2⟩
   case round =>
    clear hB2 hQ2 hU2 hO2
    obtain ⟨i, hi, hig, rfl, hO, hfits, hB, hQ, hU⟩ := hrel
    have hc0 := hB.cell 0 rfl
    by_cases hlt : i < n
    ·have e1 : IntKind.i64.wrap ((i : Int) + 1) = (i : Int) + 1 := IntWalk.i64_in _ (by omega)
     have hkl : pos n i i < l.length := by rw [HLn.out]; exact pos_lt (Nat.le_refl _) hlt
     have hM64 := In64.mixed HlL.out Hl64.out hfits
     have HSm := hid (hO.sm HN64.out hM64 (by rw [mixed_len HlL.out]; exact hlen))
     have HAt := hid (fun w' (hu : Up wr w') => rat_ent2 (HSm.out.up hu) n8' (by rw [mixed_len HlL.out]; exact HLn.out) (Nat.le_refl i) hlt)
     have hat := Hat.out i hlt
     have HX := hid (fun w => (pos_idx (Nat.le_refl i) hlt) ▸ rat_any (n : Int) (i : Int) (i : Int) (by omega) (by omega) (by omega) (by omega) (by omega) w)
     have Hro := hid (fun q => Hrow.out i q hlt)
     have HP := hid (pos_row hlt)
     have HFit := hid hfits
     have HPS : Hid (pos n i i + 1 <= pos n (i + 1) (i + 1) /\ pos n (i + 1) (i + 1) <= l.length) := hid (by rw [HLn.out]; have := pos_row hlt; unfold pos at *; omega)
     obtain ⟨k, hk⟩ : ∃ k, pos n i i = k := ⟨_, rfl⟩
     have HK := hid hk
     rw [hk] at hkl HAt hat hO HX Hro HFit HPS
     obtain ⟨g, cp, C, hv, hbg, -⟩ := hO.open (by rw [mixed_len HlL.out]; omega)
     injection hv with x1 x2 x3
     rw [mixed_len HlL.out] at x2
     subst x1 x2 x3
     have hmx : zth (mixed L' l k) k = zth l k := mixed_at HlL.out hkl
     rw [hmx] at HAt
     have hak := Hl64.out k hkl
     have HOk := hid (fun w => of_big (zth l k) hak.1 hak.2 w)
     have n1 := nl_bp (by omega) (i64_bp hak)
     have n2 := nl_bp (by omega) (i64_bp hx64.out)
     have n3 : nl (zth l k + x).natAbs < 50000 := nl_bp (k := 2) (by omega) (by
      have b1 := i64_bp hak
      have b2 := i64_bp hx64.out
      have b3 : bp 2 = bp 1 * 18446744073709551616 := bp_succ 1
      have b4 := bp_pos 1
      omega)
     rw [<- hat] at n3
     have HS9 := hid (mixed_set HlL.out hkl)
     have HML := hid (mixed_len HlL.out k)
     have HAD := hid (fun (va vb : Value) (w : World) (ha : Big w va (zth l k)) (hb : Big w vb x) => hat ▸ add_big ha hb n1 n2)
     clear hat n1 n2 hak hk hM64 hfits
     obtain ⟨z9, hz9'⟩ : ∃ z, zth L' k = z := ⟨_, rfl⟩
     have HZ9 := hid hz9'
     rw [hz9'] at HS9 n3 HAD
     clear hz9' hmx
     generalize zth l k = ak at *
     obtain ⟨M, hM9⟩ : ∃ M, mixed L' l k = M := ⟨_, rfl⟩
     rw [hM9] at hO HS9 HML
     clear hM9 HSm
     have hkM : k < M.length := by rw [HML.out]; exact hkl
     have HN3 := hid n3
     clear n3
     cases hf : fit z9 with
     | false =>
       have HF9 := hid (fun (va : Value) (w : World) (hb : Big w va z9) => hf ▸ rfits_any hb HN3.out)
       have Hf := hid hf
       clear hf
       go_wp2_with (first
        | ((with_reducible apply ldM_P); exact rfl; exact rfl; exact hB; exact rfl)
        | ((with_reducible apply stB_P); exact rfl; exact rfl; exact gBlk; exact rfl; exact rfl; exact one2 _ _ _ _)
        | ((with_reducible apply ldB_P); exact rfl; exact rfl; exact gBlk; exact rfl)
        | (go_at_call 36; (with_reducible refine (HAt.out _ (Up.refl _)).mono ?_); rintro r w3 ⟨rfl, hu3⟩)
        | (go_at_call 30; first
           | ((with_reducible refine (HOk.out _).mono ?_); rintro r w4 ⟨hu4, u4, rfl, hb4⟩)
           | ((with_reducible refine (HOx.out _).mono ?_); rintro r w5 ⟨hu5, u5, rfl, hb5⟩))
        | (go_at_call 35; (with_reducible refine (HAD.out _ _ _ (hb4.up hu5) hb5).mono ?_); rintro r w6 ⟨hu6, u6, rfl, hb6⟩; obtain ⟨bb, ba, bn, bc, rfl⟩ := hb6.shape; have hu36 := ((hu3.trans hu4).trans hu5).trans hu6; have hBg := (Blk.new (w := w6) (b := w6.heap.size) 59 #[.bool false, .slice none 0 0] rfl).setRow #[.bool bb, .slice ba bn bc]; have hbg6 : Big _ _ z9 := big_set (D := #[.bool bb, .slice ba bn bc]) (Blk.new (w := w6) (b := w6.heap.size) 59 #[.bool false, .slice none 0 0] rfl) (big_alloc hb6); have hu6X := hu36.trans (below_setRow (Up.alloc w6 (.cells #[.bool false, .slice none 0 0] 59)) (Nat.le_refl _) #[.bool bb, .slice ba bn bc]))
        | (go_at_call 38; (with_reducible refine (HF9.out _ _ hbg6).mono ?_); rintro r w7 ⟨rfl, hu7⟩; replace hQ := (hQ.up hu6X).up hu7)
        | ((with_reducible apply stM_P); exact rfl; exact rfl; exact hQ; exact rfl; exact rfl; exact two2 _ _ _ _ _))
       rw [Hbad.out k (by rw [HlL.out]; exact hkl) (by rw [HZ9.out]; exact Hf.out)]
       exact bodyPost_ret (resMs (u := .int .i64 21) rfl rfl rfl (hQ.setRow _) rfl) rfl (RSymPost.err 21 ((hU.trans hu6X).trans hu7) (by omega))
     | true =>
       have HF9 := hid (fun (va : Value) (w : World) (hb : Big w va z9) => hf ▸ rfits_any hb HN3.out)
       have Hf := hid hf
       have HIn := hid (fun (va : Value) (w : World) (hb : Big w va z9) => (i64V_yes (fit_i64 hf)) ▸ int64_big hb HN3.out)
       clear hf
       go_wp2_with (first
        | ((with_reducible apply ldM_P); exact rfl; exact rfl; exact hB; exact rfl)
        | ((with_reducible apply stB_P); exact rfl; exact rfl; exact gBlk; exact rfl; exact rfl; exact one2 _ _ _ _)
        | ((with_reducible apply ldB_P); exact rfl; exact rfl; exact gBlk; exact rfl)
        | (go_at_call 36; (with_reducible refine (HAt.out _ (Up.refl _)).mono ?_); rintro r w3 ⟨rfl, hu3⟩)
        | (go_at_call 30; first
           | ((with_reducible refine (HOk.out _).mono ?_); rintro r w4 ⟨hu4, u4, rfl, hb4⟩)
           | ((with_reducible refine (HOx.out _).mono ?_); rintro r w5 ⟨hu5, u5, rfl, hb5⟩))
        | (go_at_call 35; (with_reducible refine (HAD.out _ _ _ (hb4.up hu5) hb5).mono ?_); rintro r w6 ⟨hu6, u6, rfl, hb6⟩; obtain ⟨bb, ba, bn, bc, rfl⟩ := hb6.shape; have hu36 := ((hu3.trans hu4).trans hu5).trans hu6; have hBg := (Blk.new (w := w6) (b := w6.heap.size) 59 #[.bool false, .slice none 0 0] rfl).setRow #[.bool bb, .slice ba bn bc]; have hbg6 : Big _ _ z9 := big_set (D := #[.bool bb, .slice ba bn bc]) (Blk.new (w := w6) (b := w6.heap.size) 59 #[.bool false, .slice none 0 0] rfl) (big_alloc hb6); have hu6X := hu36.trans (below_setRow (Up.alloc w6 (.cells #[.bool false, .slice none 0 0] 59)) (Nat.le_refl _) #[.bool bb, .slice ba bn bc]))
        | (go_at_call 38; (with_reducible refine (HF9.out _ _ hbg6).mono ?_); rintro r w7 ⟨rfl, hu7⟩; replace hQ := (hQ.up hu6X).up hu7; replace hB := (hB.up hu6X).up hu7; replace hO := (hO.up hu6X).up hu7; replace hbg6 := hbg6.up hu7; replace hBg := hBg.up hu7; replace hU := (hU.trans hu6X).trans hu7))
       have hq0 := hB.cell 0 rfl
       have hq1 := hB.cell 1 rfl
       obtain ⟨b7, hb7⟩ : ∃ b, w6.heap.size = b := ⟨_, rfl⟩
       rw [hb7] at hBg
       rw [hb7]
       clear hb7 hu36 hu6X hu3 hu4 hu5 hu6 hb4 hb5 hb6 hc0
       refine opU (S := (fun wq => Blk wq w.heap.size 24 #[.int .i64 (n : Int), .slice (some ⟨g, 0, none⟩) l.length cA] /\ wq.cell? ⟨w.heap.size, 0, none⟩ = some (.int .i64 (n : Int)) /\ wq.cell? ⟨w.heap.size, 1, none⟩ = some (.slice (some ⟨g, 0, none⟩) l.length cA) /\ Blk wq b7 59 #[.bool bb, .slice ba bn bc] /\ Big wq (.agg #[.bool bb, .slice ba bn bc]) z9 /\ OwnI wq base (.slice (some ⟨g, 0, none⟩) l.length cA) M /\ Blk wq (w.heap.size + 1) 24 #[.int .i64 0, .slice none 0 0] /\ Below w.heap.size w wq)) (req := (fun j => j != 13)) (fun _ _ h hu => ⟨(h.1).up hu, hu.cell (h.2.1), hu.cell (h.2.2.1), (h.2.2.2.1).up hu, (h.2.2.2.2.1).up hu, (h.2.2.2.2.2.1).up hu, (h.2.2.2.2.2.2.1).up hu, below_up (h.2.2.2.2.2.2.2) hu⟩) ⟨gBlk, (by first | assumption | (apply Blk.cell; exact gBlk; exact rfl)), (by first | assumption | (apply Blk.cell; exact gBlk; exact rfl)), gBlk, (by (repeat (first | assumption | ((with_reducible apply big_set); exact gBlk) | (with_reducible apply big_alloc) | ((with_reducible apply big_up); assumption))); done), (by assumption), gBlk, gUp⟩ (fun wS hSS hSu => ?_)
       have ⟨hS1, hS2, hS3, hS4, hS5, hS6, hS7, hSB⟩ := hSS
       refine tkP 0 (some 33) hSu ?_
       refine tkT 1 (some 34) rfl hSu hSS ?_ (hy := fun w' hSw => by ((try dsimp only at hSw); (try obtain ⟨_, _, _, _, _, _, _, _⟩ := hSw); go_simp; (try exact rfl)))
       refine tkP 2 (some 35) hSu ?_
       refine tkT 3 (some 36) rfl hSu hSS ?_ (hy := fun w' hSw => by ((try dsimp only at hSw); (try obtain ⟨_, _, _, _, _, _, _, _⟩ := hSw); go_simp; (try exact rfl)))
       refine tkP 4 (some 37) hSu ?_
       refine tkP 5 (some 38) hSu ?_
       refine tkC 6 (some 39) rfl hSu hSS ?_ (hy := fun w' hSw => ((HX.out _).mono fun _ _ h => ⟨h.1, by rw [h.2]; exact Up.refl _⟩))
       refine tkT 7 (some 40) rfl hSu hSS ?_ (hy := fun w' hSw => run_ldB rfl rfl hSw.2.2.2.1 rfl)
       refine tkC 8 (some 41) rfl hSu hSS ?_ (hy := fun w' hSw => (HIn.out _ _ hSw.2.2.2.2.1))
       refine tkP 9 (some 32) hSu ?_
       refine tkP 10 (some 42) hSu ?_
       refine tkP 11 (some 43) hSu ?_
       refine tkP 12 (some 44) hSu ?_
       refine wpAnyU_one (i := 13) rfl (by kernel_rfl) (by rfl) fun wZ hwZ => ?_
       obtain ⟨hcW, hfW⟩ := (hS6.up hwZ).cells hkM
       go_simp
       clear hcW hfW
       refine wpAnyU_done (by kernel_rfl) (fun wF huE => ?_) _
       have hne1 : w.heap.size ≠ g := by omega
       have hne2 : w.heap.size + 1 ≠ g := by omega
       have hO5 := ((hS6.up hwZ).set hkM z9).up huE
       rw [HS9.out, mixed_same HlL.out HPS.out.1 HPS.out.2 (fun q h1 h2 => Hro.out q h1 h2)] at hO5
       have hB5 := ((hS1.up hwZ).other ⟨g, k, none⟩ (.int .i64 z9) hne1).up huE
       have hQ5 := ((hS7.up hwZ).other ⟨g, k, none⟩ (.int .i64 z9) hne2).up huE
       have hU5 := below_up ((below_up hSB hwZ).setCell (p := ⟨g, k, none⟩) (show w.heap.size <= g by omega) (.int .i64 z9)) huE
       have HFF : Hid (∀ q, q < pos n (i + 1) (i + 1) -> fit (zth L' q) = true) := hid (fun q hq => by
        rcases Nat.lt_trichotomy q k with h1 | h1 | h1
        ·exact HFit.out q h1
        ·rw [h1, HZ9.out]; exact Hf.out
        ·rw [Hro.out q h1 hq]; exact Hfl.out q (by have := HPS.out.2; omega))
       clear hq0 hq1 hwZ
       go_wp2_with fail
       go_roundg (n - (i + 1))
       case measure => omega
       case rel => exact ⟨i + 1, by omega, Nat.le_refl _, rfl, hO5, HFF.out, hB5, hQ5, hU5⟩
    ·obtain rfl : i = n := by omega
     rw [pos_end, <- HLn.out, <- HlL.out] at hO hfits
     rw [mixed_all HlL.out] at hO
     have HI := hid (In64.of_fit hfits)
     have HG := hid (Hgood.out hfits)
     clear hfits hlt
     go_wp2_with (first
      | ((with_reducible apply ldM_P); exact rfl; exact rfl; exact hB; exact rfl)
      | ((with_reducible apply stM_P); exact rfl; exact rfl; exact hQ; exact rfl; exact rfl; exact two2 _ _ _ _ _))
     rw [HG.out]
     exact bodyPost_ret (resMs (u := .int .i64 0) rfl rfl rfl (hQ.setRow _) rfl) rfl (RSymPost.ok hU (by omega) hQ hO HN64.out HI.out (by rw [HlL.out]; exact hlen))
theorem blk_ne {w : World} {b b' : Nat} {t t' : TypeId} {C C' : Array Value} (h : Blk w b t C) (h' : Blk w b' t' C') (hne : t ≠ t') : b ≠ b' := by
 rintro rfl
 unfold Blk at h h'
 rw [h] at h'
 injection h' with h'
 injection h' with _ ht
 exact hne ht
theorem OwnI.setRowB {w : World} {base g : Nat} {v : Value} {l : List Int} {C D : Array Value} (h : OwnI w base v l) (hg : Blk w g 59 C) : OwnI (w.setRow g D) base v l := by
 refine ⟨h.1, ?_⟩
 rcases h.2 with h2 | ⟨b, cap, cur, h1, h2, h3, h4⟩
 ·exact .inl h2
 ·exact .inr ⟨b, cap, cur, h1, h2, Blk.row_other (t := 2) h3 D (blk_ne (t := 2) h3 hg (by decide)), h4⟩
theorem run_ldME {ev : Operand -> Value} {w : World} {g : Nat} {C : Array Value} {o : Oper} {x : Operand} (ho : o.op = .load 24 x) (hx : ev x = .pointer (some ⟨g, 0, none⟩)) (hC : Blk w g 24 C) (h2 : C.size = 2) : (execOp ev o).run Tryz.prog w = .ok (.value (.agg C)) w := by
 obtain ⟨fs, hu⟩ := undM
 unfold execOp
 simp only [ho, hx, Instr.loadAt, Instr.sureAddr, Sem.run_bind, Sem.run_pure, Result.andThen_ok, run_loadVar_row w g _ 24 C (0, 0) _ hC hu rfl (by rw [infoM, h2])]
set_option maxHeartbeats 16000000 in
theorem router_any {v hv : Value} {N : Int} {l h : List Int} (x : Int) {w : World} (hm : Sm w v N l) (hh : Vw w hv h) (hx : I64 x) (hI : In64 h) (hh3 : h.length <= 1000) :
   Calls Tryz.prog 16 #[v, .int .i64 x, hv] w (RSymPost w (ouN N l x h) (ouR N l x h) (ouC N l x h)) := by
 have HR := hid (fun w' (hu : Up w w') => rright_any (hm.up hu))
 have HCP := hid (fun w' (hu : Up w w') => copy_any (hm.up hu))
 obtain ⟨s, rfl, hV, hN, hl, hlen⟩ := hm
 obtain ⟨p, cap, rfl, hcap, hc⟩ := hV
 have HH := hid hh
 obtain ⟨q, cq, rfl, _⟩ := hh
 obtain ⟨W0, hW0⟩ : ∃ W0, (w.alloc (.cells #[.int .i64 N, .slice p l.length cap] 24)).alloc (.cells #[.int .i64 0, .slice none 0 0] 24) = W0 := ⟨_, rfl⟩
 have hB : Blk W0 w.heap.size 24 #[.int .i64 N, .slice p l.length cap] := by rw [<- hW0]; exact (Blk.new _ _ rfl).old _
 have hQ : Blk W0 (w.heap.size + 1) 24 #[.int .i64 0, .slice none 0 0] := by rw [<- hW0]; exact Blk.new _ _ (by simp)
 have hU : Up w W0 := by rw [<- hW0]; exact (Up.alloc _ _).trans (Up.alloc _ _)
 cases hR : rt N l with
 | false =>
   have e : ouC N l x h = 23 := by unfold ouC; rw [hR]; rfl
   have e2 : ouR N l x h = [] := by unfold ouR; rw [e]; rfl
   have e3 : ouN N l x h = 0 := by unfold ouN; rw [e]; rfl
   rw [e, e2, e3]
   rw [hR] at HR
   clear e e2 e3 hR hc hl hN hI
   go_enter Tryz.func16, Tryz.ntmps16
   go_wp2_with (first
    | ((with_reducible apply ldM_P); exact rfl; exact rfl; exact hB; exact rfl)
    | (go_at_call 27; (with_reducible refine (HR.out _ hU).mono ?_); rintro r w1 ⟨rfl, hu1⟩; replace hQ := hQ.up hu1)
    | ((with_reducible apply stM_P); exact rfl; exact rfl; exact hQ; exact rfl; exact rfl; exact two2 _ _ _ _ _))
   exact bodyPost_ret (resMs (u := .int .i64 23) rfl rfl rfl (hQ.setRow _) rfl) rfl (RSymPost.err 23 (hU.trans hu1) (by omega))
 | true =>
   rw [hR] at HR
   by_cases hn0 : (h.length : Int) = N
   ·obtain ⟨n, rfl⟩ : ∃ n : Nat, N = (n : Int) := ⟨h.length, hn0.symm⟩
    obtain ⟨_, n8, htri, _⟩ := rt_spec hR
    rw [tri_nat] at htri
    have n8' : n <= 8 := by omega
    have hln : l.length = triN n := by omega
    have hhn : h.length = n := by omega
    have d3 : ((h.length : Int) != (n : Int)) = false := by rw [hn0]; simp
    have eN : ((n : Int)).toNat = n := by omega
    have HLn := hid hln
    have HhL := hid hhn
    have HI64 := hid hI
    have Hl64 := hid hl
    have hx64 := hid hx
    have HO := hid (fun v (hv : I64 v) w => of_big v hv.1 hv.2 w)
    obtain ⟨L', hL'⟩ : ∃ L', ouL n l x h = L' := ⟨_, rfl⟩
    have HlL : Hid (L'.length = l.length) := hid (by rw [<- hL', ouL_len])
    have Hat : Hid (∀ i j, i <= j -> j < n -> zth L' (pos n i j) = zth l (pos n i j) + x * zth h i * zth h j) := hid (fun i j hij hj => by rw [<- hL']; exact ouL_at x h n8' hln hij hj)
    obtain ⟨hc9, hd9⟩ : (∀ k, k < L'.length -> fit (zth L' k) = false -> RSymPost w (ouN n l x h) (ouR n l x h) (ouC n l x h) = RSymPost w 0 [] 21) /\
       ((∀ k, k < L'.length -> fit (zth L' k) = true) -> RSymPost w (ouN n l x h) (ouR n l x h) (ouC n l x h) = RSymPost w n L' 0) := by
     refine ⟨fun k hk hf => ?_, fun hf => ?_⟩
     ·have e : ouC n l x h = 21 := by unfold ouC; rw [hR, decide_eq_true hn0, eN, hL', all_no hk hf]; rfl
      unfold ouN ouR; rw [e]; rfl
     ·have e : ouC n l x h = 0 := by unfold ouC; rw [hR, decide_eq_true hn0, eN, hL', all_yes hf]; rfl
      unfold ouN ouR; rw [e, if_pos rfl, if_pos rfl, eN, hL']
    have Hbad := hid hc9
    have Hgood := hid hd9
    obtain ⟨PP, hPP⟩ : ∃ PP, RSymPost w (ouN n l x h) (ouR n l x h) (ouC n l x h) = PP := ⟨_, rfl⟩
    rw [hPP] at Hbad Hgood ⊢
    have HN64 := hid hN
    clear hPP hc9 hd9 hL' hc hl hI hx hR hn0 htri hln hhn hN eN hcap
    go_enter Tryz.func16, Tryz.ntmps16
    go_wp2_with (first
     | ((with_reducible apply ldM_P); exact rfl; exact rfl; exact hB; exact rfl)
     | (go_at_call 27; (with_reducible refine (HR.out _ hU).mono ?_); rintro r w1 ⟨rfl, hu1⟩; replace hQ := hQ.up hu1; replace hB := hB.up hu1; replace hU := hU.trans hu1; have hc0 := hB.cell 0 rfl)
     | (go_at_call 17; (with_reducible refine (HCP.out _ hU).mono ?_); rintro r w2 ⟨sA, rfl, hu2, hO⟩; have hlt := hB.lt; have hlt2 := hQ.lt; replace hQ := hQ.up hu2; replace hB := hB.up hu2; replace hU := hU.trans hu2; obtain ⟨pA, nA, cA, rfl⟩ := OwnI.slice hO; have hO2 := OwnI.setRow (D := #[.int .i64 (n : Int), .slice pA nA cA]) hO hB; have hB2 := hB.setRow #[.int .i64 (n : Int), .slice pA nA cA]; have hQ2 := Blk.row_other hQ #[.int .i64 (n : Int), .slice pA nA cA] (show w.heap.size + 1 ≠ w.heap.size by omega); have hU2 := below_setRow hU (Nat.le_refl _) #[.int .i64 (n : Int), .slice pA nA cA])
     | ((with_reducible apply stM_P); exact rfl; exact rfl; exact hB; exact rfl; exact rfl; exact two2 _ _ _ _ _))
    obtain ⟨base, hbase⟩ : ∃ b, w1.heap.size = b := ⟨_, rfl⟩
    have hbs : w.heap.size + 1 < base := by omega
    rw [hbase] at hO2
    clear hbase hlt hlt2 hu1 hu2 hO hB hQ hU hc0 hW0
    go_loopg [8] n (fun g ti wr => ∃ i : Nat, i <= n /\ n - i <= g /\ ti = .int .i64 (i : Nat) /\ RInv w base w.heap.size (w.heap.size + 1) n (.slice pA nA cA) L' l (pos n i i) wr)
    case atStart => exact ⟨0, Nat.zero_le _, by omega, rfl, by rw [pos_zero, mixed_zero]; exact hO2, fun q hq => by rw [pos_zero] at hq; omega, hB2, hQ2, hU2⟩
    case round =>
     clear hB2 hQ2 hU2 hO2
     obtain ⟨i, hi, hig, rfl, hO, hfits, hB, hQ, hU⟩ := hrel
     have hc0 := hB.cell 0 rfl
     by_cases hlt : i < n
     ·have e1 : IntKind.i64.wrap ((i : Int) + 1) = (i : Int) + 1 := IntWalk.i64_in _ (by omega)
      go_wp2_with fail
      go_loopg [9] n (fun g tj wj => ∃ j : Nat, i <= j /\ j <= n /\ n - j <= g /\ tj = .int .i64 (j : Nat) /\ RInv w base w.heap.size (w.heap.size + 1) n (.slice pA nA cA) L' l (pos n i j) wj)
      case atStart => exact ⟨i, Nat.le_refl _, hi, by omega, rfl, hO, hfits, hB, hQ, hU⟩
      case round =>
       clear hO hfits hB hQ hU hc0
       obtain ⟨j, hij, hj, hjg, rfl, hO, hfits, hB, hQ, hU⟩ := hrel
       have hc0 := hB.cell 0 rfl
       by_cases hjlt : j < n
       ·have hkl : pos n i j < l.length := by rw [HLn.out]; exact pos_lt hij hjlt
        have hM64 := In64.mixed HlL.out Hl64.out hfits
        have HSm := hid (hO.sm HN64.out hM64 (by rw [mixed_len HlL.out]; exact hlen))
        have HAt := hid (fun w' (hu : Up wr w') => rat_ent2 (HSm.out.up hu) n8' (by rw [mixed_len HlL.out]; exact HLn.out) hij hjlt)
        have hat := Hat.out i j hij hjlt
        have HX := hid (fun w => (pos_idx hij hjlt) ▸ rat_any (n : Int) (i : Int) (j : Int) (by omega) (by omega) (by omega) (by omega) (by omega) w)
        have HFit := hid hfits
        obtain ⟨k, hk⟩ : ∃ k, pos n i j = k := ⟨_, rfl⟩
        have HK := hid hk
        rw [hk] at hkl HAt hat hO HX HFit
        obtain ⟨g, cp, C, hv, hbg, -⟩ := hO.open (by rw [mixed_len HlL.out]; omega)
        injection hv with x1 x2 x3
        rw [mixed_len HlL.out] at x2
        subst x1 x2 x3
        have hihl : i < h.length := by rw [HhL.out]; exact hlt
        have hjhl : j < h.length := by rw [HhL.out]; exact hjlt
        obtain ⟨q', cq', xq, _, hcq⟩ := HH.out
        injection xq with y1 y2 y3
        subst y1 y3
        obtain ⟨ad, rfl, _⟩ := hcq i hihl
        have HAd := hid (fun w' (hu : Up w w') (i : Nat) (hi : i < h.length) => (show w'.cell? (ad.add i) = some (.int .i64 (zth h i)) from by obtain ⟨a2, z1, z2⟩ := hcq i hi; injection z1 with z1; subst z1; exact hu.cellEq z2))
        have hmx : zth (mixed L' l k) k = zth l k := mixed_at HlL.out hkl
        rw [hmx] at HAt
        have hak := Hl64.out k hkl
        have hzi := HI64.out i hihl
        have hzj := HI64.out j hjhl
        have b0 := i64_bp hak
        have b1 := i64_bp hx64.out
        have b2 := i64_bp hzi
        have b3 := i64_bp hzj
        have b4 : (zth h i * zth h j).natAbs < bp 2 := by rw [Int.natAbs_mul, bp_add 1 1]; exact Nat.mul_lt_mul'' b2 b3
        have b5 : (x * (zth h i * zth h j)).natAbs < bp 3 := by rw [Int.natAbs_mul, bp_add 1 2]; exact Nat.mul_lt_mul'' b1 b4
        have hat' : zth L' k = zth l k + x * (zth h i * zth h j) := by rw [hat, Int.mul_assoc]
        have b6 : (zth L' k).natAbs < bp 4 := by
         rw [hat']
         have c1 : bp 4 = bp 3 * 18446744073709551616 := bp_succ 3
         have c2 : bp 1 <= bp 3 := bp_mono (by omega)
         omega
        have n0 := nl_bp (by omega) b0
        have n1 := nl_bp (by omega) b1
        have n2 := nl_bp (by omega) b2
        have n3 := nl_bp (by omega) b3
        have n4 := nl_bp (by omega) b4
        have n5 := nl_bp (by omega) b5
        have HN3 := hid (nl_bp (by omega) b6)
        have HOk := hid (HO.out (zth l k) hak)
        have HOx := hid (HO.out x hx64.out)
        have HOi := hid (HO.out (zth h i) hzi)
        have HOj := hid (HO.out (zth h j) hzj)
        have HM1 := hid (fun (va vb : Value) (w : World) (ha : Big w va (zth h i)) (hb : Big w vb (zth h j)) => mul_big ha hb n2 n3)
        have HM2 := hid (fun (va vb : Value) (w : World) (ha : Big w va x) (hb : Big w vb (zth h i * zth h j)) => mul_big ha hb n1 n4)
        have HAD := hid (fun (va vb : Value) (w : World) (ha : Big w va (zth l k)) (hb : Big w vb (x * (zth h i * zth h j))) => hat' ▸ add_big ha hb n0 n5)
        have HS9 := hid (mixed_set HlL.out hkl)
        have HML := hid (mixed_len HlL.out k)
        clear hat hat' n0 n1 n2 n3 n4 n5 b0 b1 b2 b3 b4 b5 b6 hak hzi hzj hk hM64 hfits hcq y2 hmx HSm
        obtain ⟨z9, hz9'⟩ : ∃ z, zth L' k = z := ⟨_, rfl⟩
        have HZ9 := hid hz9'
        rw [hz9'] at HS9 HN3 HAD
        clear hz9'
        obtain ⟨p2, hp2⟩ : ∃ z, x * (zth h i * zth h j) = z := ⟨_, rfl⟩
        rw [hp2] at HM2 HAD
        clear hp2
        obtain ⟨p1, hp1⟩ : ∃ z, zth h i * zth h j = z := ⟨_, rfl⟩
        rw [hp1] at HM1 HM2
        clear hp1
        obtain ⟨zi, hzi9⟩ : ∃ z, zth h i = z := ⟨_, rfl⟩
        obtain ⟨zj, hzj9⟩ : ∃ z, zth h j = z := ⟨_, rfl⟩
        have HZi := hid hzi9
        have HZj := hid hzj9
        rw [hzi9, hzj9] at HM1
        rw [hzi9] at HOi
        rw [hzj9] at HOj
        clear hzi9 hzj9
        generalize zth l k = ak at *
        obtain ⟨M, hM9⟩ : ∃ M, mixed L' l k = M := ⟨_, rfl⟩
        rw [hM9] at hO HS9 HML
        clear hM9
        have hkM : k < M.length := by rw [HML.out]; exact hkl
        have hVh := Vw.up hU HH.out
        go_wp2_with fail
        refine wp_region_sp (n := 75) 21 [37, 38, 39, 40, 41, 42, 43, 44, 45, 46, 47, 48, 49, 50, 51, 52, 53, 54, 55, 56, 10] [SP.is (.agg #[.int .i64 (n : Int), .slice (some ⟨g, 0, none⟩) l.length cA]), SP.is (.int .i64 (i : Nat)), SP.is (.int .i64 (j : Nat)), SP.is (.int .i64 ak), SP.of (fun v w1 => Big w1 v ak) (fun _ _ _ h hu => h.up hu), SP.is (.int .i64 x), SP.of (fun v w1 => Big w1 v x) (fun _ _ _ h hu => h.up hu), SP.is (.slice (some ad) h.length cq), SP.is (.int .i64 (i : Nat)), SP.is (.pointer (some (ad.add i))), SP.is (.int .i64 zi), SP.of (fun v w1 => Big w1 v zi) (fun _ _ _ h hu => h.up hu), SP.is (.slice (some ad) h.length cq), SP.is (.int .i64 (j : Nat)), SP.is (.pointer (some (ad.add j))), SP.is (.int .i64 zj), SP.of (fun v w1 => Big w1 v zj) (fun _ _ _ h hu => h.up hu), SP.of (fun v w1 => Big w1 v p1) (fun _ _ _ h hu => h.up hu), SP.of (fun v w1 => Big w1 v p2) (fun _ _ _ h hu => h.up hu), SP.of (fun v w1 => Big w1 v z9) (fun _ _ _ h hu => h.up hu), SP.of (fun v w1 => ∃ b, v = .pointer (some ⟨b, 0, none⟩) /\ w.heap.size <= b /\ Blk w1 b 59 #[.bool false, .slice none 0 0]) (fun _ _ _ h hu => h.imp fun _ k => ⟨k.1, k.2.1, k.2.2.up hu⟩), SP.any] (fun wq => Blk wq w.heap.size 24 #[.int .i64 (n : Int), .slice (some ⟨g, 0, none⟩) l.length cA] /\ Up wr wq /\ Below w.heap.size w wq) (by kernel_rfl) (by rfl) (by kernel_rfl) (by kernel_rfl) (fun _ _ h hu => ⟨(h.1).up hu, (h.2.1).trans hu, below_up (h.2.2) hu⟩) ⟨(by first | assumption | exact gBlk), (by first | exact Up.refl _ | assumption), gUp⟩ (fun ev w9 hS9 i o hne hi hev => ?_) (fun gR wE hq hSE huE => ?_)
        ·have ⟨hS1, hS2, hSB⟩ := hS9
         have hcC := hev.const
         have hcF := hev.func
         have hcG := hev.global
         rcases i with _ | _ | _ | _ | _ | _ | _ | _ | _ | _ | _ | _ | _ | _ | _ | _ | _ | _ | _ | _ | _ | _ | i
         ·obtain rfl := oI hi
          have e3 := hev.other 3 (by kernel_rfl)
          simp [Act.eval] at e3
          exact leavesR_value (run_ldME rfl e3 hS1 rfl) rfl
         ·obtain rfl := oI hi
          have e8 := hev.other 8 (by kernel_rfl)
          simp [Act.eval] at e8
          exact lV (.int .i64 (i : Nat))
         ·obtain rfl := oI hi
          have e9 := hev.other 9 (by kernel_rfl)
          simp [Act.eval] at e9
          exact lV (.int .i64 (j : Nat))
         ·obtain rfl := oI hi
          have e37 : ev (.tmp 37) = (.agg #[.int .i64 (n : Int), .slice (some ⟨g, 0, none⟩) l.length cA]) := hev.dep 0 37 (by kernel_rfl)
          have e38 : ev (.tmp 38) = (.int .i64 (i : Nat)) := hev.dep 1 38 (by kernel_rfl)
          have e39 : ev (.tmp 39) = (.int .i64 (j : Nat)) := hev.dep 2 39 (by kernel_rfl)
          refine leavesR_call ?_ ((HAt.out _ hS2).mono fun _ _ h => ⟨h.2, _, h.1, rfl⟩)
          go_simp
         ·obtain rfl := oI hi
          have e40 : ev (.tmp 40) = (.int .i64 ak) := hev.dep 3 40 (by kernel_rfl)
          refine leavesR_call ?_ (HOk.out _)
          go_simp
         ·obtain rfl := oI hi
          have e1 := hev.other 1 (by kernel_rfl)
          simp [Act.eval] at e1
          exact lV (.int .i64 x)
         ·obtain rfl := oI hi
          have e42 : ev (.tmp 42) = (.int .i64 x) := hev.dep 5 42 (by kernel_rfl)
          refine leavesR_call ?_ (HOx.out _)
          go_simp
         ·obtain rfl := oI hi
          have e2 := hev.other 2 (by kernel_rfl)
          simp [Act.eval] at e2
          exact lV (.slice (some ad) h.length cq)
         ·obtain rfl := oI hi
          have e8 := hev.other 8 (by kernel_rfl)
          simp [Act.eval] at e8
          exact lV (.int .i64 (i : Nat))
         ·obtain rfl := oI hi
          have e44 : ev (.tmp 44) = (.slice (some ad) h.length cq) := hev.dep 7 44 (by kernel_rfl)
          have e45 : ev (.tmp 45) = (.int .i64 (i : Nat)) := hev.dep 8 45 (by kernel_rfl)
          exact lV (.pointer (some (ad.add i)))
         ·obtain rfl := oI hi
          have e46 : ev (.tmp 46) = (.pointer (some (ad.add i))) := hev.dep 9 46 (by kernel_rfl)
          have hcx := HAd.out w9 hSB i hihl; rw [HZi.out] at hcx; exact leavesR_value (u := .int .i64 zi) (by go_simp) rfl
         ·obtain rfl := oI hi
          have e47 : ev (.tmp 47) = (.int .i64 zi) := hev.dep 10 47 (by kernel_rfl)
          refine leavesR_call ?_ (HOi.out _)
          go_simp
         ·obtain rfl := oI hi
          have e2 := hev.other 2 (by kernel_rfl)
          simp [Act.eval] at e2
          exact lV (.slice (some ad) h.length cq)
         ·obtain rfl := oI hi
          have e9 := hev.other 9 (by kernel_rfl)
          simp [Act.eval] at e9
          exact lV (.int .i64 (j : Nat))
         ·obtain rfl := oI hi
          have e49 : ev (.tmp 49) = (.slice (some ad) h.length cq) := hev.dep 12 49 (by kernel_rfl)
          have e50 : ev (.tmp 50) = (.int .i64 (j : Nat)) := hev.dep 13 50 (by kernel_rfl)
          exact lV (.pointer (some (ad.add j)))
         ·obtain rfl := oI hi
          have e51 : ev (.tmp 51) = (.pointer (some (ad.add j))) := hev.dep 14 51 (by kernel_rfl)
          have hcx := HAd.out w9 hSB j hjhl; rw [HZj.out] at hcx; exact leavesR_value (u := .int .i64 zj) (by go_simp) rfl
         ·obtain rfl := oI hi
          have e52 : ev (.tmp 52) = (.int .i64 zj) := hev.dep 15 52 (by kernel_rfl)
          refine leavesR_call ?_ (HOj.out _)
          go_simp
         ·obtain rfl := oI hi
          have e48 : (fun v w1 => Big w1 v zi) (ev (.tmp 48)) w9 := hev.dep 11 48 (by kernel_rfl)
          dsimp only at e48
          obtain ⟨v48, hv48⟩ : ∃ v, ev (.tmp 48) = v := ⟨_, rfl⟩
          rw [hv48] at e48
          have e53 : (fun v w1 => Big w1 v zj) (ev (.tmp 53)) w9 := hev.dep 16 53 (by kernel_rfl)
          dsimp only at e53
          obtain ⟨v53, hv53⟩ : ∃ v, ev (.tmp 53) = v := ⟨_, rfl⟩
          rw [hv53] at e53
          refine leavesR_call ?_ (HM1.out _ _ _ e48 e53)
          go_simp
         ·obtain rfl := oI hi
          have e43 : (fun v w1 => Big w1 v x) (ev (.tmp 43)) w9 := hev.dep 6 43 (by kernel_rfl)
          dsimp only at e43
          obtain ⟨v43, hv43⟩ : ∃ v, ev (.tmp 43) = v := ⟨_, rfl⟩
          rw [hv43] at e43
          have e54 : (fun v w1 => Big w1 v p1) (ev (.tmp 54)) w9 := hev.dep 17 54 (by kernel_rfl)
          dsimp only at e54
          obtain ⟨v54, hv54⟩ : ∃ v, ev (.tmp 54) = v := ⟨_, rfl⟩
          rw [hv54] at e54
          refine leavesR_call ?_ (HM2.out _ _ _ e43 e54)
          go_simp
         ·obtain rfl := oI hi
          have e41 : (fun v w1 => Big w1 v ak) (ev (.tmp 41)) w9 := hev.dep 4 41 (by kernel_rfl)
          dsimp only at e41
          obtain ⟨v41, hv41⟩ : ∃ v, ev (.tmp 41) = v := ⟨_, rfl⟩
          rw [hv41] at e41
          have e55 : (fun v w1 => Big w1 v p2) (ev (.tmp 55)) w9 := hev.dep 18 55 (by kernel_rfl)
          dsimp only at e55
          obtain ⟨v55, hv55⟩ : ∃ v, ev (.tmp 55) = v := ⟨_, rfl⟩
          rw [hv55] at e55
          refine leavesR_call ?_ (HAD.out _ _ _ e41 e55)
          go_simp
         ·obtain rfl := oI hi
          exact leavesR_up (u := .pointer (some ⟨w9.heap.size, 0, none⟩)) (w' := w9.alloc (.cells #[.bool false, .slice none 0 0] 59)) (by go_simp) (Up.alloc _ _) ⟨_, rfl, hSB.size, Blk.new _ _ rfl⟩
         ·exact absurd rfl hne
         ·exact absurd (show i + 22 < 22 from (Array.getElem?_eq_some_iff.1 hi).1) (by omega)
        have ⟨hS1, hS2, hSB⟩ := hSE
        have q0 : gR 37 = (.agg #[.int .i64 (n : Int), .slice (some ⟨g, 0, none⟩) l.length cA]) := hq 0 37 (by decide) (by kernel_rfl)
        have q1 : gR 38 = (.int .i64 (i : Nat)) := hq 1 38 (by decide) (by kernel_rfl)
        have q2 : gR 39 = (.int .i64 (j : Nat)) := hq 2 39 (by decide) (by kernel_rfl)
        have q3 : gR 40 = (.int .i64 ak) := hq 3 40 (by decide) (by kernel_rfl)
        have q4 : (fun v w1 => Big w1 v ak) (gR 41) wE := hq 4 41 (by decide) (by kernel_rfl)
        dsimp only at q4
        obtain ⟨v41, hv41⟩ : ∃ v, gR 41 = v := ⟨_, rfl⟩
        rw [hv41] at q4
        have q5 : gR 42 = (.int .i64 x) := hq 5 42 (by decide) (by kernel_rfl)
        have q6 : (fun v w1 => Big w1 v x) (gR 43) wE := hq 6 43 (by decide) (by kernel_rfl)
        dsimp only at q6
        obtain ⟨v43, hv43⟩ : ∃ v, gR 43 = v := ⟨_, rfl⟩
        rw [hv43] at q6
        have q7 : gR 44 = (.slice (some ad) h.length cq) := hq 7 44 (by decide) (by kernel_rfl)
        have q8 : gR 45 = (.int .i64 (i : Nat)) := hq 8 45 (by decide) (by kernel_rfl)
        have q9 : gR 46 = (.pointer (some (ad.add i))) := hq 9 46 (by decide) (by kernel_rfl)
        have q10 : gR 47 = (.int .i64 zi) := hq 10 47 (by decide) (by kernel_rfl)
        have q11 : (fun v w1 => Big w1 v zi) (gR 48) wE := hq 11 48 (by decide) (by kernel_rfl)
        dsimp only at q11
        obtain ⟨v48, hv48⟩ : ∃ v, gR 48 = v := ⟨_, rfl⟩
        rw [hv48] at q11
        have q12 : gR 49 = (.slice (some ad) h.length cq) := hq 12 49 (by decide) (by kernel_rfl)
        have q13 : gR 50 = (.int .i64 (j : Nat)) := hq 13 50 (by decide) (by kernel_rfl)
        have q14 : gR 51 = (.pointer (some (ad.add j))) := hq 14 51 (by decide) (by kernel_rfl)
        have q15 : gR 52 = (.int .i64 zj) := hq 15 52 (by decide) (by kernel_rfl)
        have q16 : (fun v w1 => Big w1 v zj) (gR 53) wE := hq 16 53 (by decide) (by kernel_rfl)
        dsimp only at q16
        obtain ⟨v53, hv53⟩ : ∃ v, gR 53 = v := ⟨_, rfl⟩
        rw [hv53] at q16
        have q17 : (fun v w1 => Big w1 v p1) (gR 54) wE := hq 17 54 (by decide) (by kernel_rfl)
        dsimp only at q17
        obtain ⟨v54, hv54⟩ : ∃ v, gR 54 = v := ⟨_, rfl⟩
        rw [hv54] at q17
        have q18 : (fun v w1 => Big w1 v p2) (gR 55) wE := hq 18 55 (by decide) (by kernel_rfl)
        dsimp only at q18
        obtain ⟨v55, hv55⟩ : ∃ v, gR 55 = v := ⟨_, rfl⟩
        rw [hv55] at q18
        have q19 : (fun v w1 => Big w1 v z9) (gR 56) wE := hq 19 56 (by decide) (by kernel_rfl)
        dsimp only at q19
        obtain ⟨v56, hv56⟩ : ∃ v, gR 56 = v := ⟨_, rfl⟩
        rw [hv56] at q19
        have q20 : (fun v w1 => ∃ b, v = .pointer (some ⟨b, 0, none⟩) /\ w.heap.size <= b /\ Blk w1 b 59 #[.bool false, .slice none 0 0]) (gR 10) wE := hq 20 10 (by decide) (by kernel_rfl)
        dsimp only at q20
        obtain ⟨v10, hv10⟩ : ∃ v, gR 10 = v := ⟨_, rfl⟩
        rw [hv10] at q20
        refine ⟨fun h => absurd h (by decide), fun o ho => ?_⟩
        obtain rfl := oI ho
        simp only [putL, List.map_cons, List.map_nil, q0, q1, q2, q3, hv41, q5, hv43, q7, q8, q9, q10, hv48, q12, q13, q14, q15, hv53, hv54, hv55, hv56, hv10, Act.put, pu1, pu2, pu3]
        clear hq hSE q0 q1 q2 q3 q5 q7 q8 q9 q10 q12 q13 q14 q15
        obtain ⟨b7, rfl, hb7, hBz⟩ := q20
        obtain ⟨bb, ba, bn, bc, rfl⟩ := q19.shape
        refine wp_stB rfl rfl rfl rfl hBz rfl rfl (one2 _ _ _ _) ?_
        have hB7 := Blk.row_other (hB.up huE) #[.bool bb, .slice ba bn bc] (blk_ne (hB.up huE) hBz (by decide))
        have hQ7 := Blk.row_other (hQ.up huE) #[.bool bb, .slice ba bn bc] (blk_ne (hQ.up huE) hBz (by decide))
        have hO7 := OwnI.setRowB (D := #[.bool bb, .slice ba bn bc]) (hO.up huE) hBz
        have hU7 := below_setRow (hU.trans huE) hb7 #[.bool bb, .slice ba bn bc]
        have hBg := hBz.setRow #[.bool bb, .slice ba bn bc]
        have hbg6 := big_set (D := #[.bool bb, .slice ba bn bc]) hBz q19
        obtain ⟨wK, hwK⟩ : ∃ wK, wE.setRow b7 #[.bool bb, .slice ba bn bc] = wK := ⟨_, rfl⟩
        rw [hwK] at hB7 hQ7 hO7 hU7 hBg hbg6 ⊢
        clear hwK hBz q19 q17 q18 q16 q11 q6 q4 hS1 hS2 hSB huE hB hQ hO hU hc0 hVh
        cases hf : fit z9 with
        | false =>
          have HF9 := hid (fun (va : Value) (w : World) (hb : Big w va z9) => hf ▸ rfits_any hb HN3.out)
          have Hf := hid hf
          clear hf
          go_wp2_with (first
           | ((with_reducible apply ldB_P); exact rfl; exact rfl; exact hBg; exact rfl)
           | (go_at_call 38; (with_reducible refine (HF9.out _ _ hbg6).mono ?_); rintro r w7 ⟨rfl, hu7⟩; replace hQ7 := hQ7.up hu7)
           | ((with_reducible apply stM_P); exact rfl; exact rfl; exact hQ7; exact rfl; exact rfl; exact two2 _ _ _ _ _))
          rw [Hbad.out k (by rw [HlL.out]; exact hkl) (by rw [HZ9.out]; exact Hf.out)]
          exact bodyPost_ret (resMs (u := .int .i64 21) rfl rfl rfl (hQ7.setRow _) rfl) rfl (RSymPost.err 21 (below_up hU7 hu7) (by omega))
        | true =>
          have HF9 := hid (fun (va : Value) (w : World) (hb : Big w va z9) => hf ▸ rfits_any hb HN3.out)
          have Hf := hid hf
          have HIn := hid (fun (va : Value) (w : World) (hb : Big w va z9) => (i64V_yes (fit_i64 hf)) ▸ int64_big hb HN3.out)
          clear hf
          go_wp2_with (first
           | ((with_reducible apply ldB_P); exact rfl; exact rfl; exact hBg; exact rfl)
           | (go_at_call 38; (with_reducible refine (HF9.out _ _ hbg6).mono ?_); rintro r w7 ⟨rfl, hu7⟩; replace hQ7 := hQ7.up hu7; replace hB7 := hB7.up hu7; replace hO7 := hO7.up hu7; replace hbg6 := hbg6.up hu7; replace hBg := hBg.up hu7; replace hU7 := below_up hU7 hu7))
          have hq0 := hB7.cell 0 rfl
          have hq1 := hB7.cell 1 rfl
          refine opU (S := (fun wq => Blk wq w.heap.size 24 #[.int .i64 (n : Int), .slice (some ⟨g, 0, none⟩) l.length cA] /\ wq.cell? ⟨w.heap.size, 0, none⟩ = some (.int .i64 (n : Int)) /\ wq.cell? ⟨w.heap.size, 1, none⟩ = some (.slice (some ⟨g, 0, none⟩) l.length cA) /\ Blk wq b7 59 #[.bool bb, .slice ba bn bc] /\ Big wq (.agg #[.bool bb, .slice ba bn bc]) z9 /\ OwnI wq base (.slice (some ⟨g, 0, none⟩) l.length cA) M /\ Blk wq (w.heap.size + 1) 24 #[.int .i64 0, .slice none 0 0] /\ Below w.heap.size w wq)) (req := (fun j => j != 13)) (fun _ _ h hu => ⟨(h.1).up hu, hu.cell (h.2.1), hu.cell (h.2.2.1), (h.2.2.2.1).up hu, (h.2.2.2.2.1).up hu, (h.2.2.2.2.2.1).up hu, (h.2.2.2.2.2.2.1).up hu, below_up (h.2.2.2.2.2.2.2) hu⟩) ⟨gBlk, (by first | assumption | (apply Blk.cell; exact gBlk; exact rfl)), (by first | assumption | (apply Blk.cell; exact gBlk; exact rfl)), gBlk, (by (repeat (first | assumption | ((with_reducible apply big_set); exact gBlk) | (with_reducible apply big_alloc) | ((with_reducible apply big_up); assumption))); done), (by assumption), gBlk, gUp⟩ (fun wS hSS hSu => ?_)
          have ⟨hS1, hS2, hS3, hS4, hS5, hS6, hS7, hSB⟩ := hSS
          refine tkP 0 (some 62) hSu ?_
          refine tkT 1 (some 63) rfl hSu hSS ?_ (hy := fun w' hSw => by ((try dsimp only at hSw); (try obtain ⟨_, _, _, _, _, _, _, _⟩ := hSw); go_simp; (try exact rfl)))
          refine tkP 2 (some 64) hSu ?_
          refine tkT 3 (some 65) rfl hSu hSS ?_ (hy := fun w' hSw => by ((try dsimp only at hSw); (try obtain ⟨_, _, _, _, _, _, _, _⟩ := hSw); go_simp; (try exact rfl)))
          refine tkP 4 (some 66) hSu ?_
          refine tkP 5 (some 67) hSu ?_
          refine tkC 6 (some 68) rfl hSu hSS ?_ (hy := fun w' hSw => ((HX.out _).mono fun _ _ h => ⟨h.1, by rw [h.2]; exact Up.refl _⟩))
          refine tkT 7 (some 69) rfl hSu hSS ?_ (hy := fun w' hSw => run_ldB rfl rfl hSw.2.2.2.1 rfl)
          refine tkC 8 (some 70) rfl hSu hSS ?_ (hy := fun w' hSw => (HIn.out _ _ hSw.2.2.2.2.1))
          refine tkP 9 (some 61) hSu ?_
          refine tkP 10 (some 71) hSu ?_
          refine tkP 11 (some 72) hSu ?_
          refine tkP 12 (some 73) hSu ?_
          refine wpAnyU_one (i := 13) rfl (by kernel_rfl) (by rfl) fun wZ hwZ => ?_
          obtain ⟨hcW, hfW⟩ := (hS6.up hwZ).cells hkM
          go_simp
          clear hcW hfW
          refine wpAnyU_done (by kernel_rfl) (fun wF huE => ?_) _
          have hne1 : w.heap.size ≠ g := by omega
          have hne2 : w.heap.size + 1 ≠ g := by omega
          have hO5 := ((hS6.up hwZ).set hkM z9).up huE
          rw [HS9.out] at hO5
          have hB5 := ((hS1.up hwZ).other ⟨g, k, none⟩ (.int .i64 z9) hne1).up huE
          have hQ5 := ((hS7.up hwZ).other ⟨g, k, none⟩ (.int .i64 z9) hne2).up huE
          have hU5 := below_up ((below_up hSB hwZ).setCell (p := ⟨g, k, none⟩) (show w.heap.size <= g by omega) (.int .i64 z9)) huE
          clear hq0 hq1 hwZ
          go_wp2_with fail
          go_roundg (n - (j + 1))
          case measure => omega
          case rel => exact ⟨j + 1, by omega, by omega, Nat.le_refl _, rfl, by rw [pos_succ hij, HK.out]; exact ⟨hO5, fun q hq => by rcases Nat.lt_succ_iff_lt_or_eq.1 hq with h1 | h1; exact HFit.out q h1; rw [h1, HZ9.out]; exact Hf.out, hB5, hQ5, hU5⟩⟩
       ·obtain rfl : j = n := by omega
        have HP := hid (pos_row hlt)
        go_wp2_with fail
        go_roundg (j - (i + 1))
        case measure => omega
        case rel => exact ⟨i + 1, hlt, Nat.le_refl _, rfl, by rw [<- HP.out]; exact ⟨hO, hfits, hB, hQ, hU⟩⟩
     ·obtain rfl : i = n := by omega
      rw [pos_end, <- HLn.out, <- HlL.out] at hO hfits
      rw [mixed_all HlL.out] at hO
      have HI := hid (In64.of_fit hfits)
      have HG := hid (Hgood.out hfits)
      clear hfits hlt
      go_wp2_with (first
       | ((with_reducible apply ldM_P); exact rfl; exact rfl; exact hB; exact rfl)
       | ((with_reducible apply stM_P); exact rfl; exact rfl; exact hQ; exact rfl; exact rfl; exact two2 _ _ _ _ _))
      rw [HG.out]
      exact bodyPost_ret (resMs (u := .int .i64 0) rfl rfl rfl (hQ.setRow _) rfl) rfl (RSymPost.ok hU (by omega) hQ hO HN64.out HI.out (by rw [HlL.out]; exact hlen))
   ·have e : ouC N l x h = 23 := by unfold ouC; rw [hR, decide_eq_false hn0]; rfl
    have e2 : ouR N l x h = [] := by unfold ouR; rw [e]; rfl
    have e3 : ouN N l x h = 0 := by unfold ouN; rw [e]; rfl
    rw [e, e2, e3]
    have d3 : ((h.length : Int) != N) = true := by simpa using hn0
    clear e e2 e3 hR hc hl hN hI hn0
    go_enter Tryz.func16, Tryz.ntmps16
    go_wp2_with (first
     | ((with_reducible apply ldM_P); exact rfl; exact rfl; exact hB; exact rfl)
     | (go_at_call 27; (with_reducible refine (HR.out _ hU).mono ?_); rintro r w1 ⟨rfl, hu1⟩; replace hQ := hQ.up hu1; replace hB := hB.up hu1; have hc0 := hB.cell 0 rfl)
     | ((with_reducible apply stM_P); exact rfl; exact rfl; exact hQ; exact rfl; exact rfl; exact two2 _ _ _ _ _))
    exact bodyPost_ret (resMs (u := .int .i64 23) rfl rfl rfl (hQ.setRow _) rfl) rfl (RSymPost.err 23 (hU.trans hu1) (by omega))
def Vh (w : World) (v : Value) (l : List Int) : Prop :=
 ∃ p cap, v = .slice p l.length cap /\ ∀ i, i < l.length -> ∃ a, p = some a /\ w.cell? (a.add i) = some (.int .i16 (zth l i))
def In16 (l : List Int) : Prop := ∀ i, i < l.length -> -32768 <= zth l i /\ zth l i < 32768
theorem rt_zero : rt 0 [] = true := by decide
theorem rt_of {N : Int} {l l' : List Int} (h : rt N l = true) (hl : l'.length = l.length) (hf : l'.all fit = true) : rt N l' = true := by
 obtain ⟨h1, h2, h3, _⟩ := rt_spec h
 rw [rt_yes ⟨h1, h2, by rw [hl]; exact h3⟩]
 exact hf
theorem di_rt (N : Int) (l : List Int) (x : Int) : rt (diN N l x) (diR N l x) = true := by
 unfold diN diR
 by_cases h : diC N l x = 0
 ·rw [if_pos h, if_pos h]
  unfold diC at h
  cases hr : rt N l with
  | false => rw [hr] at h; simp at h
  | true =>
    rw [hr] at h
    cases hf : (diL N.toNat l x).all fit with
    | false => rw [hf] at h; simp at h
    | true => exact rt_of hr (diL_len _ _ _) hf
 ·rw [if_neg h, if_neg h]; exact rt_zero
theorem ou_rt (N : Int) (l : List Int) (x : Int) (h : List Int) : rt (ouN N l x h) (ouR N l x h) = true := by
 unfold ouN ouR
 by_cases h0 : ouC N l x h = 0
 ·rw [if_pos h0, if_pos h0]
  unfold ouC at h0
  cases hr : rt N l with
  | false => rw [hr] at h0; simp at h0
  | true =>
    rw [hr, Bool.true_and] at h0
    split at h0
    ·cases hf : (ouL N.toNat l x h).all fit with
     | false => rw [hf] at h0; simp at h0
     | true => exact rt_of hr (ouL_len _ _ _ _) hf
    ·simp at h0
 ·rw [if_neg h0, if_neg h0]; exact rt_zero
theorem vw_one (w : World) (a : Int) : Vw (w.alloc (.cells #[.int .i64 a] 2)) (.slice (some ⟨w.heap.size, 0, none⟩) 1 1) [a] := by
 refine ⟨_, 1, rfl, ⟨Nat.le_refl _, fun e => by cases e⟩, fun i hi => ⟨_, rfl, ?_⟩⟩
 rcases i with _ | i
 ·simp [zth, Addr.add]
 ·simp at hi
theorem In64.snoc {l : List Int} (h : In64 l) {z : Int} (hz : I64 z) : In64 (l ++ [z]) := by
 intro i hi
 rcases Nat.lt_or_ge i l.length with h1 | h1
 ·have e : zth (l ++ [z]) i = zth l i := by rw [zth_get hi, List.getElem_append_left h1, <- zth_get h1]
  rw [e]; exact h i h1
 ·have e : zth (l ++ [z]) i = z := by
   rw [zth_get hi, List.getElem_append_right h1]
   simp
  rw [e]; exact hz
def SeatPost (w : World) (r : Ending) (w' : World) : Prop := ∃ z N L, r = .returned z /\ Up w w' /\ SmO w' z N L /\ rt N L = true
def MInv (K b : Nat) (w : World) : Prop := ∃ N s L, Blk w b 24 #[.int .i64 N, s] /\ SmO w (.agg #[.int .i64 N, s]) N L /\ rt N L = true /\ N <= (K : Int)
def SeatFit (K : Nat) (w : World) (r : Ending) (w' : World) : Prop := ∃ z N L, r = .returned z /\ Up w w' /\ SmO w' z N L /\ rt N L = true /\ N <= (K : Int)
set_option maxHeartbeats 8000000 in
theorem seat_fit {v : Value} {hs : List Int} (n d : Nat) {w : World} (_ : n < 256) (_ : d < 65536) (hv : Vh w v hs) (h16 : In16 hs) (h60 : hs.length <= 60) :
   Calls Tryz.prog 7 #[.int .u8 (n : Nat), .int .u16 (d : Nat), v] w (SeatFit (n % 7) w) := by
 obtain ⟨k, hk⟩ : ∃ r, n % 7 = r := ⟨_, rfl⟩
 rw [hk]
 obtain ⟨dd, hdd⟩ : ∃ r, d % 5000 = r := ⟨_, rfl⟩
 have rk : (n : Int).tmod 7 = (k : Nat) := by rw [show (7 : Int) = ((7 : Nat) : Int) from rfl, <- Int.ofNat_tmod, hk]
 have rd : (d : Int).tmod 5000 = (dd : Nat) := by rw [show (5000 : Int) = ((5000 : Nat) : Int) from rfl, <- Int.ofNat_tmod, hdd]
 have lk : k < 7 := by omega
 have ld : dd < 5000 := by omega
 have ek : IntKind.i64.wrap (k : Int) = (k : Nat) := IntWalk.i64_in _ (by omega)
 have ed : IntKind.i64.wrap (dd : Int) = (dd : Nat) := IntWalk.i64_in _ (by omega)
 have Hhv := hid hv
 have H16 := hid h16
 obtain ⟨p, cap, rfl, hc⟩ := hv
 have HC := hid (fun w' (hu : Up w w') (i : Nat) (hi : i < hs.length) => (show ∃ a, p = some a /\ w'.cell? (a.add i) = some (.int .i16 (zth hs i)) from by obtain ⟨a, h1, h2⟩ := hc i hi; exact ⟨a, h1, hu.cellEq h2⟩))
 clear hk hdd hc h16
 obtain ⟨W0, hW0⟩ : ∃ W0, w.alloc (.cells #[.int .i64 0, .slice none 0 0] 24) = W0 := ⟨_, rfl⟩
 have hQ : Blk W0 w.heap.size 24 #[.int .i64 0, .slice none 0 0] := by rw [<- hW0]; exact Blk.new _ _ rfl
 have hU : Up w W0 := by rw [<- hW0]; exact Up.alloc _ _
 go_enter Tryz.func7, Tryz.ntmps7
 go_wp2_with (first
  | (go_at_call 21; (with_reducible refine (rnew_any (k : Int) _).mono ?_); rintro r w1 ⟨z1, rfl, hu1, hs1⟩)
  | (go_at_call 20; (with_reducible refine (rdiag_any (dd : Int) hs1 (by unfold I64; omega)).mono ?_); rintro r w2 ⟨z2, rfl, hu2, hs2⟩; have hrt2 := di_rt (nw k) (zeros (nw k)) dd; obtain ⟨s2, base2, rfl, hO2, hr2⟩ := hs2; obtain ⟨p2, n2, c2, rfl⟩ := OwnI.slice hO2)
  | ((with_reducible apply stM_P); exact rfl; exact rfl; exact Blk.new _ _ rfl; exact rfl; exact rfl; exact two2 _ _ _ _ _))
 obtain ⟨N2, hN2⟩ : ∃ N2, diN (nw k) (zeros (nw k)) dd = N2 := ⟨_, rfl⟩
 obtain ⟨L2, hL2⟩ : ∃ L2, diR (nw k) (zeros (nw k)) dd = L2 := ⟨_, rfl⟩
 obtain ⟨C2, hC2⟩ : ∃ C2, diC (nw k) (zeros (nw k)) dd = C2 := ⟨_, rfl⟩
 rw [hN2, hL2] at hrt2
 rw [hL2] at hO2
 rw [hN2, hL2] at hr2
 rw [hN2, hC2]
 have HN2k := hid (show N2 <= (k : Int) from by rw [<- hN2]; unfold diN nw; split <;> omega)
 clear hN2 hL2 hC2 hs1
 have hbn := Blk.new (w := w2) (b := w2.heap.size) 24 #[.int .i64 0, .slice none 0 0] rfl
 have hsm2 : SmO (w2.alloc (.cells #[.int .i64 0, .slice none 0 0] 24)) (.agg #[.int .i64 N2, .slice p2 n2 c2]) N2 L2 := ⟨_, base2, rfl, OwnI.up (Up.alloc _ _) hO2, hr2⟩
 have hux := hu1.trans hu2
 obtain ⟨b8, hb8⟩ : ∃ b, w2.heap.size = b := ⟨_, rfl⟩
 have hb8l : w.heap.size < b8 := by rw [<- hb8]; exact Nat.lt_of_lt_of_le hQ.lt hux.size
 rw [hb8] at hbn
 refine wp_folded (fun wd => MInv k b8 wd /\ Blk wd w.heap.size 24 #[.int .i64 0, .slice none 0 0] /\ Up w wd) ⟨⟨N2, _, L2, by rw [hb8]; exact hbn.setRow _, by rw [hb8]; exact hsm2.setRow hbn, hrt2, HN2k.out⟩, by rw [hb8]; exact Blk.row_other ((hQ.up hux).old _) _ (by omega), by rw [hb8]; exact below_setRow ((hU.trans hux).trans (Up.alloc _ _)) (by omega) _⟩ (fun w3 hD => ?_)
 obtain ⟨hM, hQ3, hU3⟩ := hD
 rw [hb8]
 clear hbn hsm2 hux hb8 hO2 hr2 hrt2 hu1 hu2 hQ hU hW0 rk rd ed ld
 go_loopg [10] hs.length (fun g ti wr => ∃ i : Nat, i <= 60 /\ hs.length - i <= g /\ ti = .int .i64 (i : Nat) /\ MInv k b8 wr /\ Blk wr w.heap.size 24 #[.int .i64 0, .slice none 0 0] /\ Up w wr)
 case atStart => exact ⟨0, by omega, by omega, rfl, hM, hQ3, hU3⟩
 case round =>
  clear hM hQ3 hU3
  obtain ⟨i, hi, hig, rfl, ⟨N, s, L, hB, hS, hrt, hNk⟩, hQ, hU⟩ := hrel
  have HNk := hid hNk
  clear hNk
  by_cases hbody : i + k <= hs.length /\ 0 < k /\ i < 4 * k
  ·obtain ⟨g1, g2, g3⟩ := hbody
   have d1 : decide ((i : Int) + (k : Int) <= (hs.length : Int)) = true := decide_eq_true (by omega)
   have d2 : decide ((0 : Int) < (k : Int)) = true := decide_eq_true (by omega)
   have d3 : decide ((i : Int) < 4 * (k : Int)) = true := decide_eq_true (by omega)
   go_wp2_with fail
   obtain ⟨wS, rfl⟩ : ∃ x, x = wr := ⟨_, rfl⟩
   go_loopg [11, 12] k (fun g th tj wj => ∃ (j : Nat) (H : List Int), j <= k /\ k - j <= g /\ tj = .int .i64 (j : Nat) /\ OwnI wj wS.heap.size th H /\ H.length = j /\ In64 H /\ Up wS wj)
   case atStart => exact ⟨0, [], by omega, by omega, rfl, OwnI.nil _ _, rfl, fun i hi => absurd hi (Nat.not_lt_zero _), Up.refl _⟩
   case round =>
    obtain ⟨j, H, hj, hjg, rfl, hO, hH, hH64, hu⟩ := hrel
    have hsz := hu.size
    have HH := hid hH
    have HH64 := hid hH64
    clear hH hH64
    by_cases hlt : j < k
    ·have hij : i + j < hs.length := by omega
     obtain ⟨a1, rfl, hc1⟩ := HC.out _ (hU.trans hu) (i + j) hij
     obtain ⟨q, hq⟩ : ∃ q, (zth hs (i + j)).tmod 200 = q := ⟨_, rfl⟩
     have hz := H16.out (i + j) hij
     have hq1 : -200 < q /\ q < 200 := by rw [<- hq]; have := Int.tmod_lt_of_pos (zth hs (i + j)) (show (0 : Int) < 200 by decide); have := Int.lt_tmod_of_pos (zth hs (i + j)) (show (0 : Int) < 200 by decide); omega
     have eq1 : IntKind.i64.wrap q = q := IntWalk.i64_in _ (by omega)
     have hT : ((i : Int) + (j : Int)).toNat = i + j := by omega
     have hT0 : (0 : Int) <= (i : Int) + (j : Int) := by omega
     have HQ1 := hid hq1
     generalize zth hs (i + j) = zz at *
     clear hq1
     go_wp2_with (first
      | ((with_reducible apply appV); exact rfl; exact rfl; exact OwnI.up (Up.alloc _ _) hO; exact vw_one _ _; (focus (simp; omega)); (focus (rw [HH.out]; omega)); (focus (simp; done)); rintro v' w' h1 h2; have hu9 : Up wS w' := Below.trans (hu.trans (Up.alloc _ _)) h2))
     go_roundg (k - (j + 1))
     case measure => omega
     case rel => exact ⟨j + 1, H ++ [q], by omega, Nat.le_refl _, rfl, h1, by rw [List.length_append, HH.out]; rfl, In64.snoc HH64.out (by have := HQ1.out; unfold I64; omega), hu9⟩
    ·obtain rfl : j = k := by omega
     obtain ⟨r3, hr3⟩ : ∃ r, i % 3 = r := ⟨_, rfl⟩
     have er3 : (i : Int).tmod 3 = (r3 : Nat) := by rw [show (3 : Int) = ((3 : Nat) : Int) from rfl, <- Int.ofNat_tmod, hr3]
     have lr3 : r3 < 3 := by omega
     obtain ⟨x3, hx3⟩ : ∃ x : Int, 1 + (r3 : Int) = x := ⟨_, rfl⟩
     have HX3 : Hid (I64 x3) := hid (by unfold I64; omega)
     obtain ⟨ps, ns, cs, rfl⟩ : ∃ p n c, s = .slice p n c := by
      obtain ⟨s', base', e1, e2, _⟩ := hS
      obtain ⟨p', n', c', rfl⟩ := OwnI.slice e2
      injection e1 with e1
      simp at e1
      exact ⟨_, _, _, e1⟩
     have hB9 := hB.up hu
     have hS9 := hS.up hu
     have hQ9 := hQ.up hu
     have hU9 := hU.trans hu
     have HOU := hid (router_any x3 hS9.sm hO.vw HX3.out HH64.out (by rw [HH.out]; omega))
     have HRT := hid (ou_rt N L x3 H)
     clear hr3 hO hB hS hQ hU hu
     obtain ⟨CX, hCX⟩ : ∃ x, ouC N L x3 H = x := ⟨_, rfl⟩
     rw [hCX] at HOU
     obtain ⟨NX, hNX⟩ : ∃ x, ouN N L x3 H = x := ⟨_, rfl⟩
     obtain ⟨LX, hLX⟩ : ∃ x, ouR N L x3 H = x := ⟨_, rfl⟩
     rw [hNX, hLX] at HOU HRT
     have HNX := hid (show NX <= (j : Int) from by rw [<- hNX]; unfold ouN; have := HNk.out; split <;> omega)
     clear hCX hNX hLX
     by_cases hcx : CX = 0
     ·subst hcx
      go_wp2_with (first
       | ((with_reducible apply ldM_P); exact rfl; exact rfl; (first | exact hb13 | exact hB9); exact rfl)
       | (go_at_call 16; (with_reducible refine (HOU.out).mono ?_); rintro r w5 ⟨z5, rfl, hu5, hs5⟩; have hs5' := hs5; obtain ⟨s5, base5, rfl, hO5, hr5⟩ := hs5'; obtain ⟨p5, n5, c5, rfl⟩ := OwnI.slice hO5; have hbn5 := Blk.new (w := w5) (b := w5.heap.size) 24 #[.int .i64 0, .slice none 0 0] rfl; have hb13 := hbn5.setRow #[.int .i64 NX, .slice p5 n5 c5]; have hB5 := Blk.row_other ((hB9.up hu5).old (.cells #[.int .i64 0, .slice none 0 0] 24)) #[.int .i64 NX, .slice p5 n5 c5] (Nat.ne_of_lt (hB9.up hu5).lt); have hQ5 := Blk.row_other ((hQ9.up hu5).old (.cells #[.int .i64 0, .slice none 0 0] 24)) #[.int .i64 NX, .slice p5 n5 c5] (Nat.ne_of_lt (hQ9.up hu5).lt); have hsm5 := SmO.setRow (D := #[.int .i64 NX, .slice p5 n5 c5]) (SmO.up (Up.alloc w5 (.cells #[.int .i64 0, .slice none 0 0] 24)) hs5) hbn5; have hU5 := below_setRow (((hU9.trans hu5).trans (Up.alloc w5 (.cells #[.int .i64 0, .slice none 0 0] 24)))) (hU9.trans hu5).size #[.int .i64 NX, .slice p5 n5 c5])
       | ((with_reducible apply stM_P); exact rfl; exact rfl; (first | exact hbn5 | exact hB5); exact rfl; exact rfl; exact two2 _ _ _ _ _))
      go_roundg (hs.length - (i + j))
      case measure => omega
      case rel => exact ⟨i + j, by omega, Nat.le_refl _, rfl, ⟨NX, _, LX, hB5.setRow _, hsm5.setRow hB5, HRT.out, HNX.out⟩, Blk.row_other hQ5 _ (by omega), below_setRow hU5 (by omega) _⟩
     ·have hcx' : (CX == 0) = false := by simpa using hcx
      go_wp2_with (first
       | ((with_reducible apply ldM_P); exact rfl; exact rfl; exact hB9; exact rfl)
       | (go_at_call 16; (with_reducible refine (HOU.out).mono ?_); rintro r w5 ⟨z5, rfl, hu5, hs5⟩; have hs5' := hs5; obtain ⟨s5, base5, rfl, hO5, hr5⟩ := hs5'; obtain ⟨p5, n5, c5, rfl⟩ := OwnI.slice hO5; have hbn5 := Blk.new (w := w5) (b := w5.heap.size) 24 #[.int .i64 0, .slice none 0 0] rfl; have hB5 := Blk.row_other ((hB9.up hu5).old (.cells #[.int .i64 0, .slice none 0 0] 24)) #[.int .i64 NX, .slice p5 n5 c5] (Nat.ne_of_lt (hB9.up hu5).lt); have hQ5 := Blk.row_other ((hQ9.up hu5).old (.cells #[.int .i64 0, .slice none 0 0] 24)) #[.int .i64 NX, .slice p5 n5 c5] (Nat.ne_of_lt (hQ9.up hu5).lt); have hsm5 := SmO.setRow (D := #[.int .i64 NX, .slice p5 n5 c5]) (SmO.up ((hu5.trans (Up.alloc w5 (.cells #[.int .i64 0, .slice none 0 0] 24)))) hS9) hbn5; have hU5 := below_setRow (((hU9.trans hu5).trans (Up.alloc w5 (.cells #[.int .i64 0, .slice none 0 0] 24)))) (hU9.trans hu5).size #[.int .i64 NX, .slice p5 n5 c5])
       | ((with_reducible apply stM_P); exact rfl; exact rfl; exact hbn5; exact rfl; exact rfl; exact two2 _ _ _ _ _))
      go_roundg (hs.length - (i + j))
      case measure => omega
      case rel => exact ⟨i + j, by omega, Nat.le_refl _, rfl, ⟨N, _, L, hB5, hsm5, hrt, HNk.out⟩, hQ5, hU5⟩
  ·obtain ⟨s', base', e1, e2, e3⟩ := hS
   have e1' := e1
   obtain ⟨ps, ns, cs, rfl⟩ := OwnI.slice e2
   injection e1 with e1
   obtain rfl : s = .slice ps ns cs := by simpa using e1
   have hFO : SmO (wr.setRow w.heap.size #[.int .i64 N, .slice ps ns cs]) (.agg #[.int .i64 N, .slice ps ns cs]) N L := SmO.setRow ⟨_, base', rfl, e2, e3⟩ hQ
   have HFO := hid hFO
   clear e1 e2 e3 e1' hFO
   by_cases c1 : i + k <= hs.length
   ·by_cases c2 : 0 < k
    ·have c3 : ¬ i < 4 * k := fun h => hbody ⟨c1, c2, h⟩
     have d3 : decide ((i : Int) < 4 * (k : Int)) = false := decide_eq_false (by omega)
     clear hbody
     go_wp2_with (first
      | ((with_reducible apply ldM_P); exact rfl; exact rfl; exact hB; exact rfl)
      | ((with_reducible apply stM_P); exact rfl; exact rfl; exact hQ; exact rfl; exact rfl; exact two2 _ _ _ _ _))
     exact bodyPost_ret (resM rfl rfl (hQ.setRow _) rfl) rfl ⟨_, N, L, rfl, below_setRow hU (Nat.le_refl _) _, HFO.out, hrt, HNk.out⟩
    ·clear hbody
     go_wp2_with (first
      | ((with_reducible apply ldM_P); exact rfl; exact rfl; exact hB; exact rfl)
      | ((with_reducible apply stM_P); exact rfl; exact rfl; exact hQ; exact rfl; exact rfl; exact two2 _ _ _ _ _))
     exact bodyPost_ret (resM rfl rfl (hQ.setRow _) rfl) rfl ⟨_, N, L, rfl, below_setRow hU (Nat.le_refl _) _, HFO.out, hrt, HNk.out⟩
   ·clear hbody
    go_wp2_with (first
     | ((with_reducible apply ldM_P); exact rfl; exact rfl; exact hB; exact rfl)
     | ((with_reducible apply stM_P); exact rfl; exact rfl; exact hQ; exact rfl; exact rfl; exact two2 _ _ _ _ _))
    exact bodyPost_ret (resM rfl rfl (hQ.setRow _) rfl) rfl ⟨_, N, L, rfl, below_setRow hU (Nat.le_refl _) _, HFO.out, hrt, HNk.out⟩
theorem seat_any {v : Value} {hs : List Int} (n d : Nat) {w : World} (hn : n < 256) (hd : d < 65536) (hv : Vh w v hs) (h16 : In16 hs) (h60 : hs.length <= 60) :
   Calls Tryz.prog 7 #[.int .u8 (n : Nat), .int .u16 (d : Nat), v] w (SeatPost w) :=
 (seat_fit n d hn hd hv h16 h60).mono fun _ _ ⟨z, N, L, h1, h2, h3, h4, _⟩ => ⟨z, N, L, h1, h2, h3, h4⟩
theorem zth_ext {l m : List Int} (h : l.length = m.length) (h2 : ∀ i, i < l.length -> zth l i = zth m i) : l = m := by
 refine List.ext_getElem h fun i h1 h3 => ?_
 have := h2 i h1
 rwa [zth_get h1, zth_get h3] at this
def vecV (l : List Int) (sm : Bool) (i : Nat) : Int := let v := if i < l.length then zth l i else (i : Int); if sm then v.tmod 1000000 else v
def vecL (l : List Int) (sm : Bool) : Nat -> List Int
 | 0 => []
 | i + 1 => vecL l sm i ++ [vecV l sm i]
theorem vecL_len (l : List Int) (sm : Bool) : ∀ n, (vecL l sm n).length = n := by
 intro n
 induction n with
 | zero => rfl
 | succ n ih => show (vecL l sm n ++ [vecV l sm n]).length = _; rw [List.length_append, ih]; rfl
theorem tmod_bound (v : Int) {m : Int} (hm : 0 < m) : -m < v.tmod m /\ v.tmod m < m := by
 have h1 := Int.tmod_lt_of_pos v hm
 have h2 := Int.neg_tmod v m
 have h3 := Int.tmod_lt_of_pos (-v) hm
 omega
theorem vecV_in {l : List Int} (h : In64 l) (sm : Bool) {i : Nat} (hi : i < 1000000) : I64 (vecV l sm i) := by
 have h0 : I64 (if i < l.length then zth l i else (i : Int)) := by
  split
  ·rename_i h1; exact h i h1
  ·unfold I64; omega
 unfold vecV
 cases sm with
 | true =>
   have := tmod_bound (if i < l.length then zth l i else (i : Int)) (m := 1000000) (by decide)
   simp only [if_true]
   unfold I64; omega
 | false => simpa using h0
theorem vecL_in {l : List Int} (h : In64 l) (sm : Bool) : ∀ n, n <= 1000000 -> In64 (vecL l sm n) := by
 intro n
 induction n with
 | zero => intro _ i hi; exact absurd hi (Nat.not_lt_zero _)
 | succ n ih => intro hn; exact (ih (by omega)).snoc (vecV_in h sm (by omega))
set_option maxHeartbeats 8000000 in
theorem vec_any {s : Value} {p : Option Addr} {nn cc : Nat} {vl : Value} {l : List Int} (n : Nat) (sm : Bool) {w : World} (hs : s = .slice p nn cc) (hn : n <= 8) (hl : Vw w vl l) (hI : In64 l) (_ : l.length <= 60) :
   Calls Tryz.prog 15 #[.agg #[.int .i64 (n : Nat), s], vl, .bool sm] w fun r w' => ∃ z b, r = .returned z /\ Up w w' /\ w.heap.size <= b /\ OwnI w' b z (vecL l sm n) := by
 subst hs
 have HV := hid hl
 obtain ⟨q, cq, rfl, -, hcq⟩ := hl
 have HB := hid (Blk.new (w := w) (b := w.heap.size) 24 #[.int .i64 (n : Nat), .slice p nn cc] rfl)
 have HC := hid (fun w' (hu : Up w w') i (hi : i < l.length) => show ∃ ad, q = some ad /\ w'.cell? (ad.add i) = some (.int .i64 (zth l i)) from by obtain ⟨a, h1, h2⟩ := hcq i hi; exact ⟨a, h1, hu.cellEq h2⟩)
 have HX := hid (Up.alloc w (.cells #[.int .i64 (n : Nat), .slice p nn cc] 24))
 clear hcq
 go_enter Tryz.func15, Tryz.ntmps15
 go_wp2_with fail
 obtain ⟨wS, hwS⟩ : ∃ x, w.alloc (.cells #[.int .i64 (n : Nat), .slice p nn cc] 24) = x := ⟨_, rfl⟩
 rw [hwS] at HB HX ⊢
 clear hwS
 go_loopg [7, 8] n (fun g tz ti wr => ∃ i : Nat, i <= n /\ n - i <= g /\ ti = .int .i64 (i : Nat) /\ OwnI wr wS.heap.size tz (vecL l sm i) /\ Up wS wr)
 case atStart => exact ⟨0, Nat.zero_le _, by omega, rfl, OwnI.nil _ _, Up.refl _⟩
 case round =>
  obtain ⟨i, hi, hig, rfl, hO, hu⟩ := hrel
  have hBr := HB.out.up hu
  have hBr0 := hBr.cell 0 rfl
  have hsz := hu.size
  by_cases hlt : i < n
  ·have eV : vecL l sm (i + 1) = vecL l sm i ++ [vecV l sm i] := rfl
   have HE := hid eV
   have HL : Hid ((vecL l sm i).length <= 8) := hid (by rw [vecL_len]; omega)
   have HI9 := hid (vecV_in hI sm (i := i) (by omega))
   clear eV
   by_cases hil : i < l.length
   ·obtain ⟨ad, rfl, hcx⟩ := HC.out _ (HX.out.trans hu) i hil
    have dil : decide ((i : Int) < (l.length : Int)) = true := decide_eq_true (by omega)
    have hv : vecV l sm i = if sm then (zth l i).tmod 1000000 else zth l i := by unfold vecV; rw [if_pos hil]
    generalize zth l i = z at *
    cases sm with
    | true =>
      rw [if_pos rfl] at hv
      rw [hv] at HE HI9
      clear hv
      go_wp2_with (first
       | ((with_reducible apply appV); exact rfl; exact rfl; exact OwnI.up (Up.alloc _ _) hO; exact vw_one _ _; (focus (simp; omega)); (focus (have := HL.out; omega)); (focus (simp; done)); rintro v' w' h1 h2; have hu9 : Up wS w' := Below.trans (hu.trans (Up.alloc _ _)) h2))
      go_roundg (n - (i + 1))
      case measure => omega
      case rel => exact ⟨i + 1, by omega, Nat.le_refl _, rfl, by rw [HE.out]; exact h1, hu9⟩
    | false =>
      rw [if_neg (by decide)] at hv
      rw [hv] at HE HI9
      clear hv
      go_wp2_with (first
       | ((with_reducible apply appV); exact rfl; exact rfl; exact OwnI.up (Up.alloc _ _) hO; exact vw_one _ _; (focus (simp; omega)); (focus (have := HL.out; omega)); (focus (simp; done)); rintro v' w' h1 h2; have hu9 : Up wS w' := Below.trans (hu.trans (Up.alloc _ _)) h2))
      go_roundg (n - (i + 1))
      case measure => omega
      case rel => exact ⟨i + 1, by omega, Nat.le_refl _, rfl, by rw [HE.out]; exact h1, hu9⟩
   ·have dil : decide ((i : Int) < (l.length : Int)) = false := decide_eq_false (by omega)
    have hv : vecV l sm i = if sm then (i : Int).tmod 1000000 else (i : Int) := by unfold vecV; rw [if_neg hil]
    cases sm with
    | true =>
      rw [if_pos rfl] at hv
      rw [hv] at HE HI9
      clear hv
      go_wp2_with (first
       | ((with_reducible apply appV); exact rfl; exact rfl; exact OwnI.up (Up.alloc _ _) hO; exact vw_one _ _; (focus (simp; omega)); (focus (have := HL.out; omega)); (focus (simp; done)); rintro v' w' h1 h2; have hu9 : Up wS w' := Below.trans (hu.trans (Up.alloc _ _)) h2))
      go_roundg (n - (i + 1))
      case measure => omega
      case rel => exact ⟨i + 1, by omega, Nat.le_refl _, rfl, by rw [HE.out]; exact h1, hu9⟩
    | false =>
      rw [if_neg (by decide)] at hv
      rw [hv] at HE HI9
      clear hv
      go_wp2_with (first
       | ((with_reducible apply appV); exact rfl; exact rfl; exact OwnI.up (Up.alloc _ _) hO; exact vw_one _ _; (focus (simp; omega)); (focus (have := HL.out; omega)); (focus (simp; done)); rintro v' w' h1 h2; have hu9 : Up wS w' := Below.trans (hu.trans (Up.alloc _ _)) h2))
      go_roundg (n - (i + 1))
      case measure => omega
      case rel => exact ⟨i + 1, by omega, Nat.le_refl _, rfl, by rw [HE.out]; exact h1, hu9⟩
  ·obtain rfl : i = n := by omega
   go_wp2_with fail
   go_ret
   exact ⟨_, _, rfl, HX.out.trans hu, HX.out.size, hO⟩
def prd (v : Nat -> Int) : Nat -> Int
 | 0 => 1
 | k + 1 => prd v k * v k
def dgA (v : Nat -> Int) (k : Nat) : Nat -> Nat -> Int := fun i j => if i = j /\ i < k then v i else 0
theorem prd_head (v : Nat -> Int) : ∀ n, prd v (n + 1) = v 0 * prd (fun i => v (i + 1)) n := by
 intro n
 induction n with
 | zero => show 1 * v 0 = v 0 * 1; omega
 | succ n ih =>
   show prd v (n + 1) * v (n + 1) = v 0 * (prd (fun i => v (i + 1)) n * v (n + 1))
   rw [ih, Int.mul_assoc]
theorem det_dg : ∀ (n : Nat) (v : Nat -> Int), det n (dgA v n) = prd v n := by
 intro n
 induction n with
 | zero => intro v; rfl
 | succ n ih =>
   intro v
   rw [prd_head, <- ih]
   show sumN (n + 1) (fun i => sg i * dgA v (n + 1) i 0 * det n fun r c => dgA v (n + 1) (sk i r) (c + 1)) = _
   rw [sumN_one (p := 0) (by omega) fun i hi h0 => by
    have : dgA v (n + 1) i 0 = 0 := by unfold dgA; rw [if_neg (by omega)]
    rw [this, Int.mul_zero, Int.zero_mul]]
   have e1 : dgA v (n + 1) 0 0 = v 0 := by unfold dgA; rw [if_pos ⟨rfl, by omega⟩]
   have e2 : sg 0 = 1 := rfl
   rw [e1, e2, Int.one_mul]
   refine congrArg _ (det_congr fun r c hr hc => ?_)
   unfold dgA sk
   rw [if_neg (Nat.not_lt_zero r)]
   by_cases h : r = c
   ·rw [if_pos ⟨by omega, by omega⟩, if_pos ⟨h, hr⟩]
   ·rw [if_neg (by omega), if_neg (by omega)]
def Dg (n : Nat) (v : Nat -> Int) (k : Nat) (l : List Int) : Prop := rt n l = true /\ ∀ i j, i < n -> j < n -> ent n l i j = dgA v k i j
theorem Dg.det {n : Nat} {v : Nat -> Int} {l : List Int} (h : Dg n v n l) : detV n l = prd v n /\ detC n l = 0 := by
 refine ⟨?_, by unfold detC; rw [h.1]; rfl⟩
 unfold detV
 rw [h.1, if_pos rfl, <- det_dg]
 exact det_congr fun i j hi hj => (AM_at hi hj).trans (h.2 i j hi hj)
def dfB (n : Nat) (V : Nat -> Nat -> Int) : Bool := (mins n 1 V).all fun x => decide (0 < x)
def lsM (n : Nat) (l : List Int) (k : Int) : Nat -> Nat -> Int := fun i j => AM n l i j - unitM k i j
def msM (n : Nat) (l : List Int) (k : Int) : Nat -> Nat -> Int := fun i j => unitM k i j - AM n l i j
def beM (n : Nat) (a b : List Int) : Nat -> Nat -> Int := fun i j => AM n b i j - (AM n a i j - unitM 1 i j)
theorem unitM_symm (k : Int) : Symm (unitM k) := fun i j => by
 unfold unitM
 by_cases h : i = j
 ·rw [if_pos h, if_pos h.symm]
 ·rw [if_neg h, if_neg (fun e => h e.symm)]
theorem unitM_abs {k : Int} (hk : I64 k) (i j : Nat) : (unitM k i j).natAbs <= 9223372036854775808 := by
 unfold I64 at hk
 unfold unitM
 split <;> omega
theorem lsM_symm (n : Nat) (l : List Int) (k : Int) : Symm (lsM n l k) := fun i j => by unfold lsM; rw [AM_symm n l i j, unitM_symm k i j]
theorem msM_symm (n : Nat) (l : List Int) (k : Int) : Symm (msM n l k) := fun i j => by unfold msM; rw [AM_symm n l i j, unitM_symm k i j]
theorem beM_symm (n : Nat) (a b : List Int) : Symm (beM n a b) := fun i j => by unfold beM; rw [AM_symm n a i j, AM_symm n b i j, unitM_symm 1 i j]
theorem lsM_abs {n : Nat} {l : List Int} {k : Int} (hR : rt n l = true) (hk : I64 k) (i j : Nat) : (lsM n l k i j).natAbs <= bdM := by
 have h1 := AM_abs hR i j
 have h2 := unitM_abs hk i j
 unfold lsM bdM
 omega
theorem msM_abs {n : Nat} {l : List Int} {k : Int} (hR : rt n l = true) (hk : I64 k) (i j : Nat) : (msM n l k i j).natAbs <= bdM := by
 have h1 := AM_abs hR i j
 have h2 := unitM_abs hk i j
 unfold msM bdM
 omega
theorem i64_one : I64 1 := by unfold I64; decide
theorem beM_abs {n : Nat} {a b : List Int} (ha : rt n a = true) (hb : rt n b = true) (i j : Nat) : (beM n a b i j).natAbs <= bdM := by
 have h1 := AM_abs ha i j
 have h2 := AM_abs hb i j
 have h3 := unitM_abs i64_one i j
 unfold beM bdM
 omega
def lsV (N : Int) (l : List Int) (k : Int) : Bool := rt N l && dfB N.toNat (lsM N.toNat l k)
def msV (N : Int) (l : List Int) (k : Int) : Bool := rt N l && dfB N.toNat (msM N.toNat l k)
def beV (N : Int) (a : List Int) (K : Int) (b : List Int) : Bool := rt N a && (rt K b && (decide (N = K) && dfB N.toNat (beM N.toNat a b)))
def btC (N : Int) (l : List Int) (x y : Int) : Int := if rt N l = true then (if lsV N l x = true then (if msV N l y = true then 0 else 31) else 30) else 23
theorem beV_pd {n : Nat} {a b : List Int} (ha : rt n a = true) (hb : rt n b = true) : beV n a n b = true ↔ PD n (beM n a b) := by
 unfold beV
 rw [ha, hb, Bool.true_and, Bool.true_and, decide_eq_true rfl, Bool.true_and]
 exact def_pd (beM_symm n a b) (beM_abs ha hb)
theorem rt_ofN {N : Int} {l : List Int} (h : rt N l = true) : ∃ n : Nat, N = (n : Int) /\ n <= 8 := by
 obtain ⟨n0, n8, _, _⟩ := rt_spec h
 exact ⟨N.toNat, by omega, by omega⟩
theorem ent_pos {n i j : Nat} {l : List Int} (hij : i <= j) (hj : j < n) : ent n l i j = zth l (pos n i j) := by
 unfold ent
 rw [pos_idx hij hj]
 rfl
theorem AM_ou {n : Nat} {l : List Int} (hR : rt n l = true) (x : Int) (h : List Int) {i j : Nat} (hi : i < n) (hj : j < n) : AM n (ouL n l x h) i j = AM n l i j + x * (zth h i * zth h j) := by
 have h8 := (rt_spec hR).2.1
 have hl : l.length = triN n := by have := (rt_spec hR).2.2.1; rw [tri_nat] at this; omega
 have key : ∀ i j, i <= j -> j < n -> AM n (ouL n l x h) i j = AM n l i j + x * (zth h i * zth h j) := fun i j hij hj => by
  rw [AM_at (by omega) hj, AM_at (by omega) hj, ent_pos hij hj, ent_pos hij hj, ouL_at x h (by omega) hl hij hj, Int.mul_assoc]
 rcases Nat.le_total i j with h1 | h1
 ·exact key i j h1 hj
 ·rw [AM_symm n _ i j, AM_symm n l i j, key j i h1 hi, Int.mul_comm (zth h j)]
theorem beV_ou {n : Nat} {l : List Int} {x : Int} {h : List Int} (hR : rt n l = true) (hR2 : rt n (ouL n l x h) = true) (hx : 0 <= x) : beV n l n (ouL n l x h) = true := by
 refine (beV_pd hR hR2).2 ((pd_congr fun i j hi hj => ?_).1 (pd_below n hx fun i => zth h i))
 unfold beM
 rw [AM_ou hR x h hi hj]
 omega
def Rx (w : World) (x : Nat) (v : Value) (L : List (List Int)) : Prop :=
 (L = [] /\ ∃ p c, v = .slice p 0 c) \/ ∃ g cap C, v = .slice (some ⟨g, 0, none⟩) L.length cap /\ L.length <= cap /\ g ≠ x /\ Blk w g 80 C /\ ∀ i, i < L.length -> ∃ s, C[i]? = some s /\ Wv w s (L.getD i []) /\ ∀ a n c, s = .slice (some a) n c -> 0 < n -> a.block ≠ x
theorem Rx.up {w w' : World} (hu : Up w w') {x : Nat} {v : Value} {L : List (List Int)} (h : Rx w x v L) : Rx w' x v L := by
 rcases h with h | ⟨g, cap, C, h1, h2, h3, h4, h5⟩
 ·exact .inl h
 ·exact .inr ⟨g, cap, C, h1, h2, h3, h4.up hu, fun i hi => by obtain ⟨s, e1, e2, e3⟩ := h5 i hi; exact ⟨s, e1, e2.up hu, e3⟩⟩
theorem Rx.rz {w : World} {x : Nat} {v : Value} {L : List (List Int)} (h : Rx w x v L) : Rz w v L := by
 rcases h with h | ⟨g, cap, C, h1, h2, h3, h4, h5⟩
 ·exact .inl h
 ·exact .inr ⟨g, cap, C, h1, h2, h4, fun i hi => by obtain ⟨s, e1, e2, e3⟩ := h5 i hi; exact ⟨s, e1, e2⟩⟩
theorem Rx.setRow {w : World} {x : Nat} {v : Value} {L : List (List Int)} (h : Rx w x v L) (D : Array Value) : Rx (w.setRow x D) x v L := by
 rcases h with h | ⟨g, cap, C, h1, h2, h3, h4, h5⟩
 ·exact .inl h
 ·refine .inr ⟨g, cap, C, h1, h2, h3, Blk.row_other h4 D h3, fun i hi => ?_⟩
  obtain ⟨s, e1, e2, e3⟩ := h5 i hi
  refine ⟨s, e1, ?_, e3⟩
  rcases e2 with e2 | ⟨g', cap', C', hv, hc, hB, ht⟩
  ·exact .inl e2
  ·rcases Nat.eq_zero_or_pos (L.getD i []).length with h0 | h0
   ·exact .inl ⟨List.length_eq_zero_iff.1 h0, _, _, by rw [hv, h0]⟩
   ·exact .inr ⟨g', cap', C', hv, hc, Blk.row_other hB D (e3 _ _ _ hv h0), ht⟩
theorem Rz.rx {w : World} {x : Nat} {v : Value} {L : List (List Int)} (h : Rz w v L) (hx : w.heap.size <= x) : Rx w x v L := by
 rcases h with h | ⟨g, cap, C, h1, h2, h4, h5⟩
 ·exact .inl h
 ·refine .inr ⟨g, cap, C, h1, h2, Nat.ne_of_lt (Nat.lt_of_lt_of_le h4.lt hx), h4, fun i hi => ?_⟩
  obtain ⟨s, e1, e2⟩ := h5 i hi
  refine ⟨s, e1, e2, fun a n c e h0 => ?_⟩
  rcases e2 with ⟨_, p, c', e2⟩ | ⟨g', cap', C', hv, hc, hB, ht⟩
  ·rw [e] at e2; injection e2 with _ e2; omega
  ·rw [e] at hv; injection hv with e3; injection e3 with e3; rw [e3]; exact Nat.ne_of_lt (Nat.lt_of_lt_of_le hB.lt hx)
theorem OwnR.rx {w : World} {b x : Nat} {v : Value} {L : List (List Int)} (h : OwnR w b v L) (hx : x < b) : Rx w x v L := by
 rcases Nat.eq_zero_or_pos L.length with h0 | h0
 ·obtain ⟨p, c, rfl⟩ := h.slice
  exact .inl ⟨List.length_eq_zero_iff.1 h0, p, c, by rw [h0]⟩
 ·obtain ⟨g, cap, C, hv, hb, hc, hB, hE⟩ := h.open h0
  refine .inr ⟨g, cap, C, hv, hc, by omega, hB, fun i hi => ?_⟩
  obtain ⟨s, e1, e2⟩ := hE i hi
  exact ⟨s, e1, e2.1, fun a n c e h9 => by have := e2.2 a n c e h9; omega⟩
theorem Rx.slice {w : World} {x : Nat} {v : Value} {L : List (List Int)} (h : Rx w x v L) : ∃ p c, v = .slice p L.length c := h.rz.slice
set_option maxHeartbeats 16000000 in
theorem defb_any {vr : Value} {n : Nat} {V : Nat -> Nat -> Int} {w : World} (hR : Rz w vr (triE n V)) (h8 : n <= 8) (hV : ∀ i j, (V i j).natAbs <= bdM) (hs : Symm V) :
   Calls Tryz.prog 23 #[vr] w fun r w' => r = .returned (.bool (dfB n V)) /\ Up w w' := by
 have HO1 := hid (fun w => of_any 1 (by decide) (by decide) w)
 have HRX := hid (fun w' (hu : Up w w') => (hR.rx (x := w'.heap.size) (hu.size)).up hu)
 have HSb := hid (Sb.start hV hs)
 obtain ⟨pz, cz, rfl⟩ := hR.slice
 rw [triE_len] at HRX ⊢
 obtain ⟨T, hT⟩ : ∃ T, dfB n V = T := ⟨_, rfl⟩
 have HT := hid (show ((mins n 1 V).all fun x => decide (0 < x)) = T from hT)
 rw [hT]
 clear hT hR hV hs
 unfold wideV at *
 go_enter Tryz.func23, Tryz.ntmps23
 go_wp2_with (first
  | (go_at_call 43; (with_reducible refine (HO1.out _).mono ?_); rintro r w2 ⟨rfl, hu2⟩; have hsz2 := hu2.size)
  | ((with_reducible apply st_rowP infoW); exact rfl; exact rfl; exact row_newz _ rfl
     refine wpL_folded (fun wd => Up w2 wd /\ Row wd w2.heap.size 78 16 (limb (enc 1))) ⟨gUp, gRow⟩ ?_
     rintro wL ⟨hXL, hLast⟩))
 have hRX := (HRX.out _ hu2).up hXL
 have hU2 := hu2.trans hXL
 obtain ⟨bL, hbL⟩ : ∃ y, w2.heap.size = y := ⟨_, rfl⟩
 rw [hbL] at hLast hRX hsz2 ⊢
 have hInv : ∃ (k s : Nat) (q : Int) (M : Nat -> Nat -> Int), s + k = n /\ (0 < s -> Sb q k M) /\ ((mins s q M).all fun x => decide (0 < x)) = T /\ Rx wL bL (.slice pz n cz) (triE s M) /\ Row wL bL 78 16 (limb (enc q)) /\ Up w wL :=
  ⟨0, n, 1, V, by omega, fun _ => HSb.out, HT.out, hRX, hLast, hU2⟩
 clear hRX hLast hU2 hXL hu2 hbL HRX HSb HT HO1
 try simp only [Act.put]
 go_loopg [0] (n + 1) (fun g tr wr => ∃ (k s : Nat) (q : Int) (M : Nat -> Nat -> Int), s <= g /\ s + k = n /\ (0 < s -> Sb q k M) /\ ((mins s q M).all fun x => decide (0 < x)) = T /\ Rx wr bL tr (triE s M) /\ Row wr bL 78 16 (limb (enc q)) /\ Up w wr)
 case atStart =>
  obtain ⟨k, s, q, M, h1, h2⟩ := hInv
  exact ⟨k, s, q, M, by omega, h1, h2⟩
 case round =>
  clear hInv
  obtain ⟨k, s, q, M, hsg, hsk, hSb, hT, hRx, hRow, hu⟩ := hrel
  obtain ⟨pr, cr, rfl⟩ := hRx.slice
  rw [triE_len] at hRx ⊢
  rcases s with _ | s
  ·have hDn : T = true := by rw [<- hT]; rfl
   subst hDn
   clear hSb hT
   go_wp2_with fail
   go_ret
   exact ⟨rfl, hu⟩
  ·have hSb := hSb (Nat.succ_pos s)
   obtain ⟨gR, cR, CR, hv, hcR, hBR, hE⟩ := hRx.rz.open (by rw [triE_len]; omega)
   rw [triE_len] at hv hcR
   injection hv with x1 x2 x3
   subst x1 x3
   obtain ⟨sF, hsF, hWF⟩ := hE 0 (by rw [triE_len]; omega)
   rw [triE_at (by omega)] at hWF
   obtain ⟨gF, cF, CF, rfl, hcF, hBF, htF⟩ := hWF.open (by rw [triR_len]; omega)
   rw [triR_len] at hsF
   have HRng : Hid (∀ w', Blk w' gF 78 CF -> w'.rangeAt gF 0 (wc (M 0 0))) := hid (fun w' hB => by
    have h := wv_range hB htF (i := 0) (by rw [triR_len]; omega)
    rw [triR_at (by omega), Nat.zero_mul] at h
    exact h)
   have hcx := hBR.cell 0 hsF
   have HSg := hid (fun w => sign_z (hSb.inR (by omega) 0 0) w)
   unfold wideV at HSg
   rw [bmins_succ, List.all_cons] at hT
   have HRX := hid hRx
   have HSb := hid hSb
   have HT := hid hT
   clear hE hWF htF hsF x2 hcF hSb hT hRx
   obtain ⟨m0, hm0⟩ : ∃ y, M 0 0 = y := ⟨_, rfl⟩
   have HM0 := hid hm0
   rw [hm0] at HRng HSg HT
   clear hm0
   by_cases hp : 0 < m0
   ·have ds : decide (sgn m0 <= 0) = false := by unfold sgn; rw [decide_eq_false]; split <;> (try split) <;> omega
    have HT2 := hid (show ((mins s m0 (nxt q M)).all fun x => decide (0 < x)) = T from by have h := HT.out; rw [decide_eq_true hp, Bool.true_and, if_pos hp] at h; exact h)
    have hlt := hRow.lt
    go_upto_region 6 with (first
     | ((with_reducible apply ldW_P); exact rfl; exact rfl; exact HRng.out _ hBF)
     | ((with_reducible apply st_rowP infoW); exact rfl; exact rfl; exact row_newz _ rfl
        refine wpL_folded (fun wd => Up wr wd /\ Row wd wr.heap.size 78 16 (limb (enc m0))) ⟨gUp, gRow⟩ ?_
        rintro w3 ⟨hX3, hRm⟩)
     | ((with_reducible apply ld_rowP undW infoW); exact rfl; exact rfl; exact gRow)
     | (go_at_call 44; (with_reducible refine (HSg.out _).mono ?_); rintro r w7 ⟨rfl, hu7⟩))
    have hx7 := hX3.trans hu7
    have hRow7 := hRow.up hx7
    have hRm7 := hRm.up hu7
    have hRX7 := HRX.out.up hx7
    have hU7 := hu.trans hx7
    have hne : wr.heap.size ≠ bL := Nat.ne_of_gt hlt
    obtain ⟨bm, hbm⟩ : ∃ y, wr.heap.size = y := ⟨_, rfl⟩
    rw [hbm] at hRm7 hne ⊢
    have HFW := hid (fun w' (hu' : Up w7 w') => show Calls Tryz.prog 45 #[.slice (some ⟨gR, 0, none⟩) (s + 1) cr, .agg (cells 16 (limb (enc q)))] w' (fun e w'' => Up w' w'' /\ ∃ v, e = .returned v /\ (fun v w'' => ∃ b, w7.heap.size <= b /\ OwnR w'' b v (triE s (nxt q M))) v w'') from by
     have hf := fewerb_any (q := q) ((hRX7.up hu').rz) HSb.out.2.2.2 (by omega) (fun h0 => HSb.out.small (by omega)) HSb.out.2.2.1 (Int.ne_of_gt HSb.out.2.1)
     unfold wideV at hf
     refine hf.mono fun _ _ h => ?_
     obtain ⟨z, rfl, hu, b, hb, hO⟩ := h
     exact ⟨hu, z, rfl, b, Nat.le_trans hu'.size hb, hO⟩)
    clear hX3 hu7 hx7 hRow hRm hu hcx hBR hBF hbm ds
    refine opU (S := (fun wq => Up w7 wq /\ Below w.heap.size w wq)) (req := (fun j => j != 5)) (fun _ _ h hu => ⟨(h.1).trans hu, below_up (h.2) hu⟩) ⟨(by first | exact Up.refl _ | assumption), gUp⟩ (fun wS hSS hSu => ?_)
    have ⟨hS1, hSB⟩ := hSS
    refine tkP 0 (some 17) hSu ?_
    refine tkT 1 (some 18) rfl hSu hSS ?_ (hy := fun w' hSw => run_ld undW infoW _ rfl _ rfl (hRow7.up hSw.1))
    refine tkT 3 (some 20) rfl hSu hSS ?_ (hy := fun w' hSw => run_ld undW infoW _ rfl _ rfl (hRm7.up hSw.1))
    refine wpAnyU_callE (i := 2) (d := (some 19)) rfl rfl (by kernel_rfl) (by rfl) hSu.out (fun w' => by go_simp) (fun w' hw' => (HFW.out w' (hS1.trans hw'))) fun vG wG hwG hRG => ?_
    try simp only [Act.put, pu1, pu2, pu3]
    obtain ⟨bN, hbN, hON⟩ := hRG
    obtain ⟨pN, cN, rfl⟩ := hON.slice
    refine tkP 4 (some 0) hSu ?_
    refine wpAnyU_one (i := 5) rfl (by kernel_rfl) (by rfl) fun wX hwX => ?_
    refine wp_st_rowN infoW rfl _ _ rfl _ rfl rfl ((hRow7.up ((hS1.trans hwG).trans hwX))) ?_
    refine ⟨fun h => by simp at h, ?_⟩
    try simp only [Act.put, pu1, pu2, pu3]
    refine wpAnyU_done (by kernel_rfl) (fun wF huE => ?_) _
    have hUG := (hS1.trans hwG).trans hwX
    have hltb := hRow7.lt
    have gRow := ((hRow7.up hUG).setRow (limb (enc m0))).up huE
    have gO := ((((hON.up hwX).rx (show bL < bN by omega)).setRow (cells 16 (limb (enc m0))))).up huE
    have gU := Up.trans (below_setRow (hU7.trans hUG) (show w.heap.size <= bL by omega) (cells 16 (limb (enc m0)))) huE
    have gS : 0 < s -> Sb m0 (k + 1) (nxt q M) := fun h0 => by
     have h := HSb.out.next (by omega) (by rw [HM0.out]; exact hp)
     rw [HM0.out] at h
     exact h
    have HGS := hid gS
    clear hS1 hSB hSS hwG hwX huE hON hUG gS
    rw [triE_len] at gO ⊢
    go_wp2_with fail
    go_roundg s
    case measure => omega
    case rel => exact ⟨k + 1, s, m0, nxt q M, Nat.le_refl _, by omega, HGS.out, HT2.out, gO, gRow, gU⟩
   ·have ds : decide (sgn m0 <= 0) = true := by unfold sgn; rw [decide_eq_true]; split <;> (try split) <;> omega
    have hTf : T = false := by have h := HT.out; rw [decide_eq_false hp, Bool.false_and] at h; exact h.symm
    subst hTf
    go_wp2_with (first
     | ((with_reducible apply ldW_P); exact rfl; exact rfl; exact HRng.out _ hBF)
     | ((with_reducible apply st_rowP infoW); exact rfl; exact rfl; exact row_newz _ rfl
        refine wpL_folded (fun wd => Up wr wd /\ Row wd wr.heap.size 78 16 (limb (enc m0))) ⟨gUp, gRow⟩ ?_
        rintro w3 ⟨hX3, hRm⟩)
     | ((with_reducible apply ld_rowP undW infoW); exact rfl; exact rfl; exact gRow)
     | (go_at_call 44; (with_reducible refine (HSg.out _).mono ?_); rintro r w7 ⟨rfl, hu7⟩))
    go_ret
    exact ⟨rfl, hu.trans (hX3.trans hu7)⟩
theorem triR_take_succ (n : Nat) (f : Nat -> Nat -> Int) (i : Nat) {j : Nat} (h : i <= j) (hj : j < n) : (triR n f i).take (j + 1 - i) = (triR n f i).take (j - i) ++ [f i j] := by
 unfold triR
 rw [show j + 1 - i = (j - i) + 1 by omega, mk_take_succ _ (by omega), show i + (j - i) = j by omega]
set_option maxHeartbeats 8000000 in
theorem triangle_any {v : Value} {n : Nat} {l : List Int} {w : World} (hm : Sm w v n l) (hR : rt n l = true) :
   Calls Tryz.prog 25 #[v] w fun r w' => ∃ z, r = .returned z /\ Up w w' /\ ∃ b, w.heap.size <= b /\ OwnR w' b z (triE n (AM n l)) := by
 have n8 : n <= 8 := by have := (rt_spec hR).2.1; omega
 rw [show triE n (AM n l) = triE n (fun i j => ent n l i j) from triE_congr fun i j hi _ hj => AM_at hi hj]
 have HAT := hid (fun (i j : Nat) (hi : i < n) (hj : j < n) w' (hu : Up w w') => at_right (hm.up hu) hR hi hj)
 have HO := hid (fun (i j : Nat) (hi : i < n) (hj : j < n) w => of_any (ent n l i j) (ent_i64 hR hi hj).1 (ent_i64 hR hi hj).2 w)
 obtain ⟨s, rfl, ⟨p, cap, rfl, hcap, hc⟩, hN, hl, hlen⟩ := hm
 obtain ⟨wS, hwS⟩ : ∃ x, w.alloc (.cells #[.int .i64 (n : Int), .slice p l.length cap] 24) = x := ⟨_, rfl⟩
 have hB : Blk wS w.heap.size 24 #[.int .i64 (n : Int), .slice p l.length cap] := by rw [<- hwS]; exact Blk.new _ _ rfl
 have hU : Up w wS := by rw [<- hwS]; exact Up.alloc _ _
 have hc0 := hB.cell 0 rfl
 have HTR := hid (fun i (hi : i < n) => triE_take_succ n (fun i j => ent n l i j) hi)
 have HTE := hid (fun i j (hij : i <= j) (hj : j < n) => triR_take_succ n (fun i j => ent n l i j) i hij hj)
 have HRL := hid (fun i => triR_len n (fun i j => ent n l i j) i)
 have HSL := hid (triE_len n (fun i j => ent n l i j))
 obtain ⟨R, hRR⟩ : ∃ R, triR n (fun i j => ent n l i j) = R := ⟨_, rfl⟩
 obtain ⟨E, hEE⟩ : ∃ E, triE n (fun i j => ent n l i j) = E := ⟨_, rfl⟩
 rw [hRR] at HTR HTE HRL
 rw [hEE] at HTR HSL ⊢
 clear hc hl hlen hR hN hRR hEE
 unfold wideV at *
 go_enter Tryz.func25, Tryz.ntmps25
 go_wp2_with fail
 clear hwS hc0
 go_loopg [3, 11] n (fun g tr ti wr => ∃ i : Nat, i <= n /\ n - i <= g /\ ti = .int .i64 (i : Nat) /\ OwnR wr wS.heap.size tr (E.take i) /\ Up wS wr)
 case atStart => exact ⟨0, Nat.zero_le _, by omega, rfl, by rw [List.take_zero]; exact OwnR.nil _ _, Up.refl _⟩
 case round =>
  obtain ⟨i, hi, hig, rfl, hO, hu⟩ := hrel
  have hc0 := (hB.up hu).cell 0 rfl
  by_cases hlt : i < n
  ·have e1 : IntKind.i64.wrap ((i : Int) + 1) = (i : Int) + 1 := IntWalk.i64_in _ (by omega)
   go_wp2_with fail
   obtain ⟨wO, hwO⟩ : ∃ y, wr = y := ⟨_, rfl⟩
   rw [hwO] at hO hu hc0 ⊢
   clear hwO
   go_loopg [5, 6] n (fun g te tj wr => ∃ j : Nat, i <= j /\ j <= n /\ n - j <= g /\ tj = .int .i64 (j : Nat) /\ OwnW wr wO.heap.size te ((R i).take (j - i)) /\ Up wO wr)
   case atStart => exact ⟨i, Nat.le_refl _, hi, by omega, rfl, by rw [Nat.sub_self, List.take_zero]; exact OwnW.nil _ _, Up.refl _⟩
   case round =>
    clear hc0
    obtain ⟨j, hij, hj, hjg, rfl, hE, huj⟩ := hrel
    have hBj := hB.up (hu.trans huj)
    have hc0 := hBj.cell 0 rfl
    by_cases hjlt : j < n
    ·have e2 : IntKind.i64.wrap ((j : Int) + 1) = (j : Int) + 1 := IntWalk.i64_in _ (by omega)
     have HA := hid (fun w' (hu' : Up wr w') => HAT.out i j hlt hjlt w' (hU.trans ((hu.trans huj).trans hu')))
     have HOf := hid (HO.out i j hlt hjlt)
     have HT9 := hid (HTE.out i j hij hjlt)
     have HTk : Hid (((R i).take (j - i)).length < 1000000) := hid (by rw [List.length_take]; omega)
     have hszj := huj.size
     generalize ent n l i j = z at *
     go_wp2_with (first
      | ((with_reducible apply ldM_P); exact rfl; exact rfl; exact hBj; exact rfl)
      | (go_at_call 47; (with_reducible refine (HA.out _ (Up.refl _)).mono ?_); rintro r w2 ⟨rfl, hu2⟩; have hs2 := hu2.size)
      | (go_at_call 43; (with_reducible refine (HOf.out _).mono ?_); rintro r w3 ⟨rfl, hu3⟩; have hs3 := hu3.size)
      | ((with_reducible apply bsW_P); exact rfl)
      | ((with_reducible apply appW (l := (R i).take (j - i)) (m := [z])); exact rfl; exact rfl; exact OwnW.up ((hu2.trans hu3).trans (Up.alloc _ _)) hE; exact one_range rfl; (focus (simp; omega)); exact HTk.out; (focus (simp; done)); rintro v6 w6 hO6 - hb6))
     go_roundg (n - (j + 1))
     case measure => omega
     case rel => exact ⟨j + 1, by omega, hjlt, Nat.le_refl _, rfl, by rw [HT9.out]; exact hO6, Below.trans (huj.trans ((hu2.trans hu3).trans (Up.alloc _ _))) hb6⟩
    ·obtain rfl : j = n := by omega
     rw [List.take_of_length_le (by rw [HRL.out]; exact Nat.le_refl _)] at hE
     obtain ⟨pe, ce, rfl⟩ := hE.slice
     have HT9 := hid (HTR.out i hlt)
     have HTk : Hid ((E.take i).length < 1000000) := hid (by rw [List.length_take]; omega)
     have hszj := huj.size
     have hszu := hu.size
     go_wp2_with (first
      | ((with_reducible apply appR (r := R i)); exact rfl; exact rfl; exact OwnR.up (huj.trans (Up.alloc _ _)) hO; exact (Blk.new _ _ rfl).cell 0 rfl; exact (hE.up (Up.alloc _ _)).wb (by omega); (focus (simp; omega)); exact HTk.out; rintro v6 w6 hO6 - hb6))
     go_roundg (j - (i + 1))
     case measure => omega
     case rel => exact ⟨i + 1, hlt, Nat.le_refl _, rfl, by rw [HT9.out]; exact hO6, Below.trans ((hu.trans huj).trans (Up.alloc _ _)) hb6⟩
  ·obtain rfl : i = n := by omega
   rw [List.take_of_length_le (by rw [HSL.out]; exact Nat.le_refl _)] at hO
   go_wp2_with fail
   go_ret
   exact ⟨_, rfl, hU.trans hu, _, hU.size, hO⟩
theorem infoWz : (Tryz.prog.info? 78).map (fun i => (i.zero, i.size, i.bytes)) = some (some (.agg (cells 16 fun _ => 0)), 16, 128) := by kernel_rfl
theorem wc_zero : wc 0 = List.replicate 16 (.int .u64 0) := by
 unfold wc
 rw [<- zero_limb]
 unfold cells
 kernel_rfl
theorem wcs_zeros (m : Nat) : wcs (List.replicate m 0) = List.replicate (m * 16) (.int .u64 0) := by
 induction m with
 | zero => rfl
 | succ m ih => rw [List.replicate_succ, wcs_cons, ih, wc_zero, List.replicate_append_replicate]; congr 1; omega
theorem made_wides (m : Nat) : (madeCells (Value.agg (cells 16 fun _ => 0)).cells (m * 16)).toList = wcs (List.replicate m 0) := by
 rw [wcs_zeros]
 have hc : (Value.agg (cells 16 fun _ => 0)).cells = cells 16 fun _ => 0 := rfl
 apply List.ext_getElem
 ·simp [madeCells]
 ·intro i h1 h2
  have hi : i % 16 < 16 := Nat.mod_lt _ (by decide)
  simp [madeCells, hc, cells_size]
  rw [getElem!_pos _ _ (by rw [cells_size]; exact hi)]
  simp [cells]
theorem mkWs {ops : Array Oper} {rest : List Oper} {Q : Exit -> Act -> World -> Prop} {a : Act} {w : World} {d : Option Tmp} {l : Tmp} {ty : TypeId} {pos : String} {af : Array Edge} {n : Nat} (hl : a.eval (.tmp l) = .int .i64 (n : Nat)) (hn : n < 1000)
   (h : ∀ w', OwnW w' w.heap.size (.slice (some ⟨w.heap.size, 0, none⟩) n n) (List.replicate n 0) -> Up w w' -> wpList Tryz.prog ops Q rest (a.put d (.slice (some ⟨w.heap.size, 0, none⟩) n n)) w') :
   wpList Tryz.prog ops Q ({ dst := d, op := .makeSlice 80 (.tmp l) (.tmp l), type := ty, pos := pos, after := af, guard := none } :: rest) a w := by
 refine wpList_plain rfl fun _ hK => ?_
 obtain ⟨i, hq, hi⟩ := Option.map_eq_some_iff.1 infoWz
 simp only [Prod.mk.injEq] at hi
 have hr := run_make (P := Tryz.prog) (w := w) 80 78 i (.agg (cells 16 fun _ => 0)) undWs hq hi.1 .i64 .i64 n n (by omega) (by omega) (by rw [hi.2.2]; omega) (by omega)
 rw [hi.2.1, Int.toNat_natCast] at hr
 unfold Oper.wp execOp
 simp only [hl, Sem.run_bind, Sem.run_pure, Result.andThen_ok, hr]
 refine hK _ _ (h _ ⟨by rw [wcs_len], .inr ⟨w.heap.size, n, _, by rw [List.length_replicate], Nat.le_refl _, heap_alloc_new w _, by rw [List.length_replicate]; exact Nat.le_refl _, by unfold maxLen; omega, by rw [size_madeCells], ?_⟩⟩ (Up.alloc _ _))
 rw [List.length_replicate, made_wides]
 exact List.take_of_length_le (by rw [wcs_len, List.length_replicate]; exact Nat.le_refl _)
theorem triR_unit (n i : Nat) (k : Int) : (List.replicate (n - i) (0 : Int)).set 0 k = triR n (unitM k) i := by
 refine list_ext (by rw [List.length_set, List.length_replicate, triR_len]) fun j hj => ?_
 rw [List.length_set, List.length_replicate] at hj
 rw [triR_at hj, zth_set (by rw [List.length_replicate]; exact hj)]
 unfold unitM
 by_cases h : j = 0
 ·rw [if_pos h, if_pos (by omega)]
 ·rw [if_neg h, if_neg (by omega), zth_get (by rw [List.length_replicate]; exact hj)]
  simp
set_option maxHeartbeats 8000000 in
theorem ones_any {n : Nat} {k : Int} (n8 : n <= 8) (hk : I64 k) (w : World) :
   Calls Tryz.prog 26 #[.int .i64 (n : Nat), .int .i64 k] w fun r w' => ∃ z, r = .returned z /\ Up w w' /\ ∃ b, w.heap.size <= b /\ OwnR w' b z (triE n (unitM k)) := by
 have HO := hid (fun w => of_any k hk.1 hk.2 w)
 have HTR := hid (fun i (hi : i < n) => triE_take_succ n (unitM k) hi)
 have HTU := hid (fun i => triR_unit n i k)
 have HSL := hid (triE_len n (unitM k))
 obtain ⟨R, hRR⟩ : ∃ R, triR n (unitM k) = R := ⟨_, rfl⟩
 obtain ⟨E, hEE⟩ : ∃ E, triE n (unitM k) = E := ⟨_, rfl⟩
 rw [hRR] at HTR HTU
 rw [hEE] at HTR HSL ⊢
 clear hRR hEE hk
 unfold wideV at *
 go_enter Tryz.func26, Tryz.ntmps26
 go_wp2_with fail
 go_loopg [5, 9] n (fun g tr ti wr => ∃ i : Nat, i <= n /\ n - i <= g /\ ti = .int .i64 (i : Nat) /\ OwnR wr w.heap.size tr (E.take i) /\ Up w wr)
 case atStart => exact ⟨0, Nat.zero_le _, by omega, rfl, by rw [List.take_zero]; exact OwnR.nil _ _, Up.refl _⟩
 case round =>
  obtain ⟨i, hi, hig, rfl, hO, hu⟩ := hrel
  by_cases hlt : i < n
  ·have e1 : IntKind.i64.wrap ((i : Int) + 1) = (i : Int) + 1 := IntWalk.i64_in _ (by omega)
   obtain ⟨m, hm⟩ : ∃ m, n - i = m := ⟨_, rfl⟩
   have hm0 : 0 < m := by omega
   have e2 : IntKind.i64.wrap ((n : Int) - (i : Int)) = (m : Int) := by rw [show (n : Int) - (i : Int) = (m : Int) by omega]; exact IntWalk.i64_in _ (by omega)
   have HU9 := hid (HTU.out i)
   rw [hm] at HU9
   have HT9 := hid (HTR.out i hlt)
   have HTk : Hid ((E.take i).length < 1000000) := hid (by rw [List.length_take]; omega)
   have hszu := hu.size
   go_upto_region 6 with (first
    | ((with_reducible apply mkWs (n := m)); exact rfl; (focus omega); rintro w2 hO2 hu2))
   obtain ⟨gW, cW, CW, hvW, hbW, hBW, -, -, hsW, -⟩ := hO2.open (by rw [List.length_replicate]; omega)
   injection hvW with x1 x2 x3
   injection x1 with x1
   injection x1 with x1
   rw [<- x1] at hBW
   have hset := fun w3 (hu3 : Up w2 w3) => (hO2.up hu3).set (hBW.up hu3) (i := 0) (by rw [List.length_replicate]; omega) k
   rw [HU9.out] at hset
   have HSe := hid hset
   have hs2 := hu2.size
   have hBW2 := hid (fun w3 (hu3 : Up w2 w3) => hBW.up hu3)
   obtain ⟨b2, hb2⟩ : ∃ y, wr.heap.size = y := ⟨_, rfl⟩
   have HLe := hid (fun w3 (hu3 : Up w2 w3) D => show Up wr (w3.setRow b2 D) from below_setRow (hu2.trans hu3) (Nat.le_of_eq hb2) D)
   rw [hb2] at HSe hBW2 hs2 ⊢
   clear hset hO2 x1 x2 x3 hBW hsW hbW
   go_upto_region 7 with (first
    | (go_at_call 43; (with_reducible refine (HO.out _).mono ?_); rintro r w3 ⟨rfl, hu3⟩)
    | ((with_reducible apply stW_P (off := 0) (z := k) (C := CW)); exact rfl; exact rfl; exact hBW2.out _ hu3; exact (HSe.out _ hu3).2
       refine wpL_folded (fun wd => Up wr wd /\ OwnW wd b2 (.slice (some ⟨b2, 0, none⟩) m m) (R i)) ⟨HLe.out _ hu3 _, (HSe.out _ hu3).1⟩ ?_
       rintro w4 ⟨hu4, hW4⟩))
   have hs4 := hu4.size
   have hb3 : wr.heap.size <= b2 := Nat.le_of_eq hb2
   clear hu2 hu3 HSe hBW2 HLe hb2
   go_wp2_with (first
    | ((with_reducible apply appR (r := R i)); exact rfl; exact rfl; exact OwnR.up (hu4.trans (Up.alloc _ _)) hO; exact (Blk.new _ _ rfl).cell 0 rfl; exact (hW4.up (Up.alloc _ _)).wb (by omega); (focus (simp; omega)); exact HTk.out; rintro v6 w6 hO6 - hb6))
   go_roundg (n - (i + 1))
   case measure => omega
   case rel => exact ⟨i + 1, hlt, Nat.le_refl _, rfl, by rw [HT9.out]; exact hO6, Below.trans ((hu.trans hu4).trans (Up.alloc _ _)) hb6⟩
  ·obtain rfl : i = n := by omega
   rw [List.take_of_length_le (by rw [HSL.out]; exact Nat.le_refl _)] at hO
   go_wp2_with fail
   go_ret
   exact ⟨_, rfl, hu, _, Nat.le_refl _, hO⟩
theorem sum_inR {a b : Int} {k : Nat} (hk : k <= 14) (ha : a.natAbs < bp k) (hb : b.natAbs < bp k) : InR (a - b) := by
 refine few_inR (k := k + 1) (by omega) ?_
 have := Int.natAbs_sub_le a b
 have := bp_pos k
 rw [bp_succ]
 omega
set_option maxHeartbeats 16000000 in
theorem blessy_any {va vb : Value} {n : Nat} {f g : Nat -> Nat -> Int} {w : World} (hA : Rz w va (triE n f)) (hB : Rz w vb (triE n g)) (n8 : n <= 8) (hf : ∀ i j, (f i j).natAbs < bp 14) (hg : ∀ i j, (g i j).natAbs < bp 14) :
   Calls Tryz.prog 24 #[va, vb] w fun r w' => ∃ z, r = .returned z /\ Up w w' /\ ∃ b, w.heap.size <= b /\ OwnR w' b z (triE n fun i j => f i j - g i j) := by
 have HTR := hid (fun i (hi : i < n) => triE_take_succ n (fun i j => f i j - g i j) hi)
 have HTE := hid (fun i d (hd : d < n - i) => show (triR n (fun i j => f i j - g i j) i).take (d + 1) = (triR n (fun i j => f i j - g i j) i).take d ++ [f i (i + d) - g i (i + d)] from by unfold triR; rw [mk_take_succ _ hd])
 have HRL := hid (fun i => triR_len n (fun i j => f i j - g i j) i)
 have HSL := hid (triE_len n (fun i j => f i j - g i j))
 have HS := hid (fun i j w => by
  have h := sub_z (few_inR (k := 14) (by omega) (hf i j)) (few_inR (k := 14) (by omega) (hg i j)) w
  rw [opt_yes (sum_inR (by omega) (hf i j) (hg i j))] at h
  exact h)
 have HA := hid hA
 have HB := hid hB
 obtain ⟨R, hRR⟩ : ∃ R, triR n (fun i j => f i j - g i j) = R := ⟨_, rfl⟩
 obtain ⟨E, hEE⟩ : ∃ E, triE n (fun i j => f i j - g i j) = E := ⟨_, rfl⟩
 rw [hRR] at HTR HTE HRL
 rw [hEE] at HTR HSL ⊢
 obtain ⟨pa, ca, rfl⟩ := hA.slice
 obtain ⟨pb, cb, rfl⟩ := hB.slice
 rw [triE_len] at HA HB
 rw [triE_len, triE_len]
 clear hRR hEE hf hg hA hB
 unfold wideV at *
 go_enter Tryz.func24, Tryz.ntmps24
 go_wp2_with fail
 go_loopg [5, 13] n (fun g0 tr ti wr => ∃ i : Nat, i <= n /\ n - i <= g0 /\ ti = .int .i64 (i : Nat) /\ OwnR wr w.heap.size tr (E.take i) /\ Up w wr)
 case atStart => exact ⟨0, Nat.zero_le _, by omega, rfl, by rw [List.take_zero]; exact OwnR.nil _ _, Up.refl _⟩
 case round =>
  obtain ⟨i, hi, hig, rfl, hO, hu⟩ := hrel
  by_cases hlt : i < n
  ·obtain ⟨gA, cA, CA, hva, hcA, hBA, hEA⟩ := HA.out.open (by rw [triE_len]; omega)
   obtain ⟨gB, cB, CB, hvb, hcB, hBB, hEB⟩ := HB.out.open (by rw [triE_len]; omega)
   rw [triE_len] at hva hvb hcA hcB
   injection hva with x1 _ x3
   injection hvb with y1 _ y3
   subst x1 x3 y1 y3
   obtain ⟨sA, hsA, hWA⟩ := hEA i (by rw [triE_len]; omega)
   obtain ⟨sB, hsB, hWB⟩ := hEB i (by rw [triE_len]; omega)
   rw [triE_at hlt] at hWA hWB
   obtain ⟨g1, c1, C1, rfl, hc1, hB1, ht1⟩ := hWA.open (by rw [triR_len]; omega)
   obtain ⟨g2, c2, C2, rfl, hc2, hB2, ht2⟩ := hWB.open (by rw [triR_len]; omega)
   rw [triR_len] at hsA hsB hc1 hc2
   have HR1 := hid (fun d (hd : d < n - i) w' (hB : Blk w' g1 78 C1) => show w'.rangeAt g1 (d * 16) (wc (f i (i + d))) from by
    have h := wv_range hB ht1 (i := d) (by rw [triR_len]; exact hd)
    rwa [triR_at hd] at h)
   have HR2 := hid (fun d (hd : d < n - i) w' (hB : Blk w' g2 78 C2) => show w'.rangeAt g2 (d * 16) (wc (g i (i + d))) from by
    have h := wv_range hB ht2 (i := d) (by rw [triR_len]; exact hd)
    rwa [triR_at hd] at h)
   have e1 : IntKind.i64.wrap ((i : Int) + 1) = (i : Int) + 1 := IntWalk.i64_in _ (by omega)
   have hcx := (hBA.up hu).cell i hsA
   obtain ⟨m, hm⟩ : ∃ m, n - i = m := ⟨_, rfl⟩
   have HM := hid hm
   rw [hm] at hcx hsB hsA
   clear hEA hEB hWA hWB ht1 ht2
   go_wp2_with fail
   obtain ⟨wO, hwO⟩ : ∃ y, wr = y := ⟨_, rfl⟩
   rw [hwO] at hO hu hcx ⊢
   clear hwO hcx
   go_loopg [7, 21] m (fun g0 te tj wr => ∃ d : Nat, d <= m /\ m - d <= g0 /\ tj = .int .i64 (d : Nat) /\ OwnW wr wO.heap.size te ((R i).take d) /\ Up wO wr)
   case atStart => exact ⟨0, Nat.zero_le _, by omega, rfl, by rw [List.take_zero]; exact OwnW.nil _ _, Up.refl _⟩
   case round =>
    obtain ⟨d, hd, hdg, rfl, hE, hud⟩ := hrel
    by_cases hdlt : d < m
    ·have e2 : IntKind.i64.wrap ((d : Int) + 1) = (d : Int) + 1 := IntWalk.i64_in _ (by omega)
     have hcA9 := (hBA.up (hu.trans hud)).cell i hsA
     have hcB9 := (hBB.up (hu.trans hud)).cell i hsB
     have hB19 := hB1.up (hu.trans hud)
     have hB29 := hB2.up (hu.trans hud)
     have H1 := hid (HR1.out d (by omega))
     have H2 := hid (HR2.out d (by omega))
     have HSub := hid (HS.out i (i + d))
     have HT9 := hid (HTE.out i d (by omega))
     have HTk : Hid (((R i).take d).length < 1000000) := hid (by rw [List.length_take]; omega)
     unfold wideV at HSub
     generalize f i (i + d) = x at *
     generalize g i (i + d) = y at *
     have hszd := hud.size
     go_wp2_with fail
     refine opU (S := (fun wq => wq.cell? ⟨gA, i, none⟩ = some (.slice (some ⟨g1, 0, none⟩) m c1) /\ wq.cell? ⟨gB, i, none⟩ = some (.slice (some ⟨g2, 0, none⟩) m c2) /\ Up wr wq /\ Below w.heap.size w wq)) (req := (fun j => j != 19)) (fun _ _ h hu => ⟨hu.cell (h.1), hu.cell (h.2.1), (h.2.2.1).trans hu, below_up (h.2.2.2) hu⟩) ⟨(by first | assumption | (apply Blk.cell; exact gBlk; exact rfl)), (by first | assumption | (apply Blk.cell; exact gBlk; exact rfl)), (by first | exact Up.refl _ | assumption), gUp⟩ (fun wS hSS hSu => ?_)
     have ⟨hS1, hS2, hS3, hSB⟩ := hSS
     refine tkP 0 (some 25) hSu ?_
     refine tkP 1 (some 26) hSu ?_
     refine tkP 2 (some 27) hSu ?_
     refine tkT 3 (some 28) rfl hSu hSS ?_ (hy := fun w' hSw => by ((try dsimp only at hSw); (try obtain ⟨_, _, _, _⟩ := hSw); go_simp; (try exact rfl)))
     refine tkP 4 (some 29) hSu ?_
     refine tkP 5 (some 30) hSu ?_
     refine tkT 6 (some 31) rfl hSu hSS ?_ (hy := fun w' hSw => run_ldW rfl rfl (H1.out _ (hB19.up hSw.2.2.1)))
     refine tkP 7 (some 32) hSu ?_
     refine tkP 8 (some 33) hSu ?_
     refine tkP 9 (some 34) hSu ?_
     refine tkT 10 (some 35) rfl hSu hSS ?_ (hy := fun w' hSw => by ((try dsimp only at hSw); (try obtain ⟨_, _, _, _⟩ := hSw); go_simp; (try exact rfl)))
     refine tkP 11 (some 36) hSu ?_
     refine tkP 12 (some 37) hSu ?_
     refine tkT 13 (some 38) rfl hSu hSS ?_ (hy := fun w' hSw => run_ldW rfl rfl (H2.out _ (hB29.up hSw.2.2.1)))
     refine tkC 14 (some 39) rfl hSu hSS ?_ (hy := fun w' hSw => (HSub.out _))
     refine tkP 15 (some 24) hSu ?_
     refine tkP 16 (some 40) hSu ?_
     refine tkP 17 (some 41) hSu ?_
     refine wpAnyU_allocW (i := 18) (d := (some 9)) rfl rfl (by kernel_rfl) (by rfl) rfl hSu.out fun w2 hw2 => ?_
     try simp only [Act.put, pu1, pu2, pu3]
     refine wpAnyU_one (i := 19) rfl (by kernel_rfl) (by rfl) fun w3 hw3 => ?_
     refine wp_st_rowN infoW rfl _ _ rfl _ rfl rfl ((Row.up (row_newc _ 16 _ rfl) hw3)) ?_
     refine ⟨fun h => by simp at h, ?_⟩
     try simp only [Act.put, pu1, pu2, pu3]
     refine tkP 20 (some 10) hSu ?_
     refine wpAnyU_done (by kernel_rfl) (fun wF huE => ?_) _
     have hP1 := ((Row.up (row_newc 78 16 (fun _ => 0) (rfl : w2.heap.size = w2.heap.size)) hw3).setRow (limb (enc (x - y)))).up huE
     have hx1 := up_var (hS3.trans hw2) hw3 huE
     clear hS1 hS2 hS3 hSB hSS hw2 hw3 huE hcA9 hcB9
     obtain ⟨wA, hwA⟩ : ∃ x, wF = x := ⟨_, rfl⟩
     rw [hwA] at hP1 hx1 ⊢
     clear hwA
     obtain ⟨b1, hb1⟩ : ∃ x, w2.heap.size = x := ⟨_, rfl⟩
     rw [hb1] at hP1 ⊢
     clear hb1
     have hsz1 := hx1.size
     go_wp2_with (first
      | ((with_reducible apply ld_rowP undW infoW); exact rfl; exact rfl; exact hP1)
      | ((with_reducible apply bsW_P); exact rfl)
      | ((with_reducible apply appW (l := (R i).take d) (m := [x - y])); exact rfl; exact rfl; exact OwnW.up (hx1.trans (Up.alloc _ _)) hE; exact one_range rfl; (focus (simp; omega)); exact HTk.out; (focus (simp; done)); rintro v6 w6 hO6 - hb6))
     go_roundg (m - (d + 1))
     case measure => omega
     case rel => exact ⟨d + 1, hdlt, Nat.le_refl _, rfl, by rw [HT9.out]; exact hO6, Below.trans (hud.trans (hx1.trans (Up.alloc _ _))) hb6⟩
    ·obtain rfl : d = m := by omega
     rw [List.take_of_length_le (by rw [HRL.out]; omega)] at hE
     obtain ⟨pe, ce, rfl⟩ := hE.slice
     have HT9 := hid (HTR.out i hlt)
     have HTk : Hid ((E.take i).length < 1000000) := hid (by rw [List.length_take]; omega)
     have hszd := hud.size
     have hszu := hu.size
     go_wp2_with (first
      | ((with_reducible apply appR (r := R i)); exact rfl; exact rfl; exact OwnR.up (hud.trans (Up.alloc _ _)) hO; exact (Blk.new _ _ rfl).cell 0 rfl; exact (hE.up (Up.alloc _ _)).wb (by omega); (focus (simp; omega)); exact HTk.out; rintro v6 w6 hO6 - hb6))
     go_roundg (n - (i + 1))
     case measure => omega
     case rel => exact ⟨i + 1, hlt, Nat.le_refl _, rfl, by rw [HT9.out]; exact hO6, Below.trans ((hu.trans hud).trans (Up.alloc _ _)) hb6⟩
  ·obtain rfl : i = n := by omega
   rw [List.take_of_length_le (by rw [HSL.out]; exact Nat.le_refl _)] at hO
   go_wp2_with fail
   go_ret
   exact ⟨_, rfl, hu, _, Nat.le_refl _, hO⟩
set_option linter.unusedSimpArgs false
section
variable {P : Program} {ops : Array Oper} {Q : Exit -> Act -> World -> Prop} {md : Region.Mode}
structure SG where
 p : Value -> World -> Prop
 up : ∀ v w w', p v w -> Up w w' -> p v w'
 b : Option Bool
 hb : ∀ c, b = some c -> ∀ v w, p v w -> v = .bool c
 u : Bool
 hu : u = true -> ∀ w, p undef w
def SG.is (c : Value) : SG := ⟨fun v _ => v = c, fun _ _ _ h _ => h, none, (by simp), false, (by simp)⟩
def SG.tt (c : Bool) : SG := ⟨fun v _ => v = .bool c, fun _ _ _ h _ => h, some c, (fun _ h _ _ e => (by injection h with h; subst h; exact e)), false, (by simp)⟩
def SG.no : SG := ⟨fun v _ => v = undef, fun _ _ _ h _ => h, none, (by simp), true, (by simp)⟩
def SG.any : SG := ⟨fun _ _ => True, fun _ _ _ h _ => h, none, (by simp), true, (by simp)⟩
def SG.of (p : Value -> World -> Prop) (up : ∀ v w w', p v w -> Up w w' -> p v w') : SG := ⟨p, up, none, (by simp), false, (by simp)⟩
def nthG (L : List SG) (i : Nat) (v : Value) (w : World) : Prop := (L.getD i SG.any).p v w
def wantG (ops : Array Oper) (L : List SG) (i : Nat) : Bool := match (ops[i]?).bind (·.guard) with | none => true | some (j, b) => (L.getD j SG.any).b == some b
def gdB (md : Region.Mode) (ops : Array Oper) (L : List SG) (st i : Nat) : Bool :=
 match ops[i]? with
 | none => true
 | some o => match o.guard with
   | none => true
   | some (j, b) => j != st && (o.after.any fun e => Region.binds md e && e.on == j) && (((ops[j]?).map fun o' => o'.dst.isSome).getD false) && ((L.getD j SG.any).b == some b || ((L.getD j SG.any).b == some (!b) && (L.getD i SG.any).u))
def relG (md : Region.Mode) (ops : Array Oper) (L : List SG) (n st : Nat) : Bool :=
 ((List.range ops.size).all fun i => ((ops[i]?).map fun o => gdB md ops L st i && (o.after.all fun e => !Region.binds md e || decide (e.on < i)) &&
   (if i = st then o.dst.isNone && o.guard.isNone else ((o.dst.map fun d => decide (d < n)).getD false) && (List.range ops.size).all fun j => j == i || ((ops[j]?).map fun o' => o'.dst != o.dst).getD true)).getD false) &&
 (decide (ops.size <= st) || (List.range ops.size).all fun j => j == st || waitsU md ops j ops.size st)
theorem relG_op {L : List SG} {n st : Nat} (h : relG md ops L n st = true) {i : Nat} {o : Oper} (hi : ops[i]? = some o) :
   gdB md ops L st i = true /\ (∀ e ∈ o.after, Region.binds md e = true -> e.on < i) /\ (i = st -> o.dst = none /\ o.guard = none) /\
   (i ≠ st -> ∃ d, o.dst = some d /\ d < n /\ ∀ j o', ops[j]? = some o' -> j ≠ i -> o'.dst ≠ some d) := by
 unfold relG at h
 rw [Bool.and_eq_true] at h
 have hlt : i < ops.size := (Array.getElem?_eq_some_iff.1 hi).1
 have h1 := List.all_eq_true.1 h.1 i (List.mem_range.2 hlt)
 rw [hi] at h1
 simp only [Option.map_some, Option.getD_some, Bool.and_eq_true] at h1
 obtain ⟨⟨h2, h3⟩, h4⟩ := h1
 refine ⟨h2, fun e he hb => ?_, fun hs => ?_, fun hs => ?_⟩
 ·have := Array.all_eq_true_iff_forall_mem.1 h3 e he
  simpa [hb] using this
 ·rw [if_pos hs, Bool.and_eq_true] at h4
  exact ⟨Option.isNone_iff_eq_none.1 h4.1, Option.isNone_iff_eq_none.1 h4.2⟩
 ·rw [if_neg hs, Bool.and_eq_true] at h4
  cases hd : o.dst with
  | none => rw [hd] at h4; simp at h4
  | some d =>
    rw [hd] at h4
    refine ⟨d, rfl, by simpa using h4.1, fun j o' hj hji => ?_⟩
    have h5 := List.all_eq_true.1 h4.2 j (List.mem_range.2 (Array.getElem?_eq_some_iff.1 hj).1)
    rw [hj] at h5
    simp only [Option.map_some, Option.getD_some, Bool.or_eq_true, beq_iff_eq, bne_iff_ne] at h5
    exact h5.resolve_left hji
theorem relG_store {L : List SG} {n st : Nat} (h : relG md ops L n st = true) {j : Nat} (hj : j < ops.size) (hs : st < ops.size) (hne : j ≠ st) : waitsU md ops j ops.size st = true := by
 unfold relG at h
 rw [Bool.and_eq_true, Bool.or_eq_true] at h
 rcases h.2 with h2 | h2
 ·have := of_decide_eq_true h2; omega
 ·have := List.all_eq_true.1 h2 j (List.mem_range.2 hj)
  simpa [hne] using this
theorem relG_want {L : List SG} {n st : Nat} (h : relG md ops L n st = true) {i : Nat} {o : Oper} (hi : ops[i]? = some o) {a a0 : Act} {w : World} (hn : a.tmps.size = n) {listed : Array Bool}
   (hall : ∀ e ∈ o.after, Region.binds md e = true -> listed.getD e.on false = true) (hI : RelInv ops (nthG L) a0 listed a w) :
   Region.wanted o (yielded ops a.tmps) = wantG ops L i /\ (wantG ops L i = false -> ∀ w, nthG L i undef w) := by
 obtain ⟨h1, _, _, _⟩ := relG_op h hi
 unfold gdB at h1
 unfold wantG
 rw [hi] at h1 ⊢
 dsimp only [Option.bind_some] at h1 ⊢
 unfold Region.wanted
 cases hg : o.guard with
 | none => simp [hg]
 | some jb =>
   obtain ⟨j, b⟩ := jb
   rw [hg] at h1
   simp only [Bool.and_eq_true, bne_iff_ne, Array.any_eq_true', beq_iff_eq, Bool.or_eq_true] at h1
   obtain ⟨⟨⟨hjs, e, he, hb, hon⟩, hd⟩, hk⟩ := h1
   cases hoj : ops[j]? with
   | none => rw [hoj] at hd; cases hd
   | some o' =>
     rw [hoj] at hd
     simp only [Option.map_some, Option.getD_some] at hd
     obtain ⟨d, hd⟩ := Option.isSome_iff_exists.1 hd
     obtain ⟨d', hd', hdn, _⟩ := (relG_op h hoj).2.2.2 hjs
     rw [hd] at hd'
     obtain rfl := Option.some.inj hd'
     have hR := hI.done j o' d hoj (by have := hall e he hb; rw [hon] at this; exact this) hd
     have hy : ∀ c, (L.getD j SG.any).b = some c -> yielded ops a.tmps j = some c := fun c hc => by
      have hv := (L.getD j SG.any).hb c hc _ _ hR
      unfold yielded
      rw [hoj]
      have hds : d < a.tmps.size := by rw [hn]; exact hdn
      simp only [Option.bind_some, hd]
      rw [Array.getElem?_eq_getElem hds]
      have e2 : a.tmps.getD d undef = a.tmps[d] := by simp [hds]
      rw [e2] at hv
      rw [hv]
     simp only [Option.bind_some, hg]
     rcases hk with hk | ⟨hk, hu⟩
     ·rw [hy b hk, hk]; simp
     ·rw [hy _ hk, hk]
      refine ⟨by cases b <;> rfl, fun _ w => (L.getD i SG.any).hu hu w⟩
theorem exists_readyG {L : List SG} {n st : Nat} (hB : relG md ops L n st = true) {listed : Array Bool} (hs : listed.size = ops.size) : ∀ k, k < ops.size -> listed.getD k true = false -> ∃ i, i ∈ Region.ready md ops listed := by
 intro k
 induction k using Nat.strongRecOn with
 | _ k ih =>
   intro hk hl
   obtain ⟨o, ho⟩ : ∃ o, ops[k]? = some o := ⟨ops[k], Array.getElem?_eq_getElem hk⟩
   obtain ⟨_, h2, _⟩ := relG_op hB ho
   by_cases hall : ∀ e ∈ o.after, Region.binds md e = true -> listed.getD e.on false = true
   ·exact ⟨k, mem_ready.2 ⟨hl, o, ho, hall⟩⟩
   ·obtain ⟨e, hne⟩ := Classical.not_forall.1 hall
    obtain ⟨he, hne⟩ := Classical.not_imp.1 hne
    obtain ⟨hb, hne⟩ := Classical.not_imp.1 hne
    have hlt := h2 e he hb
    refine ih e.on hlt (by omega) ?_
    have hsz : e.on < listed.size := by omega
    simp [hsz] at hne ⊢
    exact hne
theorem wpAny_relG {L : List SG} {n st : Nat} {S : World -> Prop} {a0 : Act} {w0 : World} (hn : a0.tmps.size = n) (hB : relG md ops L n st = true)
   (hS : ∀ w w', S w -> Up w w' -> S w')
   (hop : ∀ i o, ops[i]? = some o -> i ≠ st -> wantG ops L i = true -> ∀ ev w, S w -> RelEv ops md (nthG L) a0 o ev w -> LeavesR P (nthG L i) w ((execOp ev o).run P w))
   (hfin : ∀ a w, a.tmps.size = a0.tmps.size -> a.defers = a0.defers -> (∀ s, (∀ o' ∈ ops, o'.dst ≠ some s) -> a.tmps[s]? = a0.tmps[s]?) -> (∀ i o d, ops[i]? = some o -> i ≠ st -> o.dst = some d -> nthG L i (a.tmps.getD d undef) w) -> S w -> Up w0 w ->
    (ops.size <= st -> Q .normal a w) /\ (∀ o, ops[st]? = some o -> Oper.wp P o a w (Q .normal) Q)) :
   ∀ (fuel : Nat) (listed : Array Bool) (a : Act) (w : World), leftU ops.size listed <= fuel -> closedU md ops listed -> (st < ops.size -> listed.getD st true = false) -> RelInv ops (nthG L) a0 listed a w -> S w -> Up w0 w -> wpAny P md ops Q fuel listed a w := by
 intro fuel
 induction fuel with
 | zero =>
   intro listed a w hf hcl hst hI hSw hu
   have hz := fun {j} => leftU_zero (listed := listed) (n := ops.size) (by omega) (j := j)
   have hst' : ops.size <= st := by
    rcases Nat.lt_or_ge st ops.size with h | h
    ·have := hst h; rw [hz h] at this; cases this
    ·exact h
   refine ⟨?_, ?_⟩
   ·cases hrd : Region.ready md ops listed with
    | nil => rfl
    | cons i l =>
      obtain ⟨h1, o, ho, _⟩ := mem_ready.1 (show i ∈ Region.ready md ops listed by rw [hrd]; exact List.mem_cons_self)
      rw [hz (Array.getElem?_eq_some_iff.1 ho).1] at h1
      cases h1
   ·refine (hfin a w hI.size hI.defers hI.other (fun i o d ho hi hd => hI.done i o d ho ?_ hd) hSw hu).1 hst'
    have h1 := hz (Array.getElem?_eq_some_iff.1 ho).1
    have h2 : i < listed.size := by rw [hI.lsize]; exact (Array.getElem?_eq_some_iff.1 ho).1
    simp [h2] at h1 ⊢
    exact h1
 | succ fuel ih =>
   intro listed a w hf hcl hst hI hSw hu
   have hcase : Region.ready md ops listed = [] -> ∀ j, j < ops.size -> listed.getD j true = true := by
    intro hr j hj
    cases hl : listed.getD j true with
    | true => rfl
    | false =>
      obtain ⟨i, hi⟩ := exists_readyG hB hI.lsize j hj hl
      rw [hr] at hi
      cases hi
   have hfull : ∀ (hz : ∀ j, j < ops.size -> j ≠ st -> listed.getD j true = true) (i : Nat) (o : Oper) (d : Tmp), ops[i]? = some o -> i ≠ st -> o.dst = some d -> nthG L i (a.tmps.getD d undef) w := by
    intro hz i o d ho hi hd
    refine hI.done i o d ho ?_ hd
    have h1 := hz i (Array.getElem?_eq_some_iff.1 ho).1 hi
    have h2 : i < listed.size := by rw [hI.lsize]; exact (Array.getElem?_eq_some_iff.1 ho).1
    simp [h2] at h1 ⊢
    exact h1
   refine ⟨fun hr => ?_, fun i hi => ?_⟩
   ·have hz := hcase hr
    have hst' : ops.size <= st := by
     rcases Nat.lt_or_ge st ops.size with h | h
     ·have := hst h; rw [hz st h] at this; cases this
     ·exact h
    exact (hfin a w hI.size hI.defers hI.other (hfull fun j hj _ => hz j hj) hSw hu).1 hst'
   ·obtain ⟨hun, o, ho, hall⟩ := mem_ready.1 hi
    have hlt : i < ops.size := (Array.getElem?_eq_some_iff.1 ho).1
    obtain ⟨hg, _, hdn, hds⟩ := relG_op hB ho
    obtain ⟨hwt, hno⟩ := relG_want hB ho (by rw [hI.size, hn]) hall hI
    by_cases his : i = st
    ·subst his
     have hw : Region.wanted o (yielded ops a.tmps) = true := by simp [Region.wanted, (hdn rfl).2]
     unfold wpOp
     simp only [ho, hw, if_true]
     refine .inl ?_
     have hz : ∀ j, j < ops.size -> j ≠ i -> listed.getD j true = true := by
      intro j hj hne
      have h1 := waitsU_spec hcl ops.size i o ho hall (relG_store hB hj hlt hne)
      have h2 : j < listed.size := by rw [hI.lsize]; exact hj
      simp [h2] at h1 ⊢
      exact h1
     have h1 := (hfin a w hI.size hI.defers hI.other (hfull hz) hSw hu).2 o ho
     have hnil : Region.ready md ops (listed.setIfInBounds i true) = [] := by
      cases hrd : Region.ready md ops (listed.setIfInBounds i true) with
      | nil => rfl
      | cons k l =>
        obtain ⟨h1, ok, hok, _⟩ := mem_ready.1 (show k ∈ Region.ready md ops (listed.setIfInBounds i true) by rw [hrd]; exact List.mem_cons_self)
        have hk : k < ops.size := (Array.getElem?_eq_some_iff.1 hok).1
        by_cases hki : k = i
        ·subst hki
         have h2 : k < listed.size := by rw [hI.lsize]; exact hk
         simp [h2] at h1
        ·rw [getD_set_ne true (Ne.symm hki), hz k hk hki] at h1
         cases h1
     refine Oper.wp_mono (fun a' w' hq => ?_) h1
     cases fuel with
     | zero => exact ⟨hnil, hq⟩
     | succ f => exact ⟨fun _ => hq, by rw [hnil]; intro j hj; cases hj⟩
    ·obtain ⟨d, hd, hdl, hdd⟩ := hds his
     have hev : RelEv ops md (nthG L) a0 o a.eval w := by
      refine ⟨fun _ => rfl, fun _ => rfl, fun _ => rfl, fun s hs => ?_, fun j o' d' hj he hd' => ?_⟩
      ·show a.tmps.getD s undef = a0.tmps.getD s undef
       rw [Array.getD_eq_getD_getElem?, Array.getD_eq_getD_getElem?, hI.other s hs]
      ·obtain ⟨e, he, hb, rfl⟩ := he
       exact hI.done e.on o' d' hj (hall e he hb) hd'
     have hnext : ∀ v w', nthG L i v w' -> Up w w' -> wpAny P md ops Q fuel (listed.setIfInBounds i true) (a.put o.dst v) w' := by
      intro v w' hv hu'
      refine ih _ _ _ ?_ (closedU_set hcl hi) (fun h => ?_) ?_ (hS _ _ hSw hu') (hu.trans hu')
      ·have := leftU_set (n := ops.size) hlt hun; omega
      ·rw [getD_set_ne true his]; exact hst h
      ·rw [hd]
       refine ⟨hI.defers, by simp [Act.put, hI.size], by simp [hI.lsize], fun s hs => ?_, fun j o' d' hj hl hd' => ?_⟩
       ·have hne : d ≠ s := by
         rintro rfl
         obtain ⟨hx, hy⟩ := Array.getElem?_eq_some_iff.1 ho
         exact hs o (by rw [<- hy]; exact Array.getElem_mem hx) hd
        rw [<- hI.other s hs]
        simp [Act.put, hne]
       ·by_cases hji : j = i
        ·subst hji
         rw [ho] at hj
         obtain rfl := Option.some.inj hj
         rw [hd] at hd'
         obtain rfl := Option.some.inj hd'
         have hds : d < a.tmps.size := by rw [hI.size, hn]; exact hdl
         have e : ((a.put (some d) v).tmps.getD d undef) = v := by simp [Act.put, hds]
         rw [e]
         exact hv
        ·have hne : d ≠ d' := fun e => hdd j o' hj hji (by rw [hd', e])
         rw [getD_set_ne false (Ne.symm hji)] at hl
         have e : ((a.put (some d) v).tmps.getD d' undef) = a.tmps.getD d' undef := by
          rw [Array.getD_eq_getD_getElem?, Array.getD_eq_getD_getElem?]
          simp [Act.put, hne]
         rw [e]
         exact (L.getD j SG.any).up _ _ _ (hI.done j o' d' hj hl hd') hu'
     unfold wpOp
     simp only [ho, hwt]
     cases hwg : wantG ops L i with
     | false =>
       simp only [Bool.false_eq_true, if_false]
       exact hnext _ _ (hno hwg w) (Up.refl _)
     | true =>
     simp only [if_true]
     refine .inl ?_
     have h1 := hop i o ho his hwg a.eval w hSw hev
     unfold Oper.wp
     generalize (execOp a.eval o).run P w = r at *
     cases r with
     | halt x w' => exact h1.elim
     | ok nx w' =>
       cases nx with
       | value u => exact hnext u w' h1.1 h1.2
       | enter f args =>
         obtain ⟨hu', hc⟩ := h1
         refine Calls.mono hc fun e w'' he => ?_
         obtain ⟨hu2, v, rfl, hv⟩ := he
         exact hnext v w'' hv (hu'.trans hu2)
       | _ => exact h1.elim
theorem wp_region_relG {id : Nat} {a0 : Act} {w0 : World} {n : Nat} (st : Nat) (ds : List Tmp) (L : List SG) (S : World -> Prop) (hm : P.follows .mixedOrders = true) (hn : a0.tmps.size = n) (hB : relG .any ops L n st = true)
   (hds : ∀ o ∈ ops, ∀ d, o.dst = some d -> d ∈ ds)
   (hS : ∀ w w', S w -> Up w w' -> S w') (h0 : S w0)
   (hop : ∀ i o, ops[i]? = some o -> i ≠ st -> wantG ops L i = true -> ∀ ev w, S w -> RelEv ops .any (nthG L) a0 o ev w -> LeavesR P (nthG L i) w ((execOp ev o).run P w))
   (hfin : ∀ (g : Tmp -> Value) w, (∀ i o d, ops[i]? = some o -> i ≠ st -> o.dst = some d -> nthG L i (g d) w) -> S w -> Up w0 w ->
    (ops.size <= st -> Q .normal (putL a0 (ds.map fun d => (d, g d))) w) /\ (∀ o, ops[st]? = some o -> Oper.wp P o (putL a0 (ds.map fun d => (d, g d))) w (Q .normal) Q)) :
   (Code.region id ops true).wp P Q a0 w0 := by
 refine wp_region_any hm (wpAny_relG hn hB hS hop (fun a w hs hd ho hr hSw hu => ?_) _ _ _ _ ?_ ?_ ?_ ?_ (hS _ _ h0 (Up.drew w0)) (Up.drew w0))
 ·rw [putL_eq (ds := ds) hs hd (fun s hs' => ho s fun o' hm he => hs' (hds o' hm s he))]
  exact hfin (fun d => a.tmps.getD d undef) w hr hSw hu
 ·unfold leftU; exact Nat.le_trans (List.length_filter_le _ _) (by simp)
 ·intro j oj hj hl
  have : j < ops.size := (Array.getElem?_eq_some_iff.1 hj).1
  simp [this] at hl
 ·intro h; simp [h]
 ·refine ⟨rfl, rfl, by simp, fun _ _ => rfl, fun i o d ho hl _ => ?_⟩
  have : i < ops.size := (Array.getElem?_eq_some_iff.1 ho).1
  simp [this] at hl
structure EvG (ops : Array Oper) (L : List SG) (a0 : Act) (i : Nat) (ev : Operand -> Value) (w : World) : Prop where
 const : ∀ c, ev (.const c) = c
 func : ∀ f, ev (.func f) = .func (.func f) #[] #[]
 global : ∀ g, ev (.global g) = .pointer (some ⟨g, 0, none⟩)
 other : ∀ s, freeB ops s = true -> ev (.tmp s) = a0.eval (.tmp s)
 dep : ∀ j d, depB .any ops i j d = true -> nthG L j (ev (.tmp d)) w
theorem wp_region_sg {id : Nat} {a0 : Act} {w0 : World} {n : Nat} (st : Nat) (ds : List Tmp) (L : List SG) (S : World -> Prop) (hm : P.follows .mixedOrders = true) (hn : a0.tmps.size = n) (hB : relG .any ops L n st = true)
   (hds : dsB ops ds = true) (hS : ∀ w w', S w -> Up w w' -> S w') (h0 : S w0)
   (hop : ∀ ev w, S w -> ∀ i o, i ≠ st -> ops[i]? = some o -> wantG ops L i = true -> EvG ops L a0 i ev w -> LeavesR P (nthG L i) w ((execOp ev o).run P w))
   (hfin : ∀ (g : Tmp -> Value) w, (∀ i d, i ≠ st -> dstB ops i d = true -> nthG L i (g d) w) -> S w -> Up w0 w ->
    (ops.size <= st -> Q .normal (putL a0 (ds.map fun d => (d, g d))) w) /\ (∀ o, ops[st]? = some o -> Oper.wp P o (putL a0 (ds.map fun d => (d, g d))) w (Q .normal) Q)) :
   (Code.region id ops true).wp P Q a0 w0 := by
 refine wp_region_relG (n := n) st ds L S hm hn hB (fun o ho d hd => ?_) hS h0 (fun i o hi hne hwt ev w hSw hev => ?_) (fun g w hr => hfin g w fun i d hne hd => ?_)
 ·have := Array.all_eq_true_iff_forall_mem.1 hds o ho
  simpa [hd] using this
 ·refine hop ev w hSw i o hne hi hwt ⟨hev.const, hev.func, hev.global, fun s hs => hev.other s fun o' ho' => ?_, fun j d hj => ?_⟩
  ·have := Array.all_eq_true_iff_forall_mem.1 hs o' ho'
   simpa using this
  ·unfold depB at hj
   rw [hi] at hj
   cases hoj : ops[j]? with
   | none => rw [hoj] at hj; cases hj
   | some o' =>
     rw [hoj] at hj
     simp only [Bool.and_eq_true, Array.any_eq_true', beq_iff_eq] at hj
     obtain ⟨⟨e, he, hb, hon⟩, hd⟩ := hj
     exact hev.dep j o' d hoj ⟨e, he, hb, hon⟩ hd
 ·unfold dstB at hd
  cases ho : ops[i]? with
  | none => rw [ho] at hd; cases hd
  | some o' =>
    rw [ho] at hd
    exact hr i o' d ho hne (by simpa using hd)
end
end Go.Proofs.YtdpgpchcgmmklaaGreatDoor
