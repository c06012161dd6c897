/-
  What the claim's law is built of: RefH, RefI, Sy11, Sy12, Sy13, Sy14, Sy15, Sy16, SyRow, Law4.
-/
import Derived.Test.YtdcpoamjmoceiaaDoorPd
import Derived.DataShut
import Derived.Test.YtdcpoamjmoceiaaDoorRows
import Derived.Test.YtdcpoamjmoceiaaDoorTie
import Derived.ChangeSame
import Derived.ChangeVars
import Derived.JoinedOf
import Derived.RowKit
import Derived.RowKitTokens
import Derived.LaidLaws
import Derived.LaidHandle
import Derived.Stop.Joined
import Derived.ChangeMaps5
import Derived.SevenTiedAt
/-
  The reference's numbers of 64 bits that come and go; its order of whole numbers.
-/
namespace Go.Proofs.YtdcpoamjmoceiaaDoor
open Go Go.RowKit
set_option maxRecDepth 100000

theorem of_big (v : Int) (h1 : -9223372036854775808 ≤ v) (h2 : v < 9223372036854775808) (w : World) :
    Calls Tryd.prog 28 #[.int .i64 v] w fun e w' => Up w w' ∧ ∃ u, e = .returned u ∧ Big w' u v := by
  obtain ⟨X, hX⟩ : ∃ X, X = v.natAbs := ⟨_, rfl⟩
  by_cases h0 : v < 0
  · have d0 : decide (v < 0) = true := decide_eq_true h0
    have e1 : IntKind.i64.wrap (v + 1) = v + 1 := IntWalk.i64_in _ (by omega)
    have e2 : IntKind.i64.wrap (-(v + 1)) = -(v + 1) := IntWalk.i64_in _ (by omega)
    obtain ⟨Y, hY⟩ : ∃ Y : Nat, (Y : Int) = -(v + 1) := ⟨(-(v + 1)).toNat, by omega⟩
    have e3 : IntKind.u64.wrap (-(v + 1)) = (Y : Nat) := by rw [IntKind.wrap_u64]; omega
    have e4 : IntKind.u64.wrap ((Y : Int) + 1) = (X : Nat) := by rw [IntKind.wrap_u64]; omega
    have HM := hid (fun a n c w => made_any true a n c w)
    have HX := hid hX
    have HX64 := hid (show X < 18446744073709551616 ∧ 0 < X by omega)
    clear hX hY
    go_enter Tryd.func28, Tryd.ntmps28
    go_wp2_with (first | ((with_reducible apply stB_P); exact rfl; exact rfl; (focus (repeat (first | assumption | ((with_reducible apply blk_new); (focus (first | rfl | (simp; done)))) | (with_reducible apply blk_alloc) | (with_reducible apply blk_drew) | (with_reducible apply blk_drewN) | ((with_reducible apply blk_up); assumption) | (with_reducible apply blk_same) | ((with_reducible apply blk_else); (focus (first | (simp; done) | (simp; omega) | omega)))))); exact rfl; exact rfl; exact one2 _ _ _ _) | (go_at_call 54; (with_reducible refine (HM.out _ _ _ _).mono ?_); rintro e wM ⟨rfl, hu⟩))
    have hR : Row ((w.alloc (Obj.cells #[Value.bool false, Value.slice none 0 0] 59)).alloc (Obj.cells #[Value.int IntKind.u64 (X : Nat)] 62)) (w.heap.size + 1) 62 1 (fun _ => X) := row_one (by simp)
    have hA := am_one HX64.out.1 HX64.out.2 (hR.up hu)
    have hB := big_made true (hA.2.symm ▸ hA.1)
    have hv : pm true X = v := by have := HX.out; simp only [pm, if_true]; omega
    rw [hv, hA.2, show (true && decide (0 < 1)) = true from rfl] at hB
    have hK : Blk wM w.heap.size 59 #[.bool false, .slice none 0 0] := (by (repeat (first | assumption | ((with_reducible apply blk_new); (focus (first | rfl | (simp; done)))) | (with_reducible apply blk_alloc) | (with_reducible apply blk_drew) | (with_reducible apply blk_drewN) | ((with_reducible apply blk_up); assumption) | (with_reducible apply blk_same) | ((with_reducible apply blk_else); (focus (first | (simp; done) | (simp; omega) | omega))))))
    exact bodyPost_ret (resB rfl rfl (hK.setRow _) rfl) rfl ⟨(by repeat (first | assumption | (with_reducible apply Up.of) | (with_reducible exact Below.refl _ _) | (with_reducible exact Up.refl _) | ((with_reducible apply bl_setRow); (focus (first | exact Nat.le_refl _ | (simp; done) | (simp; omega) | omega))) | (with_reducible apply below_drewN) | (with_reducible apply Below.drew) | ((with_reducible apply bl_alloc); (focus (first | exact Nat.le_refl _ | (simp; done) | (simp; omega) | omega))) | ((with_reducible apply bl_setCell); (focus (first | exact Nat.le_refl _ | (simp; done) | (simp; omega) | omega))) | ((with_reducible apply up_tr); assumption))), _, rfl, hB.setRow hK⟩
  · have d0 : decide (v < 0) = false := decide_eq_false h0
    have e3 : IntKind.u64.wrap v = (X : Nat) := by rw [IntKind.wrap_u64]; omega
    have HM := hid (fun a n c w => made_any false a n c w)
    have HX := hid hX
    have HX64 := hid (show X < 18446744073709551616 by omega)
    clear hX
    have eS : sumL (fun _ => X) 1 = X := by rw [sumL_succ, sumL_zero, bp_zero]; omega
    have eL : lenL (fun _ => X) 1 = nl X := by
      have e3 := nl_sum (S := fun _ => X) (n := 1) (fun _ _ => HX64.out)
      rw [eS] at e3
      exact e3.symm
    have hR : Row ((w.alloc (Obj.cells #[Value.bool false, Value.slice none 0 0] 59)).alloc (Obj.cells #[Value.int IntKind.u64 (X : Nat)] 62)) (w.heap.size + 1) 62 1 (fun _ => X) := row_one (by simp)
    have hT := trim_row (w.heap.size + 1) 1 1 1 (fun _ => X) _ hR (Nat.le_refl _) (Nat.le_refl _) (by decide)
    have hA := am_row (c := 1) hR (Nat.le_refl _) (Nat.le_refl _) (fun _ _ => HX64.out)
    rw [eL] at hT hA
    rw [eS] at hA
    have HT := hid hT
    have HA := hid hA
    clear hT hA hR eL eS
    go_enter Tryd.func28, Tryd.ntmps28
    go_wp2_with (first | ((with_reducible apply stB_P); exact rfl; exact rfl; (focus (repeat (first | assumption | ((with_reducible apply blk_new); (focus (first | rfl | (simp; done)))) | (with_reducible apply blk_alloc) | (with_reducible apply blk_drew) | (with_reducible apply blk_drewN) | ((with_reducible apply blk_up); assumption) | (with_reducible apply blk_same) | ((with_reducible apply blk_else); (focus (first | (simp; done) | (simp; omega) | omega)))))); exact rfl; exact rfl; exact one2 _ _ _ _) | (go_at_call 54; (with_reducible refine (HM.out _ _ _ _).mono ?_); rintro e wM ⟨rfl, hu⟩) | (go_at_call 55; (with_reducible refine HT.out.mono ?_); rintro e wT ⟨rfl, hv⟩))
    have hB := big_made false ((HA.out.up hv).up hu)
    have hv' : pm false X = v := by have := HX.out; simp only [pm, Bool.false_eq_true, if_false]; omega
    rw [hv', Bool.false_and] at hB
    have hK : Blk wM w.heap.size 59 #[.bool false, .slice none 0 0] := (by (repeat (first | assumption | ((with_reducible apply blk_new); (focus (first | rfl | (simp; done)))) | (with_reducible apply blk_alloc) | (with_reducible apply blk_drew) | (with_reducible apply blk_drewN) | ((with_reducible apply blk_up); assumption) | (with_reducible apply blk_same) | ((with_reducible apply blk_else); (focus (first | (simp; done) | (simp; omega) | omega))))))
    exact bodyPost_ret (resB rfl rfl (hK.setRow _) rfl) rfl ⟨(by repeat (first | assumption | (with_reducible apply Up.of) | (with_reducible exact Below.refl _ _) | (with_reducible exact Up.refl _) | ((with_reducible apply bl_setRow); (focus (first | exact Nat.le_refl _ | (simp; done) | (simp; omega) | omega))) | (with_reducible apply below_drewN) | (with_reducible apply Below.drew) | ((with_reducible apply bl_alloc); (focus (first | exact Nat.le_refl _ | (simp; done) | (simp; omega) | omega))) | ((with_reducible apply bl_setCell); (focus (first | exact Nat.le_refl _ | (simp; done) | (simp; omega) | omega))) | ((with_reducible apply up_tr); assumption))), _, rfl, hB.setRow hK⟩
theorem sgn_cmp {x y : Int} : sgn (x - y) = cmpZ x y := by
  unfold sgn cmpZ
  split <;> split <;> (try split) <;> (try split) <;> first | rfl | omega
theorem cmp_big {x y : Int} {va vb : Value} {w : World} (ha : Big w va x) (hb : Big w vb y) (hx : nl x.natAbs < 50000) (hy : nl y.natAbs < 50000) :
    Calls Tryd.prog 85 #[va, vb] w fun e w' => e = .returned (.int .i64 (cmpZ x y)) ∧ Up w w' := by
  obtain ⟨p, a, n, ca, rfl⟩ := ha.shape
  obtain ⟨q, b, m, cb, rfl⟩ := hb.shape
  have hA := hid ha
  have hB := hid hb
  clear ha hb
  go_enter Tryd.func85, Tryd.ntmps85
  go_wp2_with (first | ((with_reducible apply ldB_P); exact rfl; exact rfl; (focus (repeat (first | assumption | ((with_reducible apply blk_new); (focus (first | rfl | (simp; done)))) | (with_reducible apply blk_alloc) | (with_reducible apply blk_drew) | (with_reducible apply blk_drewN) | ((with_reducible apply blk_up); assumption) | (with_reducible apply blk_same) | ((with_reducible apply blk_else); (focus (first | (simp; done) | (simp; omega) | omega)))))); exact rfl) | (go_at_call 103; (with_reducible refine (sub_big (hA.out.up (by repeat (first | assumption | (with_reducible apply Up.of) | (with_reducible exact Below.refl _ _) | (with_reducible exact Up.refl _) | ((with_reducible apply bl_setRow); (focus (first | exact Nat.le_refl _ | (simp; done) | (simp; omega) | omega))) | (with_reducible apply below_drewN) | (with_reducible apply Below.drew) | ((with_reducible apply bl_alloc); (focus (first | exact Nat.le_refl _ | (simp; done) | (simp; omega) | omega))) | ((with_reducible apply bl_setCell); (focus (first | exact Nat.le_refl _ | (simp; done) | (simp; omega) | omega))) | ((with_reducible apply up_tr); assumption)))) (hB.out.up (by repeat (first | assumption | (with_reducible apply Up.of) | (with_reducible exact Below.refl _ _) | (with_reducible exact Up.refl _) | ((with_reducible apply bl_setRow); (focus (first | exact Nat.le_refl _ | (simp; done) | (simp; omega) | omega))) | (with_reducible apply below_drewN) | (with_reducible apply Below.drew) | ((with_reducible apply bl_alloc); (focus (first | exact Nat.le_refl _ | (simp; done) | (simp; omega) | omega))) | ((with_reducible apply bl_setCell); (focus (first | exact Nat.le_refl _ | (simp; done) | (simp; omega) | omega))) | ((with_reducible apply up_tr); assumption)))) hx hy).mono ?_); rintro e wS ⟨huS, v, rfl, hv⟩; obtain ⟨a1, c1, rfl, -⟩ := hv) | (go_at_call 102; (with_reducible refine (bsign_any _ _ _ _ _).mono ?_); rintro e wT ⟨rfl, huT⟩))
  go_ret
  exact ⟨ret_int (by rw [sgn_big, sgn_cmp]), (by repeat (first | assumption | (with_reducible apply Up.of) | (with_reducible exact Below.refl _ _) | (with_reducible exact Up.refl _) | ((with_reducible apply bl_setRow); (focus (first | exact Nat.le_refl _ | (simp; done) | (simp; omega) | omega))) | (with_reducible apply below_drewN) | (with_reducible apply Below.drew) | ((with_reducible apply bl_alloc); (focus (first | exact Nat.le_refl _ | (simp; done) | (simp; omega) | omega))) | ((with_reducible apply bl_setCell); (focus (first | exact Nat.le_refl _ | (simp; done) | (simp; omega) | omega))) | ((with_reducible apply up_tr); assumption)))⟩
end Go.Proofs.YtdcpoamjmoceiaaDoor
/-
  The reference's Int64.
-/
namespace Go.Proofs.YtdcpoamjmoceiaaDoor
open Go Go.RowKit
set_option maxRecDepth 100000

theorem nl_one {X : Nat} (h : nl X = 1) : X < 18446744073709551616 ∧ 0 < X ∧ limb X 0 = X := by
  have h1 := lt_bp_nl X
  rw [h, bp_succ, bp_zero] at h1
  have h2 := nl_pos_iff.1 (show 0 < nl X by omega)
  refine ⟨by omega, h2, ?_⟩
  rw [limb0, Nat.mod_eq_of_lt (by omega)]
theorem nl_two {X : Nat} (h : 1 < nl X) : 18446744073709551616 ≤ X := by
  have h1 := bp_le_nl (show 0 < nl X by omega)
  have h2 := bp_mono (show 1 ≤ nl X - 1 by omega)
  rw [bp_succ, bp_zero] at h2
  omega
set_option maxHeartbeats 1000000 in
theorem int64_big {z : Int} {v : Value} {w : World} (h : Big w v z) (hz : nl z.natAbs < 50000) :
    Calls Tryd.prog 65 #[v] w fun e w' => e = .returned (i64V z) ∧ Up w w' := by
  obtain ⟨a, c, rfl, hA⟩ := h
  obtain ⟨a', c', he, hc, hcell⟩ := hA.open
  obtain ⟨rfl, -, rfl⟩ : a = a' ∧ True ∧ c = c' := by simpa using he
  clear he hA
  have hpm := pm_int z
  obtain ⟨p, hp⟩ : ∃ p, decide (z < 0) = p := ⟨_, rfl⟩
  obtain ⟨X, hX⟩ : ∃ X, z.natAbs = X := ⟨_, rfl⟩
  rw [hp, hX] at hpm
  rw [hp, hX]
  rw [hX] at hc hcell hz
  rw [hpm]
  clear hpm hp hX
  rcases Nat.lt_trichotomy (nl X) 1 with hn | hn | hn
  · have h0 : nl X = 0 := by omega
    have hX0 : X = 0 := by
      rcases Nat.eq_zero_or_pos X with h | h
      · exact h
      · have := nl_pos h; omega
    have e : i64V (pm p X) = .tuple #[.int .i64 0, .bool true] := by
      subst hX0
      rw [i64V_yes (by cases p <;> simp [pm])]
      cases p <;> simp [pm]
    rw [e, h0]
    clear hcell e
    go_enter Tryd.func65, Tryd.ntmps65
    go_wp2
    go_ret2
    exact ⟨rfl, (by repeat (first | assumption | (with_reducible apply Up.of) | (with_reducible exact Below.refl _ _) | (with_reducible exact Up.refl _) | ((with_reducible apply bl_setRow); (focus (first | exact Nat.le_refl _ | (simp; done) | (simp; omega) | omega))) | (with_reducible apply below_drewN) | (with_reducible apply Below.drew) | ((with_reducible apply bl_alloc); (focus (first | exact Nat.le_refl _ | (simp; done) | (simp; omega) | omega))) | ((with_reducible apply bl_setCell); (focus (first | exact Nat.le_refl _ | (simp; done) | (simp; omega) | omega))) | ((with_reducible apply up_tr); assumption)))⟩
  · obtain ⟨h64, hpos, hl⟩ := nl_one hn
    obtain ⟨b, rfl, hb, hcb⟩ := hcell 0 (by omega)
    rw [hl] at hcb
    rw [hn] at hc ⊢
    clear hcell
    have hcW : ((w.alloc (Obj.cells #[Value.bool p, Value.slice (some { block := b, off := 0 }) 1 c] 59))).cell? ⟨b, 0, none⟩ = some (.int .u64 (X : Nat)) := hcb _ (by repeat (first | assumption | (with_reducible apply Up.of) | (with_reducible exact Below.refl _ _) | (with_reducible exact Up.refl _) | ((with_reducible apply bl_setRow); (focus (first | exact Nat.le_refl _ | (simp; done) | (simp; omega) | omega))) | (with_reducible apply below_drewN) | (with_reducible apply Below.drew) | ((with_reducible apply bl_alloc); (focus (first | exact Nat.le_refl _ | (simp; done) | (simp; omega) | omega))) | ((with_reducible apply bl_setCell); (focus (first | exact Nat.le_refl _ | (simp; done) | (simp; omega) | omega))) | ((with_reducible apply up_tr); assumption)))
    clear hcb hl hn
    by_cases h1 : 9223372036854775808 < X
    · have e : i64V (pm p X) = .tuple #[.int .i64 0, .bool false] := i64V_no (by cases p <;> simp only [pm, Bool.false_eq_true, if_false, if_true] <;> omega)
      rw [e]
      have d1 : decide ((9223372036854775808 : Int) < X) = true := decide_eq_true (by omega)
      clear e
      go_enter Tryd.func65, Tryd.ntmps65
      go_wp2
      go_ret2
      exact ⟨rfl, (by repeat (first | assumption | (with_reducible apply Up.of) | (with_reducible exact Below.refl _ _) | (with_reducible exact Up.refl _) | ((with_reducible apply bl_setRow); (focus (first | exact Nat.le_refl _ | (simp; done) | (simp; omega) | omega))) | (with_reducible apply below_drewN) | (with_reducible apply Below.drew) | ((with_reducible apply bl_alloc); (focus (first | exact Nat.le_refl _ | (simp; done) | (simp; omega) | omega))) | ((with_reducible apply bl_setCell); (focus (first | exact Nat.le_refl _ | (simp; done) | (simp; omega) | omega))) | ((with_reducible apply up_tr); assumption)))⟩
    · have d1 : decide ((9223372036854775808 : Int) < X) = false := decide_eq_false (by omega)
      cases p with
      | true =>
        have e : i64V (pm true X) = .tuple #[.int .i64 (-(X : Int)), .bool true] := i64V_yes (by simp only [pm, if_true]; omega)
        rw [e]
        obtain ⟨Y, hY⟩ : ∃ Y : Nat, Y = X - 1 := ⟨_, rfl⟩
        obtain ⟨Z, hZ⟩ : ∃ Z : Int, Z = -(X : Int) := ⟨_, rfl⟩
        have e1 : IntKind.u64.wrap ((X : Int) - 1) = (Y : Nat) := by rw [IntKind.wrap_u64]; omega
        have e2 : IntKind.i64.wrap (Y : Int) = (Y : Nat) := IntWalk.i64_in _ (by omega)
        have e3 : IntKind.i64.wrap (-(Y : Int)) = -(Y : Int) := IntWalk.i64_in _ (by omega)
        have e4 : IntKind.i64.wrap (-(Y : Int) - 1) = Z := by rw [IntKind.wrap_i64]; omega
        rw [← hZ]
        have hY1 : Y < 9223372036854775808 := by omega
        clear e hY hZ
        go_enter Tryd.func65, Tryd.ntmps65
        go_wp2
        go_ret2
        exact ⟨rfl, (by repeat (first | assumption | (with_reducible apply Up.of) | (with_reducible exact Below.refl _ _) | (with_reducible exact Up.refl _) | ((with_reducible apply bl_setRow); (focus (first | exact Nat.le_refl _ | (simp; done) | (simp; omega) | omega))) | (with_reducible apply below_drewN) | (with_reducible apply Below.drew) | ((with_reducible apply bl_alloc); (focus (first | exact Nat.le_refl _ | (simp; done) | (simp; omega) | omega))) | ((with_reducible apply bl_setCell); (focus (first | exact Nat.le_refl _ | (simp; done) | (simp; omega) | omega))) | ((with_reducible apply up_tr); assumption)))⟩
      | false =>
        by_cases h2 : X = 9223372036854775808
        · subst h2
          have e : i64V (pm false 9223372036854775808) = .tuple #[.int .i64 0, .bool false] := i64V_no (by simp [pm])
          rw [e]
          clear e
          go_enter Tryd.func65, Tryd.ntmps65
          go_wp2
          go_ret2
          exact ⟨rfl, (by repeat (first | assumption | (with_reducible apply Up.of) | (with_reducible exact Below.refl _ _) | (with_reducible exact Up.refl _) | ((with_reducible apply bl_setRow); (focus (first | exact Nat.le_refl _ | (simp; done) | (simp; omega) | omega))) | (with_reducible apply below_drewN) | (with_reducible apply Below.drew) | ((with_reducible apply bl_alloc); (focus (first | exact Nat.le_refl _ | (simp; done) | (simp; omega) | omega))) | ((with_reducible apply bl_setCell); (focus (first | exact Nat.le_refl _ | (simp; done) | (simp; omega) | omega))) | ((with_reducible apply up_tr); assumption)))⟩
        · have e : i64V (pm false X) = .tuple #[.int .i64 (X : Nat), .bool true] := i64V_yes (by simp only [pm, Bool.false_eq_true, if_false]; omega)
          rw [e]
          have d2 : ((X : Int) == 9223372036854775808) = false := by simp; omega
          have e2 : IntKind.i64.wrap (X : Int) = (X : Nat) := IntWalk.i64_in _ (by omega)
          clear e
          go_enter Tryd.func65, Tryd.ntmps65
          go_wp2
          go_ret2
          exact ⟨rfl, (by repeat (first | assumption | (with_reducible apply Up.of) | (with_reducible exact Below.refl _ _) | (with_reducible exact Up.refl _) | ((with_reducible apply bl_setRow); (focus (first | exact Nat.le_refl _ | (simp; done) | (simp; omega) | omega))) | (with_reducible apply below_drewN) | (with_reducible apply Below.drew) | ((with_reducible apply bl_alloc); (focus (first | exact Nat.le_refl _ | (simp; done) | (simp; omega) | omega))) | ((with_reducible apply bl_setCell); (focus (first | exact Nat.le_refl _ | (simp; done) | (simp; omega) | omega))) | ((with_reducible apply up_tr); assumption)))⟩
  · have h2 := nl_two hn
    have e : i64V (pm p X) = .tuple #[.int .i64 0, .bool false] := i64V_no (by cases p <;> simp only [pm, Bool.false_eq_true, if_false, if_true] <;> omega)
    rw [e]
    clear hcell e
    generalize nl X = n at *
    have d1 : decide ((1 : Int) < (n : Nat)) = true := decide_eq_true (by omega)
    have d0 : ((n : Int) == 0) = false := by simp; omega
    go_enter Tryd.func65, Tryd.ntmps65
    go_wp2
    go_ret2
    exact ⟨rfl, (by repeat (first | assumption | (with_reducible apply Up.of) | (with_reducible exact Below.refl _ _) | (with_reducible exact Up.refl _) | ((with_reducible apply bl_setRow); (focus (first | exact Nat.le_refl _ | (simp; done) | (simp; omega) | omega))) | (with_reducible apply below_drewN) | (with_reducible apply Below.drew) | ((with_reducible apply bl_alloc); (focus (first | exact Nat.le_refl _ | (simp; done) | (simp; omega) | omega))) | ((with_reducible apply bl_setCell); (focus (first | exact Nat.le_refl _ | (simp; done) | (simp; omega) | omega))) | ((with_reducible apply up_tr); assumption)))⟩
end Go.Proofs.YtdcpoamjmoceiaaDoor
/-
  Symmetric matrices by the reference: a number on the diagonal more.
-/
namespace Go.Proofs.YtdcpoamjmoceiaaDoor
open Go Go.RowKit
set_option maxRecDepth 100000
set_option maxRecDepth 100000

theorem big_set {w : World} {v : Value} {z : Int} {g : Nat} {C D : Array Value} (hg : Blk w g 59 C) (h : Big w v z) : Big (w.setRow g D) v z := h.setRow hg
theorem big_alloc {w : World} {v : Value} {z : Int} {o : Obj} (h : Big w v z) : Big (w.alloc o) v z := h.up (Up.alloc _ _)
theorem big_up {w w' : World} {v : Value} {z : Int} (hu : Up w w') (h : Big w v z) : Big w' v z := h.up hu
theorem big_amount {w : World} {b : Bool} {a : Option Addr} {n c : Nat} {z : Int} (h : Big w (.agg #[.bool b, .slice a n c]) z) : Big w (.agg #[.bool false, .slice a n c]) ((z.natAbs : Nat) : Int) := by
  obtain ⟨a', c', h1, h2⟩ := h
  obtain ⟨-, rfl, rfl, rfl⟩ : b = decide (z < 0) ∧ a = a' ∧ n = nl z.natAbs ∧ c = c' := by simpa using h1
  exact ⟨_, _, by rw [decide_eq_false (by omega)]; rfl, h2⟩
theorem amount_any (b : Bool) (a : Option Addr) (n c : Nat) (w : World) :
    Calls Tryd.prog 86 #[.agg #[.bool b, .slice a n c]] w fun e w' => e = .returned (.agg #[.bool false, .slice a n c]) ∧ Up w w' := by
  have hm := fun w => made_any false a n c w
  rw [Bool.false_and] at hm
  have HM := hid hm
  clear hm
  go_enter Tryd.func86, Tryd.ntmps86
  go_wp2_with (first | ((with_reducible apply stB_P); exact rfl; exact rfl; (focus (repeat (first | assumption | ((with_reducible apply blk_new); (focus (first | rfl | (simp; done)))) | (with_reducible apply blk_alloc) | (with_reducible apply blk_drew) | (with_reducible apply blk_drewN) | ((with_reducible apply blk_up); assumption) | (with_reducible apply blk_same) | ((with_reducible apply blk_else); (focus (first | (simp; done) | (simp; omega) | omega)))))); exact rfl; exact rfl; exact one2 _ _ _ _) | (go_at_call 54; refine (HM.out _).mono ?_; rintro e w' ⟨rfl, hu⟩))
  exact bodyPost_ret (resB rfl rfl (by (repeat (first | assumption | ((with_reducible apply blk_new); (focus (first | rfl | (simp; done)))) | (with_reducible apply blk_alloc) | (with_reducible apply blk_drew) | (with_reducible apply blk_drewN) | ((with_reducible apply blk_up); assumption) | (with_reducible apply blk_same) | ((with_reducible apply blk_else); (focus (first | (simp; done) | (simp; omega) | omega)))))) rfl) rfl ⟨rfl, (by repeat (first | assumption | (with_reducible apply Up.of) | (with_reducible exact Below.refl _ _) | (with_reducible exact Up.refl _) | ((with_reducible apply bl_setRow); (focus (first | exact Nat.le_refl _ | (simp; done) | (simp; omega) | omega))) | (with_reducible apply below_drewN) | (with_reducible apply Below.drew) | ((with_reducible apply bl_alloc); (focus (first | exact Nat.le_refl _ | (simp; done) | (simp; omega) | omega))) | ((with_reducible apply bl_setCell); (focus (first | exact Nat.le_refl _ | (simp; done) | (simp; omega) | omega))) | ((with_reducible apply up_tr); assumption)))⟩

theorem fits_gen {z M : Int} {va : Value} {w : World} (ha : Big w va z) (hz : nl z.natAbs < 50000) (h1 : -9223372036854775808 ≤ M) (h2 : M < 9223372036854775808) (hm : nl M.natAbs < 50000) :
    Calls Tryd.prog 64 #[va, .int .i64 M] w fun e w' => e = .returned (.bool (decide (cmpZ ((z.natAbs : Nat) : Int) M ≤ 0))) ∧ Up w w' := by
  obtain ⟨p, a, n, c, rfl⟩ := ha.shape
  have hA := hid (big_amount ha)
  have HO := hid (fun w => of_big M h1 h2 w)
  have HN : Hid (nl ((z.natAbs : Nat) : Int).natAbs < 50000) := hid hz
  have HM := hid hm
  obtain ⟨o, ho⟩ : ∃ o, decide (cmpZ ((z.natAbs : Nat) : Int) M ≤ 0) = o := ⟨_, rfl⟩
  rw [ho]
  clear ha h1 h2 hz hm
  go_enter Tryd.func64, Tryd.ntmps64
  go_wp2_with (first | ((with_reducible apply ldB_P); exact rfl; exact rfl; (focus (repeat (first | assumption | ((with_reducible apply blk_new); (focus (first | rfl | (simp; done)))) | (with_reducible apply blk_alloc) | (with_reducible apply blk_drew) | (with_reducible apply blk_drewN) | ((with_reducible apply blk_up); assumption) | (with_reducible apply blk_same) | ((with_reducible apply blk_else); (focus (first | (simp; done) | (simp; omega) | omega)))))); exact rfl) | (go_at_call 86; (with_reducible refine (amount_any _ _ _ _ _).mono ?_); rintro e wA ⟨rfl, huA⟩) | (go_at_call 28; (with_reducible refine (HO.out _).mono ?_); rintro e wO ⟨huO, u, rfl, hBO⟩; obtain ⟨qo, ao, no, co, rfl⟩ := hBO.shape) | (go_at_call 85; (with_reducible refine (cmp_big (hA.out.up (by repeat (first | assumption | (with_reducible apply Up.of) | (with_reducible exact Below.refl _ _) | (with_reducible exact Up.refl _) | ((with_reducible apply bl_setRow); (focus (first | exact Nat.le_refl _ | (simp; done) | (simp; omega) | omega))) | (with_reducible apply below_drewN) | (with_reducible apply Below.drew) | ((with_reducible apply bl_alloc); (focus (first | exact Nat.le_refl _ | (simp; done) | (simp; omega) | omega))) | ((with_reducible apply bl_setCell); (focus (first | exact Nat.le_refl _ | (simp; done) | (simp; omega) | omega))) | ((with_reducible apply up_tr); assumption)))) hBO HN.out HM.out).mono ?_); rintro e wC ⟨rfl, huC⟩))
  go_ret
  exact ⟨rfl, (by repeat (first | assumption | (with_reducible apply Up.of) | (with_reducible exact Below.refl _ _) | (with_reducible exact Up.refl _) | ((with_reducible apply bl_setRow); (focus (first | exact Nat.le_refl _ | (simp; done) | (simp; omega) | omega))) | (with_reducible apply below_drewN) | (with_reducible apply Below.drew) | ((with_reducible apply bl_alloc); (focus (first | exact Nat.le_refl _ | (simp; done) | (simp; omega) | omega))) | ((with_reducible apply bl_setCell); (focus (first | exact Nat.le_refl _ | (simp; done) | (simp; omega) | omega))) | ((with_reducible apply up_tr); assumption)))⟩
theorem nl_bp {z : Int} {k : Nat} (hk : k < 50000) (h : z.natAbs < bp k) : nl z.natAbs < 50000 := by have := nl_le h; omega
theorem i64_bp {z : Int} (h : I64 z) : z.natAbs < bp 1 := by unfold I64 at h; rw [bp_succ, bp_zero]; omega
theorem rfits_any {z : Int} {va : Value} {w : World} (ha : Big w va z) (hz : nl z.natAbs < 50000) :
    Calls Tryd.prog 64 #[va, .int .i64 1073741824] w fun e w' => e = .returned (.bool (fit z)) ∧ Up w w' := by
  have h := fits_gen (M := 1073741824) ha hz (by omega) (by omega) (nl_bp (k := 1) (by omega) (by rw [bp_succ, bp_zero]; decide))
  have he : decide (cmpZ ((z.natAbs : Nat) : Int) 1073741824 ≤ 0) = fit z := by
    unfold fit
    rw [decide_eq_decide]
    unfold cmpZ
    split
    · omega
    · split <;> omega
  rw [he] at h
  exact h
theorem rat_ent2 {v : Value} {n : Nat} {l : List Int} {i j : Nat} {w : World} (h : Sm w v n l) (n8 : n ≤ 8) (hln : l.length = triN n) (hij : i ≤ j) (hj : j < n) :
    Calls Tryd.prog 16 #[v, .int .i64 (i : Nat), .int .i64 (j : Nat)] w fun r w' => r = .returned (.int .i64 (zth l (pos n i j))) ∧ Up w w' := by
  have hkl : pos n i j < l.length := by rw [hln]; exact pos_lt hij hj
  have HX := hid (fun w => (pos_idx hij hj) ▸ rat_any (n : Int) (i : Int) (j : Int) (by omega) (by omega) (by omega) (by omega) (by omega) w)
  obtain ⟨k, hk⟩ : ∃ k, pos n i j = k := ⟨_, rfl⟩
  rw [hk] at HX hkl ⊢
  obtain ⟨s, rfl, hV, hN, hl, hlen⟩ := h
  obtain ⟨p, cap, rfl, hcap, hc⟩ := hV
  obtain ⟨ad, rfl, hcell⟩ := hc k hkl
  have hcell' := (Up.alloc w (.cells #[.int .i64 (n : Int), .slice (some ad) l.length cap] 24)).cellEq hcell
  clear hc hl hk hcell hln
  go_enter Tryd.func16, Tryd.ntmps16
  go_wp2_with fail
  go_quiet ((go_at_call 42; exact Calls.quiet_of_same (HX.out _)))
  go_wp2_with fail
  go_ret
  exact ⟨rfl, up_alloc_drewN _ _ _⟩
def diC (N : Int) (l : List Int) (x : Int) : Int := if rt N l then (if (diL N.toNat l x).all fit then 0 else 21) else 23
def diR (N : Int) (l : List Int) (x : Int) : List Int := if diC N l x = 0 then diL N.toNat l x else []
def diN (N : Int) (l : List Int) (x : Int) : Int := if diC N l x = 0 then N else 0
theorem diL_len (n : Nat) (l : List Int) (x : Int) : (diL n l x).length = l.length := mk_len _ _
theorem diL_at {n : Nat} {l : List Int} (x : Int) (hn : n ≤ 8) (hl : l.length = triN n) {i j : Nat} (hij : i ≤ j) (hj : j < n) : zth (diL n l x) (pos n i j) = if i = j then zth l (pos n i j) + x else zth l (pos n i j) := by
  unfold diL
  rw [mk_at (by rw [hl]; exact pos_lt hij hj), prs_at hn hij hj]
theorem diL_row {n : Nat} {l : List Int} (x : Int) (hn : n ≤ 8) (hl : l.length = triN n) {i q : Nat} (hi : i < n) (h1 : pos n i i + 1 ≤ q) (h2 : q < pos n (i + 1) (i + 1)) : zth (diL n l x) q = zth l q := by
  have hr := pos_row hi
  obtain ⟨j, rfl, hj1, hj2⟩ : ∃ j, q = pos n i j ∧ i < j ∧ j < n := by
    refine ⟨i + (q - pos n i i), ?_, by omega, ?_⟩ <;> (unfold pos at *; omega)
  rw [diL_at x hn hl (by omega) hj2, if_neg (by omega)]
end Go.Proofs.YtdcpoamjmoceiaaDoor
/-
  Symmetric matrices by the reference: Diag.
-/
namespace Go.Proofs.YtdcpoamjmoceiaaDoor
open Go Go.RowKit
set_option maxRecDepth 100000
set_option maxRecDepth 100000

/-- How far the reference's loops are: its own copy in the box. -/
def RInv (w : World) (base bx rs : Nat) (n : Int) (sA : Value) (new old : List Int) (p : Nat) (wr : World) : Prop :=
  OwnI wr base sA (mixed new old p) ∧ (∀ q, q < p → fit (zth new q) = true) ∧ Blk wr bx 24 #[.int .i64 n, sA] ∧ Blk wr rs 24 #[.int .i64 0, .slice none 0 0] ∧ Up w wr
theorem In64.mixed {new old : List Int} (hl : new.length = old.length) (h : In64 old) {p : Nat} (hf : ∀ q, q < p → fit (zth new q) = true) : In64 (mixed new old p) := by
  intro i hi
  rw [mixed_len hl] at hi
  rw [mixed_get hl _ hi]
  split
  · rename_i h1; exact fit_i64 (hf i h1)
  · exact h i hi
theorem OwnI.sm {w : World} {base : Nat} {s : Value} {l : List Int} {N : Int} (h : OwnI w base s l) (hN : I64 N) (hl : In64 l) (hn : l.length ≤ 1000) : Sm w (.agg #[.int .i64 N, s]) N l := ⟨s, rfl, h.vw, hN, hl, hn⟩
set_option maxHeartbeats 8000000 in
theorem rdiag_any {v : Value} {N : Int} {l : List Int} (x : Int) {w : World} (hm : Sm w v N l) (hx : I64 x) :
    Calls Tryd.prog 34 #[v, .int .i64 x] w (RSymPost w (diN N l x) (diR N l x) (diC N l x)) := by
  have HR := hid (fun w' (hu : Up w w') => rright_any (hm.up hu))
  have HCP := hid (fun w' (hu : Up w w') => copy_any (hm.up hu))
  obtain ⟨s, rfl, hV, hN, hl, hlen⟩ := hm
  obtain ⟨p, cap, rfl, hcap, hc⟩ := hV
  obtain ⟨W0, hW0⟩ : ∃ W0, (w.alloc (.cells #[.int .i64 N, .slice p l.length cap] 24)).alloc (.cells #[.int .i64 0, .slice none 0 0] 24) = W0 := ⟨_, rfl⟩
  have hB : Blk W0 w.heap.size 24 #[.int .i64 N, .slice p l.length cap] := by rw [← hW0]; exact (Blk.new _ _ rfl).old _
  have hQ : Blk W0 (w.heap.size + 1) 24 #[.int .i64 0, .slice none 0 0] := by rw [← hW0]; exact Blk.new _ _ (by simp)
  have hU : Up w W0 := by rw [← hW0]; exact (Up.alloc _ _).trans (Up.alloc _ _)
  cases hR : rt N l with
  | false =>
    have e : diC N l x = 23 := by unfold diC; rw [hR]; rfl
    have e2 : diR N l x = [] := by unfold diR; rw [e]; rfl
    have e3 : diN N l x = 0 := by unfold diN; rw [e]; rfl
    rw [e, e2, e3]
    rw [hR] at HR
    clear e e2 e3 hR hc hl hN
    go_enter Tryd.func34, Tryd.ntmps34
    go_wp2_with (first
      | ((with_reducible apply ldM_P); exact rfl; exact rfl; exact hB; exact rfl)
      | (go_at_call 11; (with_reducible refine (HR.out _ hU).mono ?_); rintro r w1 ⟨rfl, hu1⟩; replace hQ := hQ.up hu1)
      | ((with_reducible apply stM_P); exact rfl; exact rfl; exact hQ; exact rfl; exact rfl; exact two2 _ _ _ _ _))
    exact bodyPost_ret (resMs (u := .int .i64 23) rfl rfl rfl (hQ.setRow _) rfl) rfl (RSymPost.err 23 (hU.trans hu1) (by omega))
  | true =>
    rw [hR] at HR
    obtain ⟨n0, n8, htri, _⟩ := rt_spec hR
    obtain ⟨n, rfl⟩ : ∃ n : Nat, N = (n : Int) := ⟨N.toNat, by omega⟩
    rw [tri_nat] at htri
    have n8' : n ≤ 8 := by omega
    have hln : l.length = triN n := by omega
    have eN : ((n : Int)).toNat = n := by omega
    obtain ⟨L', hL'⟩ : ∃ L', diL n l x = L' := ⟨_, rfl⟩
    have HlL : Hid (L'.length = l.length) := hid (by rw [← hL', diL_len])
    have Hat : Hid (∀ i, i < n → zth L' (pos n i i) = zth l (pos n i i) + x) := hid (fun i hi => by rw [← hL', diL_at x n8' hln (Nat.le_refl _) hi, if_pos rfl])
    have Hrow : Hid (∀ i q, i < n → pos n i i + 1 ≤ q → q < pos n (i + 1) (i + 1) → zth L' q = zth l q) := hid (fun i q hi h1 h2 => by rw [← hL']; exact diL_row x n8' hln hi h1 h2)
    have Hfl := hid (rt_spec hR).2.2.2
    obtain ⟨hc9, hd9⟩ : (∀ k, k < L'.length → fit (zth L' k) = false → RSymPost w (diN n l x) (diR n l x) (diC n l x) = RSymPost w 0 [] 21) ∧
        ((∀ k, k < L'.length → fit (zth L' k) = true) → RSymPost w (diN n l x) (diR n l x) (diC n l x) = RSymPost w n L' 0) := by
      refine ⟨fun k hk hf => ?_, fun hf => ?_⟩
      · have e : diC n l x = 21 := by unfold diC; rw [hR, eN, hL', all_no hk hf]; rfl
        unfold diN diR; rw [e]; rfl
      · have e : diC n l x = 0 := by unfold diC; rw [hR, eN, hL', all_yes hf]; rfl
        unfold diN diR; rw [e, if_pos rfl, if_pos rfl, eN, hL']
    have Hbad := hid hc9
    have Hgood := hid hd9
    obtain ⟨PP, hPP⟩ : ∃ PP, RSymPost w (diN n l x) (diR n l x) (diC n l x) = PP := ⟨_, rfl⟩
    rw [hPP] at Hbad Hgood ⊢
    have HN64 := hid hN
    have HLn := hid hln
    have Hl64 := hid hl
    have hx64 := hid hx
    have HOx := hid (fun w => of_big x hx.1 hx.2 w)
    clear hPP hc9 hd9 hL' hc hl hx hR htri hln hN eN hcap n0 n8
    go_enter Tryd.func34, Tryd.ntmps34
    go_wp2_with (first
      | ((with_reducible apply ldM_P); exact rfl; exact rfl; exact hB; exact rfl)
      | (go_at_call 11; (with_reducible refine (HR.out _ hU).mono ?_); rintro r w1 ⟨rfl, hu1⟩; replace hQ := hQ.up hu1; replace hB := hB.up hu1; replace hU := hU.trans hu1)
      | (go_at_call 20; (with_reducible refine (HCP.out _ hU).mono ?_); rintro r w2 ⟨sA, rfl, hu2, hO⟩; have hlt := hB.lt; have hlt2 := hQ.lt; replace hQ := hQ.up hu2; replace hB := hB.up hu2; replace hU := hU.trans hu2; obtain ⟨pA, nA, cA, rfl⟩ := OwnI.slice hO; have hO2 := OwnI.setRow (D := #[.int .i64 (n : Int), .slice pA nA cA]) hO hB; have hB2 := hB.setRow #[.int .i64 (n : Int), .slice pA nA cA]; have hQ2 := Blk.row_other hQ #[.int .i64 (n : Int), .slice pA nA cA] (show w.heap.size + 1 ≠ w.heap.size by omega); have hU2 := below_setRow hU (Nat.le_refl _) #[.int .i64 (n : Int), .slice pA nA cA])
      | ((with_reducible apply stM_P); exact rfl; exact rfl; exact hB; exact rfl; exact rfl; exact two2 _ _ _ _ _))
    obtain ⟨base, hbase⟩ : ∃ b, w1.heap.size = b := ⟨_, rfl⟩
    have hbs : w.heap.size + 1 < base := by omega
    rw [hbase] at hO2
    clear hbase hlt hlt2 hu1 hu2 hO hB hQ hU
    go_loopg [6] n (fun g ti wr => ∃ i : Nat, i ≤ n ∧ n - i ≤ g ∧ ti = .int .i64 (i : Nat) ∧ RInv w base w.heap.size (w.heap.size + 1) n (.slice pA nA cA) L' l (pos n i i) wr)
    case atStart => exact ⟨0, Nat.zero_le _, by omega, rfl, by rw [pos_zero, mixed_zero]; exact hO2, fun q hq => by rw [pos_zero] at hq; omega, hB2, hQ2, hU2⟩
    case round =>
      clear hB2 hQ2 hU2 hO2
      obtain ⟨i, hi, hig, rfl, hO, hfits, hB, hQ, hU⟩ := hrel
      have hc0 := hB.cell 0 rfl
      by_cases hlt : i < n
      · have e1 : IntKind.i64.wrap ((i : Int) + 1) = (i : Int) + 1 := IntWalk.i64_in _ (by omega)
        have hkl : pos n i i < l.length := by rw [HLn.out]; exact pos_lt (Nat.le_refl _) hlt
        have hM64 := In64.mixed HlL.out Hl64.out hfits
        have HSm := hid (hO.sm HN64.out hM64 (by rw [mixed_len HlL.out]; exact hlen))
        have HAt := hid (fun w' (hu : Up wr w') => rat_ent2 (HSm.out.up hu) n8' (by rw [mixed_len HlL.out]; exact HLn.out) (Nat.le_refl i) hlt)
        have hat := Hat.out i hlt
        have HX := hid (fun w => (pos_idx (Nat.le_refl i) hlt) ▸ rat_any (n : Int) (i : Int) (i : Int) (by omega) (by omega) (by omega) (by omega) (by omega) w)
        have Hro := hid (fun q => Hrow.out i q hlt)
        have HP := hid (pos_row hlt)
        have HFit := hid hfits
        have HPS : Hid (pos n i i + 1 ≤ pos n (i + 1) (i + 1) ∧ pos n (i + 1) (i + 1) ≤ l.length) := hid (by rw [HLn.out]; have := pos_row hlt; unfold pos at *; omega)
        obtain ⟨k, hk⟩ : ∃ k, pos n i i = k := ⟨_, rfl⟩
        have HK := hid hk
        rw [hk] at hkl HAt hat hO HX Hro HFit HPS
        obtain ⟨g, cp, C, hv, hbg, -⟩ := hO.open (by rw [mixed_len HlL.out]; omega)
        injection hv with x1 x2 x3
        rw [mixed_len HlL.out] at x2
        subst x1 x2 x3
        have hmx : zth (mixed L' l k) k = zth l k := mixed_at HlL.out hkl
        rw [hmx] at HAt
        have hak := Hl64.out k hkl
        have HOk := hid (fun w => of_big (zth l k) hak.1 hak.2 w)
        have n1 := nl_bp (by omega) (i64_bp hak)
        have n2 := nl_bp (by omega) (i64_bp hx64.out)
        have n3 : nl (zth l k + x).natAbs < 50000 := nl_bp (k := 2) (by omega) (by
          have b1 := i64_bp hak
          have b2 := i64_bp hx64.out
          have b3 : bp 2 = bp 1 * 18446744073709551616 := bp_succ 1
          have b4 := bp_pos 1
          omega)
        rw [← hat] at n3
        have HS9 := hid (mixed_set HlL.out hkl)
        have HML := hid (mixed_len HlL.out k)
        have HAD := hid (fun (va vb : Value) (w : World) (ha : Big w va (zth l k)) (hb : Big w vb x) => hat ▸ add_big ha hb n1 n2)
        clear hat n1 n2 hak hk hM64 hfits
        obtain ⟨z9, hz9'⟩ : ∃ z, zth L' k = z := ⟨_, rfl⟩
        have HZ9 := hid hz9'
        rw [hz9'] at HS9 n3 HAD
        clear hz9' hmx
        generalize zth l k = ak at *
        obtain ⟨M, hM9⟩ : ∃ M, mixed L' l k = M := ⟨_, rfl⟩
        rw [hM9] at hO HS9 HML
        clear hM9 HSm
        have hkM : k < M.length := by rw [HML.out]; exact hkl
        have HN3 := hid n3
        clear n3
        cases hf : fit z9 with
        | false =>
          have HF9 := hid (fun (va : Value) (w : World) (hb : Big w va z9) => hf ▸ rfits_any hb HN3.out)
          have Hf := hid hf
          clear hf
          go_wp2_with (first
            | ((with_reducible apply ldM_P); exact rfl; exact rfl; exact hB; exact rfl)
            | ((with_reducible apply stB_P); exact rfl; exact rfl; (focus (repeat (first | assumption | ((with_reducible apply blk_new); (focus (first | rfl | (simp; done)))) | (with_reducible apply blk_alloc) | (with_reducible apply blk_drew) | (with_reducible apply blk_drewN) | ((with_reducible apply blk_up); assumption) | (with_reducible apply blk_same) | ((with_reducible apply blk_else); (focus (first | (simp; done) | (simp; omega) | omega)))))); exact rfl; exact rfl; exact one2 _ _ _ _)
            | ((with_reducible apply ldB_P); exact rfl; exact rfl; (focus (repeat (first | assumption | ((with_reducible apply blk_new); (focus (first | rfl | (simp; done)))) | (with_reducible apply blk_alloc) | (with_reducible apply blk_drew) | (with_reducible apply blk_drewN) | ((with_reducible apply blk_up); assumption) | (with_reducible apply blk_same) | ((with_reducible apply blk_else); (focus (first | (simp; done) | (simp; omega) | omega)))))); exact rfl)
            | (go_at_call 16; (with_reducible refine (HAt.out _ (Up.refl _)).mono ?_); rintro r w3 ⟨rfl, hu3⟩)
            | (go_at_call 28; first
                | ((with_reducible refine (HOk.out _).mono ?_); rintro r w4 ⟨hu4, u4, rfl, hb4⟩)
                | ((with_reducible refine (HOx.out _).mono ?_); rintro r w5 ⟨hu5, u5, rfl, hb5⟩))
            | (go_at_call 63; (with_reducible refine (HAD.out _ _ _ (hb4.up hu5) hb5).mono ?_); rintro r w6 ⟨hu6, u6, rfl, hb6⟩; obtain ⟨bb, ba, bn, bc, rfl⟩ := hb6.shape; have hu36 := ((hu3.trans hu4).trans hu5).trans hu6; have hBg := (Blk.new (w := w6) (b := w6.heap.size) 59 #[.bool false, .slice none 0 0] rfl).setRow #[.bool bb, .slice ba bn bc]; have hbg6 : Big _ _ z9 := big_set (D := #[.bool bb, .slice ba bn bc]) (Blk.new (w := w6) (b := w6.heap.size) 59 #[.bool false, .slice none 0 0] rfl) (big_alloc hb6); have hu6X := hu36.trans (below_setRow (Up.alloc w6 (.cells #[.bool false, .slice none 0 0] 59)) (Nat.le_refl _) #[.bool bb, .slice ba bn bc]))
            | (go_at_call 64; (with_reducible refine (HF9.out _ _ hbg6).mono ?_); rintro r w7 ⟨rfl, hu7⟩; replace hQ := (hQ.up hu6X).up hu7)
            | ((with_reducible apply stM_P); exact rfl; exact rfl; exact hQ; exact rfl; exact rfl; exact two2 _ _ _ _ _))
          rw [Hbad.out k (by rw [HlL.out]; exact hkl) (by rw [HZ9.out]; exact Hf.out)]
          exact bodyPost_ret (resMs (u := .int .i64 21) rfl rfl rfl (hQ.setRow _) rfl) rfl (RSymPost.err 21 ((hU.trans hu6X).trans hu7) (by omega))
        | true =>
          have HF9 := hid (fun (va : Value) (w : World) (hb : Big w va z9) => hf ▸ rfits_any hb HN3.out)
          have Hf := hid hf
          have HIn := hid (fun (va : Value) (w : World) (hb : Big w va z9) => (i64V_yes (fit_i64 hf)) ▸ int64_big hb HN3.out)
          clear hf
          go_wp2_with (first
            | ((with_reducible apply ldM_P); exact rfl; exact rfl; exact hB; exact rfl)
            | ((with_reducible apply stB_P); exact rfl; exact rfl; (focus (repeat (first | assumption | ((with_reducible apply blk_new); (focus (first | rfl | (simp; done)))) | (with_reducible apply blk_alloc) | (with_reducible apply blk_drew) | (with_reducible apply blk_drewN) | ((with_reducible apply blk_up); assumption) | (with_reducible apply blk_same) | ((with_reducible apply blk_else); (focus (first | (simp; done) | (simp; omega) | omega)))))); exact rfl; exact rfl; exact one2 _ _ _ _)
            | ((with_reducible apply ldB_P); exact rfl; exact rfl; (focus (repeat (first | assumption | ((with_reducible apply blk_new); (focus (first | rfl | (simp; done)))) | (with_reducible apply blk_alloc) | (with_reducible apply blk_drew) | (with_reducible apply blk_drewN) | ((with_reducible apply blk_up); assumption) | (with_reducible apply blk_same) | ((with_reducible apply blk_else); (focus (first | (simp; done) | (simp; omega) | omega)))))); exact rfl)
            | (go_at_call 16; (with_reducible refine (HAt.out _ (Up.refl _)).mono ?_); rintro r w3 ⟨rfl, hu3⟩)
            | (go_at_call 28; first
                | ((with_reducible refine (HOk.out _).mono ?_); rintro r w4 ⟨hu4, u4, rfl, hb4⟩)
                | ((with_reducible refine (HOx.out _).mono ?_); rintro r w5 ⟨hu5, u5, rfl, hb5⟩))
            | (go_at_call 63; (with_reducible refine (HAD.out _ _ _ (hb4.up hu5) hb5).mono ?_); rintro r w6 ⟨hu6, u6, rfl, hb6⟩; obtain ⟨bb, ba, bn, bc, rfl⟩ := hb6.shape; have hu36 := ((hu3.trans hu4).trans hu5).trans hu6; have hBg := (Blk.new (w := w6) (b := w6.heap.size) 59 #[.bool false, .slice none 0 0] rfl).setRow #[.bool bb, .slice ba bn bc]; have hbg6 : Big _ _ z9 := big_set (D := #[.bool bb, .slice ba bn bc]) (Blk.new (w := w6) (b := w6.heap.size) 59 #[.bool false, .slice none 0 0] rfl) (big_alloc hb6); have hu6X := hu36.trans (below_setRow (Up.alloc w6 (.cells #[.bool false, .slice none 0 0] 59)) (Nat.le_refl _) #[.bool bb, .slice ba bn bc]))
            | (go_at_call 64; (with_reducible refine (HF9.out _ _ hbg6).mono ?_); rintro r w7 ⟨rfl, hu7⟩; replace hQ := (hQ.up hu6X).up hu7; replace hB := (hB.up hu6X).up hu7; replace hO := (hO.up hu6X).up hu7; replace hbg6 := hbg6.up hu7; replace hBg := hBg.up hu7; replace hU := (hU.trans hu6X).trans hu7))
          have hq0 := hB.cell 0 rfl
          have hq1 := hB.cell 1 rfl
          obtain ⟨b7, hb7⟩ : ∃ b, w6.heap.size = b := ⟨_, rfl⟩
          rw [hb7] at hBg
          rw [hb7]
          clear hb7 hu36 hu6X hu3 hu4 hu5 hu6 hb4 hb5 hb6 hc0
          refine wp_region_upS (S := (fun wq => Blk wq w.heap.size 24 #[.int .i64 (n : Int), .slice (some ⟨g, 0, none⟩) l.length cA] ∧ wq.cell? ⟨w.heap.size, 0, none⟩ = some (.int .i64 (n : Int)) ∧ wq.cell? ⟨w.heap.size, 1, none⟩ = some (.slice (some ⟨g, 0, none⟩) l.length cA) ∧ Blk wq b7 59 #[.bool bb, .slice ba bn bc] ∧ Big wq (.agg #[.bool bb, .slice ba bn bc]) z9 ∧ OwnI wq base (.slice (some ⟨g, 0, none⟩) l.length cA) M ∧ Blk wq (w.heap.size + 1) 24 #[.int .i64 0, .slice none 0 0] ∧ Below w.heap.size w wq)) (req := (fun j => j != 13)) (by kernel_rfl) (fun _ _ h hu => ⟨(h.1).up hu, hu.cell (h.2.1), hu.cell (h.2.2.1), (h.2.2.2.1).up hu, (h.2.2.2.2.1).up hu, (h.2.2.2.2.2.1).up hu, (h.2.2.2.2.2.2.1).up hu, below_up (h.2.2.2.2.2.2.2) hu⟩) ⟨(by (repeat (first | assumption | ((with_reducible apply blk_new); (focus (first | rfl | (simp; done)))) | (with_reducible apply blk_alloc) | (with_reducible apply blk_drew) | (with_reducible apply blk_drewN) | ((with_reducible apply blk_up); assumption) | (with_reducible apply blk_same) | ((with_reducible apply blk_else); (focus (first | (simp; done) | (simp; omega) | omega)))))), (by first | assumption | (apply Blk.cell; (focus (repeat (first | assumption | ((with_reducible apply blk_new); (focus (first | rfl | (simp; done)))) | (with_reducible apply blk_alloc) | (with_reducible apply blk_drew) | (with_reducible apply blk_drewN) | ((with_reducible apply blk_up); assumption) | (with_reducible apply blk_same) | ((with_reducible apply blk_else); (focus (first | (simp; done) | (simp; omega) | omega)))))); exact rfl)), (by first | assumption | (apply Blk.cell; (focus (repeat (first | assumption | ((with_reducible apply blk_new); (focus (first | rfl | (simp; done)))) | (with_reducible apply blk_alloc) | (with_reducible apply blk_drew) | (with_reducible apply blk_drewN) | ((with_reducible apply blk_up); assumption) | (with_reducible apply blk_same) | ((with_reducible apply blk_else); (focus (first | (simp; done) | (simp; omega) | omega)))))); exact rfl)), (by (repeat (first | assumption | ((with_reducible apply blk_new); (focus (first | rfl | (simp; done)))) | (with_reducible apply blk_alloc) | (with_reducible apply blk_drew) | (with_reducible apply blk_drewN) | ((with_reducible apply blk_up); assumption) | (with_reducible apply blk_same) | ((with_reducible apply blk_else); (focus (first | (simp; done) | (simp; omega) | omega)))))), (by (repeat (first | assumption | ((with_reducible apply big_set); (focus (repeat (first | assumption | ((with_reducible apply blk_new); (focus (first | rfl | (simp; done)))) | (with_reducible apply blk_alloc) | (with_reducible apply blk_drew) | (with_reducible apply blk_drewN) | ((with_reducible apply blk_up); assumption) | (with_reducible apply blk_same) | ((with_reducible apply blk_else); (focus (first | (simp; done) | (simp; omega) | omega))))))) | (with_reducible apply big_alloc) | ((with_reducible apply big_up); assumption))); done), (by assumption), (by (repeat (first | assumption | ((with_reducible apply blk_new); (focus (first | rfl | (simp; done)))) | (with_reducible apply blk_alloc) | (with_reducible apply blk_drew) | (with_reducible apply blk_drewN) | ((with_reducible apply blk_up); assumption) | (with_reducible apply blk_same) | ((with_reducible apply blk_else); (focus (first | (simp; done) | (simp; omega) | omega)))))), (by repeat (first | assumption | (with_reducible apply Up.of) | (with_reducible exact Below.refl _ _) | (with_reducible exact Up.refl _) | ((with_reducible apply bl_setRow); (focus (first | exact Nat.le_refl _ | (simp; done) | (simp; omega) | omega))) | (with_reducible apply below_drewN) | (with_reducible apply Below.drew) | ((with_reducible apply bl_alloc); (focus (first | exact Nat.le_refl _ | (simp; done) | (simp; omega) | omega))) | ((with_reducible apply bl_setCell); (focus (first | exact Nat.le_refl _ | (simp; done) | (simp; omega) | omega))) | ((with_reducible apply up_tr); assumption)))⟩ (fun wS hSS => ?_)
          have ⟨hS1, hS2, hS3, hS4, hS5, hS6, hS7, hSB⟩ := hSS
          refine wpAnyU_pure (i := 0) (d := (some 33)) (v := ?_) rfl rfl (by kernel_rfl) (fun _ _ _ h => h) (fun _ _ h hu => ⟨(h.1).up hu, hu.cell (h.2.1), hu.cell (h.2.2.1), (h.2.2.2.1).up hu, (h.2.2.2.2.1).up hu, (h.2.2.2.2.2.1).up hu, (h.2.2.2.2.2.2.1).up hu, below_up (h.2.2.2.2.2.2.2) hu⟩) (Or.inl ⟨by rfl, fun w' _ => yu_value ?_⟩) ?_
          rotate_left
          · (go_simp; (try exact rfl))
          try simp only [Act.put, List.setIfInBounds_toArray, List.set_cons_zero, List.set_cons_succ]
          refine wpAnyU_take (i := 1) (d := (some 34)) (v := ?_) rfl rfl (by kernel_rfl) (fun _ _ _ h => h) (fun _ _ h hu => ⟨(h.1).up hu, hu.cell (h.2.1), hu.cell (h.2.2.1), (h.2.2.2.1).up hu, (h.2.2.2.2.1).up hu, (h.2.2.2.2.2.1).up hu, (h.2.2.2.2.2.2.1).up hu, below_up (h.2.2.2.2.2.2.2) hu⟩) hSS (Or.inl ⟨by rfl, fun w' hSw => yu_value ?_⟩) ?_
          rotate_left
          · ((try dsimp only at hSw); (try obtain ⟨_, _, _, _, _, _, _, _⟩ := hSw); go_simp; (try exact rfl))
          try simp only [Act.put, List.setIfInBounds_toArray, List.set_cons_zero, List.set_cons_succ]
          refine wpAnyU_pure (i := 2) (d := (some 35)) (v := ?_) rfl rfl (by kernel_rfl) (fun _ _ _ h => h) (fun _ _ h hu => ⟨(h.1).up hu, hu.cell (h.2.1), hu.cell (h.2.2.1), (h.2.2.2.1).up hu, (h.2.2.2.2.1).up hu, (h.2.2.2.2.2.1).up hu, (h.2.2.2.2.2.2.1).up hu, below_up (h.2.2.2.2.2.2.2) hu⟩) (Or.inl ⟨by rfl, fun w' _ => yu_value ?_⟩) ?_
          rotate_left
          · (go_simp; (try exact rfl))
          try simp only [Act.put, List.setIfInBounds_toArray, List.set_cons_zero, List.set_cons_succ]
          refine wpAnyU_take (i := 3) (d := (some 36)) (v := ?_) rfl rfl (by kernel_rfl) (fun _ _ _ h => h) (fun _ _ h hu => ⟨(h.1).up hu, hu.cell (h.2.1), hu.cell (h.2.2.1), (h.2.2.2.1).up hu, (h.2.2.2.2.1).up hu, (h.2.2.2.2.2.1).up hu, (h.2.2.2.2.2.2.1).up hu, below_up (h.2.2.2.2.2.2.2) hu⟩) hSS (Or.inl ⟨by rfl, fun w' hSw => yu_value ?_⟩) ?_
          rotate_left
          · ((try dsimp only at hSw); (try obtain ⟨_, _, _, _, _, _, _, _⟩ := hSw); go_simp; (try exact rfl))
          try simp only [Act.put, List.setIfInBounds_toArray, List.set_cons_zero, List.set_cons_succ]
          refine wpAnyU_pure (i := 4) (d := (some 37)) (v := ?_) rfl rfl (by kernel_rfl) (fun _ _ _ h => h) (fun _ _ h hu => ⟨(h.1).up hu, hu.cell (h.2.1), hu.cell (h.2.2.1), (h.2.2.2.1).up hu, (h.2.2.2.2.1).up hu, (h.2.2.2.2.2.1).up hu, (h.2.2.2.2.2.2.1).up hu, below_up (h.2.2.2.2.2.2.2) hu⟩) (Or.inl ⟨by rfl, fun w' _ => yu_value ?_⟩) ?_
          rotate_left
          · (go_simp; (try exact rfl))
          try simp only [Act.put, List.setIfInBounds_toArray, List.set_cons_zero, List.set_cons_succ]
          refine wpAnyU_pure (i := 5) (d := (some 38)) (v := ?_) rfl rfl (by kernel_rfl) (fun _ _ _ h => h) (fun _ _ h hu => ⟨(h.1).up hu, hu.cell (h.2.1), hu.cell (h.2.2.1), (h.2.2.2.1).up hu, (h.2.2.2.2.1).up hu, (h.2.2.2.2.2.1).up hu, (h.2.2.2.2.2.2.1).up hu, below_up (h.2.2.2.2.2.2.2) hu⟩) (Or.inl ⟨by rfl, fun w' _ => yu_value ?_⟩) ?_
          rotate_left
          · (go_simp; (try exact rfl))
          try simp only [Act.put, List.setIfInBounds_toArray, List.set_cons_zero, List.set_cons_succ]
          refine wpAnyU_take (i := 6) (d := (some 39)) (v := _) rfl rfl (by kernel_rfl) (fun _ _ _ h => h) (fun _ _ h hu => ⟨(h.1).up hu, hu.cell (h.2.1), hu.cell (h.2.2.1), (h.2.2.2.1).up hu, (h.2.2.2.2.1).up hu, (h.2.2.2.2.2.1).up hu, (h.2.2.2.2.2.2.1).up hu, below_up (h.2.2.2.2.2.2.2) hu⟩) hSS (Or.inl ⟨by rfl, fun w' hSw => yu_call ?_ ((HX.out _).mono fun _ _ h => ⟨h.1, by rw [h.2]; exact Up.refl _⟩)⟩) ?_
          · go_simp
          try simp only [Act.put, List.setIfInBounds_toArray, List.set_cons_zero, List.set_cons_succ]
          refine wpAnyU_take (i := 7) (d := (some 40)) (v := _) rfl rfl (by kernel_rfl) (fun _ _ _ h => h) (fun _ _ h hu => ⟨(h.1).up hu, hu.cell (h.2.1), hu.cell (h.2.2.1), (h.2.2.2.1).up hu, (h.2.2.2.2.1).up hu, (h.2.2.2.2.2.1).up hu, (h.2.2.2.2.2.2.1).up hu, below_up (h.2.2.2.2.2.2.2) hu⟩) hSS (Or.inl ⟨by rfl, fun w' hSw => yu_value (run_ldB rfl rfl hSw.2.2.2.1 rfl)⟩) ?_
          try simp only [Act.put, List.setIfInBounds_toArray, List.set_cons_zero, List.set_cons_succ]
          refine wpAnyU_take (i := 8) (d := (some 41)) (v := _) rfl rfl (by kernel_rfl) (fun _ _ _ h => h) (fun _ _ h hu => ⟨(h.1).up hu, hu.cell (h.2.1), hu.cell (h.2.2.1), (h.2.2.2.1).up hu, (h.2.2.2.2.1).up hu, (h.2.2.2.2.2.1).up hu, (h.2.2.2.2.2.2.1).up hu, below_up (h.2.2.2.2.2.2.2) hu⟩) hSS (Or.inl ⟨by rfl, fun w' hSw => yu_call ?_ (HIn.out _ _ hSw.2.2.2.2.1)⟩) ?_
          · go_simp
          try simp only [Act.put, List.setIfInBounds_toArray, List.set_cons_zero, List.set_cons_succ]
          refine wpAnyU_pure (i := 9) (d := (some 32)) (v := ?_) rfl rfl (by kernel_rfl) (fun _ _ _ h => h) (fun _ _ h hu => ⟨(h.1).up hu, hu.cell (h.2.1), hu.cell (h.2.2.1), (h.2.2.2.1).up hu, (h.2.2.2.2.1).up hu, (h.2.2.2.2.2.1).up hu, (h.2.2.2.2.2.2.1).up hu, below_up (h.2.2.2.2.2.2.2) hu⟩) (Or.inl ⟨by rfl, fun w' _ => yu_value ?_⟩) ?_
          rotate_left
          · (go_simp; (try exact rfl))
          try simp only [Act.put, List.setIfInBounds_toArray, List.set_cons_zero, List.set_cons_succ]
          refine wpAnyU_pure (i := 10) (d := (some 42)) (v := ?_) rfl rfl (by kernel_rfl) (fun _ _ _ h => h) (fun _ _ h hu => ⟨(h.1).up hu, hu.cell (h.2.1), hu.cell (h.2.2.1), (h.2.2.2.1).up hu, (h.2.2.2.2.1).up hu, (h.2.2.2.2.2.1).up hu, (h.2.2.2.2.2.2.1).up hu, below_up (h.2.2.2.2.2.2.2) hu⟩) (Or.inl ⟨by rfl, fun w' _ => yu_value ?_⟩) ?_
          rotate_left
          · (go_simp; (try exact rfl))
          try simp only [Act.put, List.setIfInBounds_toArray, List.set_cons_zero, List.set_cons_succ]
          refine wpAnyU_pure (i := 11) (d := (some 43)) (v := ?_) rfl rfl (by kernel_rfl) (fun _ _ _ h => h) (fun _ _ h hu => ⟨(h.1).up hu, hu.cell (h.2.1), hu.cell (h.2.2.1), (h.2.2.2.1).up hu, (h.2.2.2.2.1).up hu, (h.2.2.2.2.2.1).up hu, (h.2.2.2.2.2.2.1).up hu, below_up (h.2.2.2.2.2.2.2) hu⟩) (Or.inl ⟨by rfl, fun w' _ => yu_value ?_⟩) ?_
          rotate_left
          · (go_simp; (try exact rfl))
          try simp only [Act.put, List.setIfInBounds_toArray, List.set_cons_zero, List.set_cons_succ]
          refine wpAnyU_pure (i := 12) (d := (some 44)) (v := ?_) rfl rfl (by kernel_rfl) (fun _ _ _ h => h) (fun _ _ h hu => ⟨(h.1).up hu, hu.cell (h.2.1), hu.cell (h.2.2.1), (h.2.2.2.1).up hu, (h.2.2.2.2.1).up hu, (h.2.2.2.2.2.1).up hu, (h.2.2.2.2.2.2.1).up hu, below_up (h.2.2.2.2.2.2.2) hu⟩) (Or.inl ⟨by rfl, fun w' _ => yu_value ?_⟩) ?_
          rotate_left
          · (go_simp; (try exact rfl))
          try simp only [Act.put, List.setIfInBounds_toArray, List.set_cons_zero, List.set_cons_succ]
          refine wpAnyU_one (i := 13) rfl (by kernel_rfl) (by rfl) fun wZ hwZ => ?_
          obtain ⟨hcW, hfW⟩ := (hS6.up hwZ).cells hkM
          go_simp
          clear hcW hfW
          refine wpAnyU_done (by kernel_rfl) (fun wF huE => ?_) _
          have hne1 : w.heap.size ≠ g := by omega
          have hne2 : w.heap.size + 1 ≠ g := by omega
          have hO5 := ((hS6.up hwZ).set hkM z9).up huE
          rw [HS9.out, mixed_same HlL.out HPS.out.1 HPS.out.2 (fun q h1 h2 => Hro.out q h1 h2)] at hO5
          have hB5 := ((hS1.up hwZ).other ⟨g, k, none⟩ (.int .i64 z9) hne1).up huE
          have hQ5 := ((hS7.up hwZ).other ⟨g, k, none⟩ (.int .i64 z9) hne2).up huE
          have hU5 := below_up ((below_up hSB hwZ).setCell (p := ⟨g, k, none⟩) (show w.heap.size ≤ g by omega) (.int .i64 z9)) huE
          have HFF : Hid (∀ q, q < pos n (i + 1) (i + 1) → fit (zth L' q) = true) := hid (fun q hq => by
            rcases Nat.lt_trichotomy q k with h1 | h1 | h1
            · exact HFit.out q h1
            · rw [h1, HZ9.out]; exact Hf.out
            · rw [Hro.out q h1 hq]; exact Hfl.out q (by have := HPS.out.2; omega))
          clear hq0 hq1 hwZ
          go_wp2_with fail
          go_roundg (n - (i + 1))
          case measure => omega
          case rel => exact ⟨i + 1, by omega, Nat.le_refl _, rfl, hO5, HFF.out, hB5, hQ5, hU5⟩
      · obtain rfl : i = n := by omega
        rw [pos_end, ← HLn.out, ← HlL.out] at hO hfits
        rw [mixed_all HlL.out] at hO
        have HI := hid (In64.of_fit hfits)
        have HG := hid (Hgood.out hfits)
        clear hfits hlt
        go_wp2_with (first
          | ((with_reducible apply ldM_P); exact rfl; exact rfl; exact hB; exact rfl)
          | ((with_reducible apply stM_P); exact rfl; exact rfl; exact hQ; exact rfl; exact rfl; exact two2 _ _ _ _ _))
        rw [HG.out]
        exact bodyPost_ret (resMs (u := .int .i64 0) rfl rfl rfl (hQ.setRow _) rfl) rfl (RSymPost.ok hU (by omega) hQ hO HN64.out HI.out (by rw [HlL.out]; exact hlen))
end Go.Proofs.YtdcpoamjmoceiaaDoor
/-
  Symmetric matrices by the reference: Outer.
-/
namespace Go.Proofs.YtdcpoamjmoceiaaDoor
open Go Go.RowKit
set_option maxRecDepth 100000
set_option maxRecDepth 100000

theorem blk_ne {w : World} {b b' : Nat} {t t' : TypeId} {C C' : Array Value} (h : Blk w b t C) (h' : Blk w b' t' C') (hne : t ≠ t') : b ≠ b' := by
  rintro rfl
  unfold Blk at h h'
  rw [h] at h'
  injection h' with h'
  injection h' with _ ht
  exact hne ht
theorem OwnI.setRowB {w : World} {base g : Nat} {v : Value} {l : List Int} {C D : Array Value} (h : OwnI w base v l) (hg : Blk w g 59 C) : OwnI (w.setRow g D) base v l := by
  refine ⟨h.1, ?_⟩
  rcases h.2 with h2 | ⟨b, cap, cur, h1, h2, h3, h4⟩
  · exact .inl h2
  · exact .inr ⟨b, cap, cur, h1, h2, Blk.row_other (t := 2) h3 D (blk_ne (t := 2) h3 hg (by decide)), h4⟩
theorem run_ldME {ev : Operand → Value} {w : World} {g : Nat} {C : Array Value} {o : Oper} {x : Operand} (ho : o.op = .load 24 x) (hx : ev x = .pointer (some ⟨g, 0, none⟩)) (hC : Blk w g 24 C) (h2 : C.size = 2) : (execOp ev o).run Tryd.prog w = .ok (.value (.agg C)) w := by
  obtain ⟨fs, hu⟩ := undM
  unfold execOp
  simp only [ho, hx, Instr.loadAt, Instr.sureAddr, Sem.run_bind, Sem.run_pure, Result.andThen_ok, run_loadVar_row w g _ 24 C (0, 0) _ hC hu rfl (by rw [infoM, h2])]
set_option maxHeartbeats 16000000 in
theorem router_any {v hv : Value} {N : Int} {l h : List Int} (x : Int) {w : World} (hm : Sm w v N l) (hh : Vw w hv h) (hx : I64 x) (hI : In64 h) (hh3 : h.length ≤ 1000) :
    Calls Tryd.prog 35 #[v, .int .i64 x, hv] w (RSymPost w (ouN N l x h) (ouR N l x h) (ouC N l x h)) := by
  have HR := hid (fun w' (hu : Up w w') => rright_any (hm.up hu))
  have HCP := hid (fun w' (hu : Up w w') => copy_any (hm.up hu))
  obtain ⟨s, rfl, hV, hN, hl, hlen⟩ := hm
  obtain ⟨p, cap, rfl, hcap, hc⟩ := hV
  have HH := hid hh
  obtain ⟨q, cq, rfl, _⟩ := hh
  obtain ⟨W0, hW0⟩ : ∃ W0, (w.alloc (.cells #[.int .i64 N, .slice p l.length cap] 24)).alloc (.cells #[.int .i64 0, .slice none 0 0] 24) = W0 := ⟨_, rfl⟩
  have hB : Blk W0 w.heap.size 24 #[.int .i64 N, .slice p l.length cap] := by rw [← hW0]; exact (Blk.new _ _ rfl).old _
  have hQ : Blk W0 (w.heap.size + 1) 24 #[.int .i64 0, .slice none 0 0] := by rw [← hW0]; exact Blk.new _ _ (by simp)
  have hU : Up w W0 := by rw [← hW0]; exact (Up.alloc _ _).trans (Up.alloc _ _)
  cases hR : rt N l with
  | false =>
    have e : ouC N l x h = 23 := by unfold ouC; rw [hR]; rfl
    have e2 : ouR N l x h = [] := by unfold ouR; rw [e]; rfl
    have e3 : ouN N l x h = 0 := by unfold ouN; rw [e]; rfl
    rw [e, e2, e3]
    rw [hR] at HR
    clear e e2 e3 hR hc hl hN hI
    go_enter Tryd.func35, Tryd.ntmps35
    go_wp2_with (first
      | ((with_reducible apply ldM_P); exact rfl; exact rfl; exact hB; exact rfl)
      | (go_at_call 11; (with_reducible refine (HR.out _ hU).mono ?_); rintro r w1 ⟨rfl, hu1⟩; replace hQ := hQ.up hu1)
      | ((with_reducible apply stM_P); exact rfl; exact rfl; exact hQ; exact rfl; exact rfl; exact two2 _ _ _ _ _))
    exact bodyPost_ret (resMs (u := .int .i64 23) rfl rfl rfl (hQ.setRow _) rfl) rfl (RSymPost.err 23 (hU.trans hu1) (by omega))
  | true =>
    rw [hR] at HR
    by_cases hn0 : (h.length : Int) = N
    · obtain ⟨n, rfl⟩ : ∃ n : Nat, N = (n : Int) := ⟨h.length, hn0.symm⟩
      obtain ⟨_, n8, htri, _⟩ := rt_spec hR
      rw [tri_nat] at htri
      have n8' : n ≤ 8 := by omega
      have hln : l.length = triN n := by omega
      have hhn : h.length = n := by omega
      have d3 : ((h.length : Int) != (n : Int)) = false := by rw [hn0]; simp
      have eN : ((n : Int)).toNat = n := by omega
      have HLn := hid hln
      have HhL := hid hhn
      have HI64 := hid hI
      have Hl64 := hid hl
      have hx64 := hid hx
      have HO := hid (fun v (hv : I64 v) w => of_big v hv.1 hv.2 w)
      obtain ⟨L', hL'⟩ : ∃ L', ouL n l x h = L' := ⟨_, rfl⟩
      have HlL : Hid (L'.length = l.length) := hid (by rw [← hL', ouL_len])
      have Hat : Hid (∀ i j, i ≤ j → j < n → zth L' (pos n i j) = zth l (pos n i j) + x * zth h i * zth h j) := hid (fun i j hij hj => by rw [← hL']; exact ouL_at x h n8' hln hij hj)
      obtain ⟨hc9, hd9⟩ : (∀ k, k < L'.length → fit (zth L' k) = false → RSymPost w (ouN n l x h) (ouR n l x h) (ouC n l x h) = RSymPost w 0 [] 21) ∧
          ((∀ k, k < L'.length → fit (zth L' k) = true) → RSymPost w (ouN n l x h) (ouR n l x h) (ouC n l x h) = RSymPost w n L' 0) := by
        refine ⟨fun k hk hf => ?_, fun hf => ?_⟩
        · have e : ouC n l x h = 21 := by unfold ouC; rw [hR, decide_eq_true hn0, eN, hL', all_no hk hf]; rfl
          unfold ouN ouR; rw [e]; rfl
        · have e : ouC n l x h = 0 := by unfold ouC; rw [hR, decide_eq_true hn0, eN, hL', all_yes hf]; rfl
          unfold ouN ouR; rw [e, if_pos rfl, if_pos rfl, eN, hL']
      have Hbad := hid hc9
      have Hgood := hid hd9
      obtain ⟨PP, hPP⟩ : ∃ PP, RSymPost w (ouN n l x h) (ouR n l x h) (ouC n l x h) = PP := ⟨_, rfl⟩
      rw [hPP] at Hbad Hgood ⊢
      have HN64 := hid hN
      clear hPP hc9 hd9 hL' hc hl hI hx hR hn0 htri hln hhn hN eN hcap
      go_enter Tryd.func35, Tryd.ntmps35
      go_wp2_with (first
        | ((with_reducible apply ldM_P); exact rfl; exact rfl; exact hB; exact rfl)
        | (go_at_call 11; (with_reducible refine (HR.out _ hU).mono ?_); rintro r w1 ⟨rfl, hu1⟩; replace hQ := hQ.up hu1; replace hB := hB.up hu1; replace hU := hU.trans hu1; have hc0 := hB.cell 0 rfl)
        | (go_at_call 20; (with_reducible refine (HCP.out _ hU).mono ?_); rintro r w2 ⟨sA, rfl, hu2, hO⟩; have hlt := hB.lt; have hlt2 := hQ.lt; replace hQ := hQ.up hu2; replace hB := hB.up hu2; replace hU := hU.trans hu2; obtain ⟨pA, nA, cA, rfl⟩ := OwnI.slice hO; have hO2 := OwnI.setRow (D := #[.int .i64 (n : Int), .slice pA nA cA]) hO hB; have hB2 := hB.setRow #[.int .i64 (n : Int), .slice pA nA cA]; have hQ2 := Blk.row_other hQ #[.int .i64 (n : Int), .slice pA nA cA] (show w.heap.size + 1 ≠ w.heap.size by omega); have hU2 := below_setRow hU (Nat.le_refl _) #[.int .i64 (n : Int), .slice pA nA cA])
        | ((with_reducible apply stM_P); exact rfl; exact rfl; exact hB; exact rfl; exact rfl; exact two2 _ _ _ _ _))
      obtain ⟨base, hbase⟩ : ∃ b, w1.heap.size = b := ⟨_, rfl⟩
      have hbs : w.heap.size + 1 < base := by omega
      rw [hbase] at hO2
      clear hbase hlt hlt2 hu1 hu2 hO hB hQ hU hc0 hW0
      go_loopg [8] n (fun g ti wr => ∃ i : Nat, i ≤ n ∧ n - i ≤ g ∧ ti = .int .i64 (i : Nat) ∧ RInv w base w.heap.size (w.heap.size + 1) n (.slice pA nA cA) L' l (pos n i i) wr)
      case atStart => exact ⟨0, Nat.zero_le _, by omega, rfl, by rw [pos_zero, mixed_zero]; exact hO2, fun q hq => by rw [pos_zero] at hq; omega, hB2, hQ2, hU2⟩
      case round =>
        clear hB2 hQ2 hU2 hO2
        obtain ⟨i, hi, hig, rfl, hO, hfits, hB, hQ, hU⟩ := hrel
        have hc0 := hB.cell 0 rfl
        by_cases hlt : i < n
        · have e1 : IntKind.i64.wrap ((i : Int) + 1) = (i : Int) + 1 := IntWalk.i64_in _ (by omega)
          go_wp2_with fail
          go_loopg [9] n (fun g tj wj => ∃ j : Nat, i ≤ j ∧ j ≤ n ∧ n - j ≤ g ∧ tj = .int .i64 (j : Nat) ∧ RInv w base w.heap.size (w.heap.size + 1) n (.slice pA nA cA) L' l (pos n i j) wj)
          case atStart => exact ⟨i, Nat.le_refl _, hi, by omega, rfl, hO, hfits, hB, hQ, hU⟩
          case round =>
            clear hO hfits hB hQ hU hc0
            obtain ⟨j, hij, hj, hjg, rfl, hO, hfits, hB, hQ, hU⟩ := hrel
            have hc0 := hB.cell 0 rfl
            by_cases hjlt : j < n
            · have hkl : pos n i j < l.length := by rw [HLn.out]; exact pos_lt hij hjlt
              have hM64 := In64.mixed HlL.out Hl64.out hfits
              have HSm := hid (hO.sm HN64.out hM64 (by rw [mixed_len HlL.out]; exact hlen))
              have HAt := hid (fun w' (hu : Up wr w') => rat_ent2 (HSm.out.up hu) n8' (by rw [mixed_len HlL.out]; exact HLn.out) hij hjlt)
              have hat := Hat.out i j hij hjlt
              have HX := hid (fun w => (pos_idx hij hjlt) ▸ rat_any (n : Int) (i : Int) (j : Int) (by omega) (by omega) (by omega) (by omega) (by omega) w)
              have HFit := hid hfits
              obtain ⟨k, hk⟩ : ∃ k, pos n i j = k := ⟨_, rfl⟩
              have HK := hid hk
              rw [hk] at hkl HAt hat hO HX HFit
              obtain ⟨g, cp, C, hv, hbg, -⟩ := hO.open (by rw [mixed_len HlL.out]; omega)
              injection hv with x1 x2 x3
              rw [mixed_len HlL.out] at x2
              subst x1 x2 x3
              have hihl : i < h.length := by rw [HhL.out]; exact hlt
              have hjhl : j < h.length := by rw [HhL.out]; exact hjlt
              obtain ⟨q', cq', xq, _, hcq⟩ := HH.out
              injection xq with y1 y2 y3
              subst y1 y3
              obtain ⟨ad, rfl, _⟩ := hcq i hihl
              have HAd := hid (fun w' (hu : Up w w') (i : Nat) (hi : i < h.length) => (show w'.cell? (ad.add i) = some (.int .i64 (zth h i)) from by obtain ⟨a2, z1, z2⟩ := hcq i hi; injection z1 with z1; subst z1; exact hu.cellEq z2))
              have hmx : zth (mixed L' l k) k = zth l k := mixed_at HlL.out hkl
              rw [hmx] at HAt
              have hak := Hl64.out k hkl
              have hzi := HI64.out i hihl
              have hzj := HI64.out j hjhl
              have b0 := i64_bp hak
              have b1 := i64_bp hx64.out
              have b2 := i64_bp hzi
              have b3 := i64_bp hzj
              have b4 : (zth h i * zth h j).natAbs < bp 2 := by rw [Int.natAbs_mul, bp_add 1 1]; exact Nat.mul_lt_mul'' b2 b3
              have b5 : (x * (zth h i * zth h j)).natAbs < bp 3 := by rw [Int.natAbs_mul, bp_add 1 2]; exact Nat.mul_lt_mul'' b1 b4
              have hat' : zth L' k = zth l k + x * (zth h i * zth h j) := by rw [hat, Int.mul_assoc]
              have b6 : (zth L' k).natAbs < bp 4 := by
                rw [hat']
                have c1 : bp 4 = bp 3 * 18446744073709551616 := bp_succ 3
                have c2 : bp 1 ≤ bp 3 := bp_mono (by omega)
                omega
              have n0 := nl_bp (by omega) b0
              have n1 := nl_bp (by omega) b1
              have n2 := nl_bp (by omega) b2
              have n3 := nl_bp (by omega) b3
              have n4 := nl_bp (by omega) b4
              have n5 := nl_bp (by omega) b5
              have HN3 := hid (nl_bp (by omega) b6)
              have HOk := hid (HO.out (zth l k) hak)
              have HOx := hid (HO.out x hx64.out)
              have HOi := hid (HO.out (zth h i) hzi)
              have HOj := hid (HO.out (zth h j) hzj)
              have HM1 := hid (fun (va vb : Value) (w : World) (ha : Big w va (zth h i)) (hb : Big w vb (zth h j)) => mul_big ha hb n2 n3)
              have HM2 := hid (fun (va vb : Value) (w : World) (ha : Big w va x) (hb : Big w vb (zth h i * zth h j)) => mul_big ha hb n1 n4)
              have HAD := hid (fun (va vb : Value) (w : World) (ha : Big w va (zth l k)) (hb : Big w vb (x * (zth h i * zth h j))) => hat' ▸ add_big ha hb n0 n5)
              have HS9 := hid (mixed_set HlL.out hkl)
              have HML := hid (mixed_len HlL.out k)
              clear hat hat' n0 n1 n2 n3 n4 n5 b0 b1 b2 b3 b4 b5 b6 hak hzi hzj hk hM64 hfits hcq y2 hmx HSm
              obtain ⟨z9, hz9'⟩ : ∃ z, zth L' k = z := ⟨_, rfl⟩
              have HZ9 := hid hz9'
              rw [hz9'] at HS9 HN3 HAD
              clear hz9'
              obtain ⟨p2, hp2⟩ : ∃ z, x * (zth h i * zth h j) = z := ⟨_, rfl⟩
              rw [hp2] at HM2 HAD
              clear hp2
              obtain ⟨p1, hp1⟩ : ∃ z, zth h i * zth h j = z := ⟨_, rfl⟩
              rw [hp1] at HM1 HM2
              clear hp1
              obtain ⟨zi, hzi9⟩ : ∃ z, zth h i = z := ⟨_, rfl⟩
              obtain ⟨zj, hzj9⟩ : ∃ z, zth h j = z := ⟨_, rfl⟩
              have HZi := hid hzi9
              have HZj := hid hzj9
              rw [hzi9, hzj9] at HM1
              rw [hzi9] at HOi
              rw [hzj9] at HOj
              clear hzi9 hzj9
              generalize zth l k = ak at *
              obtain ⟨M, hM9⟩ : ∃ M, mixed L' l k = M := ⟨_, rfl⟩
              rw [hM9] at hO HS9 HML
              clear hM9
              have hkM : k < M.length := by rw [HML.out]; exact hkl
              have hVh := Vw.up hU HH.out
              go_wp2_with fail
              refine wp_region_sp (n := 75) 21 [37, 38, 39, 40, 41, 42, 43, 44, 45, 46, 47, 48, 49, 50, 51, 52, 53, 54, 55, 56, 10] [SP.is (.agg #[.int .i64 (n : Int), .slice (some ⟨g, 0, none⟩) l.length cA]), SP.is (.int .i64 (i : Nat)), SP.is (.int .i64 (j : Nat)), SP.is (.int .i64 ak), SP.of (fun v w1 => Big w1 v ak) (fun _ _ _ h hu => h.up hu), SP.is (.int .i64 x), SP.of (fun v w1 => Big w1 v x) (fun _ _ _ h hu => h.up hu), SP.is (.slice (some ad) h.length cq), SP.is (.int .i64 (i : Nat)), SP.is (.pointer (some (ad.add i))), SP.is (.int .i64 zi), SP.of (fun v w1 => Big w1 v zi) (fun _ _ _ h hu => h.up hu), SP.is (.slice (some ad) h.length cq), SP.is (.int .i64 (j : Nat)), SP.is (.pointer (some (ad.add j))), SP.is (.int .i64 zj), SP.of (fun v w1 => Big w1 v zj) (fun _ _ _ h hu => h.up hu), SP.of (fun v w1 => Big w1 v p1) (fun _ _ _ h hu => h.up hu), SP.of (fun v w1 => Big w1 v p2) (fun _ _ _ h hu => h.up hu), SP.of (fun v w1 => Big w1 v z9) (fun _ _ _ h hu => h.up hu), SP.of (fun v w1 => ∃ b, v = .pointer (some ⟨b, 0, none⟩) ∧ w.heap.size ≤ b ∧ Blk w1 b 59 #[.bool false, .slice none 0 0]) (fun _ _ _ h hu => h.imp fun _ k => ⟨k.1, k.2.1, k.2.2.up hu⟩), SP.any] (fun wq => Blk wq w.heap.size 24 #[.int .i64 (n : Int), .slice (some ⟨g, 0, none⟩) l.length cA] ∧ Up wr wq ∧ Below w.heap.size w wq) (by kernel_rfl) (by rfl) (by kernel_rfl) (by kernel_rfl) (fun _ _ h hu => ⟨(h.1).up hu, (h.2.1).trans hu, below_up (h.2.2) hu⟩) ⟨(by first | assumption | ((repeat (first | assumption | ((with_reducible apply blk_new); (focus (first | rfl | (simp; done)))) | (with_reducible apply blk_alloc) | (with_reducible apply blk_drew) | (with_reducible apply blk_drewN) | ((with_reducible apply blk_up); assumption) | (with_reducible apply blk_same) | ((with_reducible apply blk_else); (focus (first | (simp; done) | (simp; omega) | omega))))))), (by first | exact Up.refl _ | assumption), (by repeat (first | assumption | (with_reducible apply Up.of) | (with_reducible exact Below.refl _ _) | (with_reducible exact Up.refl _) | ((with_reducible apply bl_setRow); (focus (first | exact Nat.le_refl _ | (simp; done) | (simp; omega) | omega))) | (with_reducible apply below_drewN) | (with_reducible apply Below.drew) | ((with_reducible apply bl_alloc); (focus (first | exact Nat.le_refl _ | (simp; done) | (simp; omega) | omega))) | ((with_reducible apply bl_setCell); (focus (first | exact Nat.le_refl _ | (simp; done) | (simp; omega) | omega))) | ((with_reducible apply up_tr); assumption)))⟩ (fun ev w9 hS9 i o hne hi hev => ?_) (fun gR wE hq hSE huE => ?_)
              · have ⟨hS1, hS2, hSB⟩ := hS9
                have hcC := hev.const
                have hcF := hev.func
                have hcG := hev.global
                rcases i with _ | _ | _ | _ | _ | _ | _ | _ | _ | _ | _ | _ | _ | _ | _ | _ | _ | _ | _ | _ | _ | _ | i
                · obtain rfl := Option.some.inj (show some _ = some o from hi)
                  have e3 := hev.other 3 (by kernel_rfl)
                  simp [Act.eval] at e3
                  exact leavesR_value (run_ldME rfl e3 hS1 rfl) rfl
                · obtain rfl := Option.some.inj (show some _ = some o from hi)
                  have e8 := hev.other 8 (by kernel_rfl)
                  simp [Act.eval] at e8
                  exact leavesR_value (u := .int .i64 (i : Nat)) (by first | (go_simp; done) | (go_simp; exact rfl)) rfl
                · obtain rfl := Option.some.inj (show some _ = some o from hi)
                  have e9 := hev.other 9 (by kernel_rfl)
                  simp [Act.eval] at e9
                  exact leavesR_value (u := .int .i64 (j : Nat)) (by first | (go_simp; done) | (go_simp; exact rfl)) rfl
                · obtain rfl := Option.some.inj (show some _ = some o from hi)
                  have e37 : ev (.tmp 37) = (.agg #[.int .i64 (n : Int), .slice (some ⟨g, 0, none⟩) l.length cA]) := hev.dep 0 37 (by kernel_rfl)
                  have e38 : ev (.tmp 38) = (.int .i64 (i : Nat)) := hev.dep 1 38 (by kernel_rfl)
                  have e39 : ev (.tmp 39) = (.int .i64 (j : Nat)) := hev.dep 2 39 (by kernel_rfl)
                  refine leavesR_call ?_ ((HAt.out _ hS2).mono fun _ _ h => ⟨h.2, _, h.1, rfl⟩)
                  go_simp
                · obtain rfl := Option.some.inj (show some _ = some o from hi)
                  have e40 : ev (.tmp 40) = (.int .i64 ak) := hev.dep 3 40 (by kernel_rfl)
                  refine leavesR_call ?_ (HOk.out _)
                  go_simp
                · obtain rfl := Option.some.inj (show some _ = some o from hi)
                  have e1 := hev.other 1 (by kernel_rfl)
                  simp [Act.eval] at e1
                  exact leavesR_value (u := .int .i64 x) (by first | (go_simp; done) | (go_simp; exact rfl)) rfl
                · obtain rfl := Option.some.inj (show some _ = some o from hi)
                  have e42 : ev (.tmp 42) = (.int .i64 x) := hev.dep 5 42 (by kernel_rfl)
                  refine leavesR_call ?_ (HOx.out _)
                  go_simp
                · obtain rfl := Option.some.inj (show some _ = some o from hi)
                  have e2 := hev.other 2 (by kernel_rfl)
                  simp [Act.eval] at e2
                  exact leavesR_value (u := .slice (some ad) h.length cq) (by first | (go_simp; done) | (go_simp; exact rfl)) rfl
                · obtain rfl := Option.some.inj (show some _ = some o from hi)
                  have e8 := hev.other 8 (by kernel_rfl)
                  simp [Act.eval] at e8
                  exact leavesR_value (u := .int .i64 (i : Nat)) (by first | (go_simp; done) | (go_simp; exact rfl)) rfl
                · obtain rfl := Option.some.inj (show some _ = some o from hi)
                  have e44 : ev (.tmp 44) = (.slice (some ad) h.length cq) := hev.dep 7 44 (by kernel_rfl)
                  have e45 : ev (.tmp 45) = (.int .i64 (i : Nat)) := hev.dep 8 45 (by kernel_rfl)
                  exact leavesR_value (u := .pointer (some (ad.add i))) (by first | (go_simp; done) | (go_simp; exact rfl)) rfl
                · obtain rfl := Option.some.inj (show some _ = some o from hi)
                  have e46 : ev (.tmp 46) = (.pointer (some (ad.add i))) := hev.dep 9 46 (by kernel_rfl)
                  have hcx := HAd.out w9 hSB i hihl; rw [HZi.out] at hcx; exact leavesR_value (u := .int .i64 zi) (by go_simp) rfl
                · obtain rfl := Option.some.inj (show some _ = some o from hi)
                  have e47 : ev (.tmp 47) = (.int .i64 zi) := hev.dep 10 47 (by kernel_rfl)
                  refine leavesR_call ?_ (HOi.out _)
                  go_simp
                · obtain rfl := Option.some.inj (show some _ = some o from hi)
                  have e2 := hev.other 2 (by kernel_rfl)
                  simp [Act.eval] at e2
                  exact leavesR_value (u := .slice (some ad) h.length cq) (by first | (go_simp; done) | (go_simp; exact rfl)) rfl
                · obtain rfl := Option.some.inj (show some _ = some o from hi)
                  have e9 := hev.other 9 (by kernel_rfl)
                  simp [Act.eval] at e9
                  exact leavesR_value (u := .int .i64 (j : Nat)) (by first | (go_simp; done) | (go_simp; exact rfl)) rfl
                · obtain rfl := Option.some.inj (show some _ = some o from hi)
                  have e49 : ev (.tmp 49) = (.slice (some ad) h.length cq) := hev.dep 12 49 (by kernel_rfl)
                  have e50 : ev (.tmp 50) = (.int .i64 (j : Nat)) := hev.dep 13 50 (by kernel_rfl)
                  exact leavesR_value (u := .pointer (some (ad.add j))) (by first | (go_simp; done) | (go_simp; exact rfl)) rfl
                · obtain rfl := Option.some.inj (show some _ = some o from hi)
                  have e51 : ev (.tmp 51) = (.pointer (some (ad.add j))) := hev.dep 14 51 (by kernel_rfl)
                  have hcx := HAd.out w9 hSB j hjhl; rw [HZj.out] at hcx; exact leavesR_value (u := .int .i64 zj) (by go_simp) rfl
                · obtain rfl := Option.some.inj (show some _ = some o from hi)
                  have e52 : ev (.tmp 52) = (.int .i64 zj) := hev.dep 15 52 (by kernel_rfl)
                  refine leavesR_call ?_ (HOj.out _)
                  go_simp
                · obtain rfl := Option.some.inj (show some _ = some o from hi)
                  have e48 : (fun v w1 => Big w1 v zi) (ev (.tmp 48)) w9 := hev.dep 11 48 (by kernel_rfl)
                  dsimp only at e48
                  obtain ⟨v48, hv48⟩ : ∃ v, ev (.tmp 48) = v := ⟨_, rfl⟩
                  rw [hv48] at e48
                  have e53 : (fun v w1 => Big w1 v zj) (ev (.tmp 53)) w9 := hev.dep 16 53 (by kernel_rfl)
                  dsimp only at e53
                  obtain ⟨v53, hv53⟩ : ∃ v, ev (.tmp 53) = v := ⟨_, rfl⟩
                  rw [hv53] at e53
                  refine leavesR_call ?_ (HM1.out _ _ _ e48 e53)
                  go_simp
                · obtain rfl := Option.some.inj (show some _ = some o from hi)
                  have e43 : (fun v w1 => Big w1 v x) (ev (.tmp 43)) w9 := hev.dep 6 43 (by kernel_rfl)
                  dsimp only at e43
                  obtain ⟨v43, hv43⟩ : ∃ v, ev (.tmp 43) = v := ⟨_, rfl⟩
                  rw [hv43] at e43
                  have e54 : (fun v w1 => Big w1 v p1) (ev (.tmp 54)) w9 := hev.dep 17 54 (by kernel_rfl)
                  dsimp only at e54
                  obtain ⟨v54, hv54⟩ : ∃ v, ev (.tmp 54) = v := ⟨_, rfl⟩
                  rw [hv54] at e54
                  refine leavesR_call ?_ (HM2.out _ _ _ e43 e54)
                  go_simp
                · obtain rfl := Option.some.inj (show some _ = some o from hi)
                  have e41 : (fun v w1 => Big w1 v ak) (ev (.tmp 41)) w9 := hev.dep 4 41 (by kernel_rfl)
                  dsimp only at e41
                  obtain ⟨v41, hv41⟩ : ∃ v, ev (.tmp 41) = v := ⟨_, rfl⟩
                  rw [hv41] at e41
                  have e55 : (fun v w1 => Big w1 v p2) (ev (.tmp 55)) w9 := hev.dep 18 55 (by kernel_rfl)
                  dsimp only at e55
                  obtain ⟨v55, hv55⟩ : ∃ v, ev (.tmp 55) = v := ⟨_, rfl⟩
                  rw [hv55] at e55
                  refine leavesR_call ?_ (HAD.out _ _ _ e41 e55)
                  go_simp
                · obtain rfl := Option.some.inj (show some _ = some o from hi)
                  exact leavesR_up (u := .pointer (some ⟨w9.heap.size, 0, none⟩)) (w' := w9.alloc (.cells #[.bool false, .slice none 0 0] 59)) (by go_simp) (Up.alloc _ _) ⟨_, rfl, hSB.size, Blk.new _ _ rfl⟩
                · exact absurd rfl hne
                · exact absurd (show i + 22 < 22 from (Array.getElem?_eq_some_iff.1 hi).1) (by omega)
              have ⟨hS1, hS2, hSB⟩ := hSE
              have q0 : gR 37 = (.agg #[.int .i64 (n : Int), .slice (some ⟨g, 0, none⟩) l.length cA]) := hq 0 37 (by decide) (by kernel_rfl)
              have q1 : gR 38 = (.int .i64 (i : Nat)) := hq 1 38 (by decide) (by kernel_rfl)
              have q2 : gR 39 = (.int .i64 (j : Nat)) := hq 2 39 (by decide) (by kernel_rfl)
              have q3 : gR 40 = (.int .i64 ak) := hq 3 40 (by decide) (by kernel_rfl)
              have q4 : (fun v w1 => Big w1 v ak) (gR 41) wE := hq 4 41 (by decide) (by kernel_rfl)
              dsimp only at q4
              obtain ⟨v41, hv41⟩ : ∃ v, gR 41 = v := ⟨_, rfl⟩
              rw [hv41] at q4
              have q5 : gR 42 = (.int .i64 x) := hq 5 42 (by decide) (by kernel_rfl)
              have q6 : (fun v w1 => Big w1 v x) (gR 43) wE := hq 6 43 (by decide) (by kernel_rfl)
              dsimp only at q6
              obtain ⟨v43, hv43⟩ : ∃ v, gR 43 = v := ⟨_, rfl⟩
              rw [hv43] at q6
              have q7 : gR 44 = (.slice (some ad) h.length cq) := hq 7 44 (by decide) (by kernel_rfl)
              have q8 : gR 45 = (.int .i64 (i : Nat)) := hq 8 45 (by decide) (by kernel_rfl)
              have q9 : gR 46 = (.pointer (some (ad.add i))) := hq 9 46 (by decide) (by kernel_rfl)
              have q10 : gR 47 = (.int .i64 zi) := hq 10 47 (by decide) (by kernel_rfl)
              have q11 : (fun v w1 => Big w1 v zi) (gR 48) wE := hq 11 48 (by decide) (by kernel_rfl)
              dsimp only at q11
              obtain ⟨v48, hv48⟩ : ∃ v, gR 48 = v := ⟨_, rfl⟩
              rw [hv48] at q11
              have q12 : gR 49 = (.slice (some ad) h.length cq) := hq 12 49 (by decide) (by kernel_rfl)
              have q13 : gR 50 = (.int .i64 (j : Nat)) := hq 13 50 (by decide) (by kernel_rfl)
              have q14 : gR 51 = (.pointer (some (ad.add j))) := hq 14 51 (by decide) (by kernel_rfl)
              have q15 : gR 52 = (.int .i64 zj) := hq 15 52 (by decide) (by kernel_rfl)
              have q16 : (fun v w1 => Big w1 v zj) (gR 53) wE := hq 16 53 (by decide) (by kernel_rfl)
              dsimp only at q16
              obtain ⟨v53, hv53⟩ : ∃ v, gR 53 = v := ⟨_, rfl⟩
              rw [hv53] at q16
              have q17 : (fun v w1 => Big w1 v p1) (gR 54) wE := hq 17 54 (by decide) (by kernel_rfl)
              dsimp only at q17
              obtain ⟨v54, hv54⟩ : ∃ v, gR 54 = v := ⟨_, rfl⟩
              rw [hv54] at q17
              have q18 : (fun v w1 => Big w1 v p2) (gR 55) wE := hq 18 55 (by decide) (by kernel_rfl)
              dsimp only at q18
              obtain ⟨v55, hv55⟩ : ∃ v, gR 55 = v := ⟨_, rfl⟩
              rw [hv55] at q18
              have q19 : (fun v w1 => Big w1 v z9) (gR 56) wE := hq 19 56 (by decide) (by kernel_rfl)
              dsimp only at q19
              obtain ⟨v56, hv56⟩ : ∃ v, gR 56 = v := ⟨_, rfl⟩
              rw [hv56] at q19
              have q20 : (fun v w1 => ∃ b, v = .pointer (some ⟨b, 0, none⟩) ∧ w.heap.size ≤ b ∧ Blk w1 b 59 #[.bool false, .slice none 0 0]) (gR 10) wE := hq 20 10 (by decide) (by kernel_rfl)
              dsimp only at q20
              obtain ⟨v10, hv10⟩ : ∃ v, gR 10 = v := ⟨_, rfl⟩
              rw [hv10] at q20
              refine ⟨fun h => absurd h (by decide), fun o ho => ?_⟩
              obtain rfl := Option.some.inj (show some _ = some o from ho)
              simp only [putL, List.map_cons, List.map_nil, q0, q1, q2, q3, hv41, q5, hv43, q7, q8, q9, q10, hv48, q12, q13, q14, q15, hv53, hv54, hv55, hv56, hv10, Act.put, List.setIfInBounds_toArray, List.set_cons_zero, List.set_cons_succ]
              clear hq hSE q0 q1 q2 q3 q5 q7 q8 q9 q10 q12 q13 q14 q15
              obtain ⟨b7, rfl, hb7, hBz⟩ := q20
              obtain ⟨bb, ba, bn, bc, rfl⟩ := q19.shape
              refine wp_stB rfl rfl rfl rfl hBz rfl rfl (one2 _ _ _ _) ?_
              have hB7 := Blk.row_other (hB.up huE) #[.bool bb, .slice ba bn bc] (blk_ne (hB.up huE) hBz (by decide))
              have hQ7 := Blk.row_other (hQ.up huE) #[.bool bb, .slice ba bn bc] (blk_ne (hQ.up huE) hBz (by decide))
              have hO7 := OwnI.setRowB (D := #[.bool bb, .slice ba bn bc]) (hO.up huE) hBz
              have hU7 := below_setRow (hU.trans huE) hb7 #[.bool bb, .slice ba bn bc]
              have hBg := hBz.setRow #[.bool bb, .slice ba bn bc]
              have hbg6 := big_set (D := #[.bool bb, .slice ba bn bc]) hBz q19
              obtain ⟨wK, hwK⟩ : ∃ wK, wE.setRow b7 #[.bool bb, .slice ba bn bc] = wK := ⟨_, rfl⟩
              rw [hwK] at hB7 hQ7 hO7 hU7 hBg hbg6 ⊢
              clear hwK hBz q19 q17 q18 q16 q11 q6 q4 hS1 hS2 hSB huE hB hQ hO hU hc0 hVh
              cases hf : fit z9 with
              | false =>
                have HF9 := hid (fun (va : Value) (w : World) (hb : Big w va z9) => hf ▸ rfits_any hb HN3.out)
                have Hf := hid hf
                clear hf
                go_wp2_with (first
                  | ((with_reducible apply ldB_P); exact rfl; exact rfl; exact hBg; exact rfl)
                  | (go_at_call 64; (with_reducible refine (HF9.out _ _ hbg6).mono ?_); rintro r w7 ⟨rfl, hu7⟩; replace hQ7 := hQ7.up hu7)
                  | ((with_reducible apply stM_P); exact rfl; exact rfl; exact hQ7; exact rfl; exact rfl; exact two2 _ _ _ _ _))
                rw [Hbad.out k (by rw [HlL.out]; exact hkl) (by rw [HZ9.out]; exact Hf.out)]
                exact bodyPost_ret (resMs (u := .int .i64 21) rfl rfl rfl (hQ7.setRow _) rfl) rfl (RSymPost.err 21 (below_up hU7 hu7) (by omega))
              | true =>
                have HF9 := hid (fun (va : Value) (w : World) (hb : Big w va z9) => hf ▸ rfits_any hb HN3.out)
                have Hf := hid hf
                have HIn := hid (fun (va : Value) (w : World) (hb : Big w va z9) => (i64V_yes (fit_i64 hf)) ▸ int64_big hb HN3.out)
                clear hf
                go_wp2_with (first
                  | ((with_reducible apply ldB_P); exact rfl; exact rfl; exact hBg; exact rfl)
                  | (go_at_call 64; (with_reducible refine (HF9.out _ _ hbg6).mono ?_); rintro r w7 ⟨rfl, hu7⟩; replace hQ7 := hQ7.up hu7; replace hB7 := hB7.up hu7; replace hO7 := hO7.up hu7; replace hbg6 := hbg6.up hu7; replace hBg := hBg.up hu7; replace hU7 := below_up hU7 hu7))
                have hq0 := hB7.cell 0 rfl
                have hq1 := hB7.cell 1 rfl
                refine wp_region_upS (S := (fun wq => Blk wq w.heap.size 24 #[.int .i64 (n : Int), .slice (some ⟨g, 0, none⟩) l.length cA] ∧ wq.cell? ⟨w.heap.size, 0, none⟩ = some (.int .i64 (n : Int)) ∧ wq.cell? ⟨w.heap.size, 1, none⟩ = some (.slice (some ⟨g, 0, none⟩) l.length cA) ∧ Blk wq b7 59 #[.bool bb, .slice ba bn bc] ∧ Big wq (.agg #[.bool bb, .slice ba bn bc]) z9 ∧ OwnI wq base (.slice (some ⟨g, 0, none⟩) l.length cA) M ∧ Blk wq (w.heap.size + 1) 24 #[.int .i64 0, .slice none 0 0] ∧ Below w.heap.size w wq)) (req := (fun j => j != 13)) (by kernel_rfl) (fun _ _ h hu => ⟨(h.1).up hu, hu.cell (h.2.1), hu.cell (h.2.2.1), (h.2.2.2.1).up hu, (h.2.2.2.2.1).up hu, (h.2.2.2.2.2.1).up hu, (h.2.2.2.2.2.2.1).up hu, below_up (h.2.2.2.2.2.2.2) hu⟩) ⟨(by (repeat (first | assumption | ((with_reducible apply blk_new); (focus (first | rfl | (simp; done)))) | (with_reducible apply blk_alloc) | (with_reducible apply blk_drew) | (with_reducible apply blk_drewN) | ((with_reducible apply blk_up); assumption) | (with_reducible apply blk_same) | ((with_reducible apply blk_else); (focus (first | (simp; done) | (simp; omega) | omega)))))), (by first | assumption | (apply Blk.cell; (focus (repeat (first | assumption | ((with_reducible apply blk_new); (focus (first | rfl | (simp; done)))) | (with_reducible apply blk_alloc) | (with_reducible apply blk_drew) | (with_reducible apply blk_drewN) | ((with_reducible apply blk_up); assumption) | (with_reducible apply blk_same) | ((with_reducible apply blk_else); (focus (first | (simp; done) | (simp; omega) | omega)))))); exact rfl)), (by first | assumption | (apply Blk.cell; (focus (repeat (first | assumption | ((with_reducible apply blk_new); (focus (first | rfl | (simp; done)))) | (with_reducible apply blk_alloc) | (with_reducible apply blk_drew) | (with_reducible apply blk_drewN) | ((with_reducible apply blk_up); assumption) | (with_reducible apply blk_same) | ((with_reducible apply blk_else); (focus (first | (simp; done) | (simp; omega) | omega)))))); exact rfl)), (by (repeat (first | assumption | ((with_reducible apply blk_new); (focus (first | rfl | (simp; done)))) | (with_reducible apply blk_alloc) | (with_reducible apply blk_drew) | (with_reducible apply blk_drewN) | ((with_reducible apply blk_up); assumption) | (with_reducible apply blk_same) | ((with_reducible apply blk_else); (focus (first | (simp; done) | (simp; omega) | omega)))))), (by (repeat (first | assumption | ((with_reducible apply big_set); (focus (repeat (first | assumption | ((with_reducible apply blk_new); (focus (first | rfl | (simp; done)))) | (with_reducible apply blk_alloc) | (with_reducible apply blk_drew) | (with_reducible apply blk_drewN) | ((with_reducible apply blk_up); assumption) | (with_reducible apply blk_same) | ((with_reducible apply blk_else); (focus (first | (simp; done) | (simp; omega) | omega))))))) | (with_reducible apply big_alloc) | ((with_reducible apply big_up); assumption))); done), (by assumption), (by (repeat (first | assumption | ((with_reducible apply blk_new); (focus (first | rfl | (simp; done)))) | (with_reducible apply blk_alloc) | (with_reducible apply blk_drew) | (with_reducible apply blk_drewN) | ((with_reducible apply blk_up); assumption) | (with_reducible apply blk_same) | ((with_reducible apply blk_else); (focus (first | (simp; done) | (simp; omega) | omega)))))), (by repeat (first | assumption | (with_reducible apply Up.of) | (with_reducible exact Below.refl _ _) | (with_reducible exact Up.refl _) | ((with_reducible apply bl_setRow); (focus (first | exact Nat.le_refl _ | (simp; done) | (simp; omega) | omega))) | (with_reducible apply below_drewN) | (with_reducible apply Below.drew) | ((with_reducible apply bl_alloc); (focus (first | exact Nat.le_refl _ | (simp; done) | (simp; omega) | omega))) | ((with_reducible apply bl_setCell); (focus (first | exact Nat.le_refl _ | (simp; done) | (simp; omega) | omega))) | ((with_reducible apply up_tr); assumption)))⟩ (fun wS hSS => ?_)
                have ⟨hS1, hS2, hS3, hS4, hS5, hS6, hS7, hSB⟩ := hSS
                refine wpAnyU_pure (i := 0) (d := (some 62)) (v := ?_) rfl rfl (by kernel_rfl) (fun _ _ _ h => h) (fun _ _ h hu => ⟨(h.1).up hu, hu.cell (h.2.1), hu.cell (h.2.2.1), (h.2.2.2.1).up hu, (h.2.2.2.2.1).up hu, (h.2.2.2.2.2.1).up hu, (h.2.2.2.2.2.2.1).up hu, below_up (h.2.2.2.2.2.2.2) hu⟩) (Or.inl ⟨by rfl, fun w' _ => yu_value ?_⟩) ?_
                rotate_left
                · (go_simp; (try exact rfl))
                try simp only [Act.put, List.setIfInBounds_toArray, List.set_cons_zero, List.set_cons_succ]
                refine wpAnyU_take (i := 1) (d := (some 63)) (v := ?_) rfl rfl (by kernel_rfl) (fun _ _ _ h => h) (fun _ _ h hu => ⟨(h.1).up hu, hu.cell (h.2.1), hu.cell (h.2.2.1), (h.2.2.2.1).up hu, (h.2.2.2.2.1).up hu, (h.2.2.2.2.2.1).up hu, (h.2.2.2.2.2.2.1).up hu, below_up (h.2.2.2.2.2.2.2) hu⟩) hSS (Or.inl ⟨by rfl, fun w' hSw => yu_value ?_⟩) ?_
                rotate_left
                · ((try dsimp only at hSw); (try obtain ⟨_, _, _, _, _, _, _, _⟩ := hSw); go_simp; (try exact rfl))
                try simp only [Act.put, List.setIfInBounds_toArray, List.set_cons_zero, List.set_cons_succ]
                refine wpAnyU_pure (i := 2) (d := (some 64)) (v := ?_) rfl rfl (by kernel_rfl) (fun _ _ _ h => h) (fun _ _ h hu => ⟨(h.1).up hu, hu.cell (h.2.1), hu.cell (h.2.2.1), (h.2.2.2.1).up hu, (h.2.2.2.2.1).up hu, (h.2.2.2.2.2.1).up hu, (h.2.2.2.2.2.2.1).up hu, below_up (h.2.2.2.2.2.2.2) hu⟩) (Or.inl ⟨by rfl, fun w' _ => yu_value ?_⟩) ?_
                rotate_left
                · (go_simp; (try exact rfl))
                try simp only [Act.put, List.setIfInBounds_toArray, List.set_cons_zero, List.set_cons_succ]
                refine wpAnyU_take (i := 3) (d := (some 65)) (v := ?_) rfl rfl (by kernel_rfl) (fun _ _ _ h => h) (fun _ _ h hu => ⟨(h.1).up hu, hu.cell (h.2.1), hu.cell (h.2.2.1), (h.2.2.2.1).up hu, (h.2.2.2.2.1).up hu, (h.2.2.2.2.2.1).up hu, (h.2.2.2.2.2.2.1).up hu, below_up (h.2.2.2.2.2.2.2) hu⟩) hSS (Or.inl ⟨by rfl, fun w' hSw => yu_value ?_⟩) ?_
                rotate_left
                · ((try dsimp only at hSw); (try obtain ⟨_, _, _, _, _, _, _, _⟩ := hSw); go_simp; (try exact rfl))
                try simp only [Act.put, List.setIfInBounds_toArray, List.set_cons_zero, List.set_cons_succ]
                refine wpAnyU_pure (i := 4) (d := (some 66)) (v := ?_) rfl rfl (by kernel_rfl) (fun _ _ _ h => h) (fun _ _ h hu => ⟨(h.1).up hu, hu.cell (h.2.1), hu.cell (h.2.2.1), (h.2.2.2.1).up hu, (h.2.2.2.2.1).up hu, (h.2.2.2.2.2.1).up hu, (h.2.2.2.2.2.2.1).up hu, below_up (h.2.2.2.2.2.2.2) hu⟩) (Or.inl ⟨by rfl, fun w' _ => yu_value ?_⟩) ?_
                rotate_left
                · (go_simp; (try exact rfl))
                try simp only [Act.put, List.setIfInBounds_toArray, List.set_cons_zero, List.set_cons_succ]
                refine wpAnyU_pure (i := 5) (d := (some 67)) (v := ?_) rfl rfl (by kernel_rfl) (fun _ _ _ h => h) (fun _ _ h hu => ⟨(h.1).up hu, hu.cell (h.2.1), hu.cell (h.2.2.1), (h.2.2.2.1).up hu, (h.2.2.2.2.1).up hu, (h.2.2.2.2.2.1).up hu, (h.2.2.2.2.2.2.1).up hu, below_up (h.2.2.2.2.2.2.2) hu⟩) (Or.inl ⟨by rfl, fun w' _ => yu_value ?_⟩) ?_
                rotate_left
                · (go_simp; (try exact rfl))
                try simp only [Act.put, List.setIfInBounds_toArray, List.set_cons_zero, List.set_cons_succ]
                refine wpAnyU_take (i := 6) (d := (some 68)) (v := _) rfl rfl (by kernel_rfl) (fun _ _ _ h => h) (fun _ _ h hu => ⟨(h.1).up hu, hu.cell (h.2.1), hu.cell (h.2.2.1), (h.2.2.2.1).up hu, (h.2.2.2.2.1).up hu, (h.2.2.2.2.2.1).up hu, (h.2.2.2.2.2.2.1).up hu, below_up (h.2.2.2.2.2.2.2) hu⟩) hSS (Or.inl ⟨by rfl, fun w' hSw => yu_call ?_ ((HX.out _).mono fun _ _ h => ⟨h.1, by rw [h.2]; exact Up.refl _⟩)⟩) ?_
                · go_simp
                try simp only [Act.put, List.setIfInBounds_toArray, List.set_cons_zero, List.set_cons_succ]
                refine wpAnyU_take (i := 7) (d := (some 69)) (v := _) rfl rfl (by kernel_rfl) (fun _ _ _ h => h) (fun _ _ h hu => ⟨(h.1).up hu, hu.cell (h.2.1), hu.cell (h.2.2.1), (h.2.2.2.1).up hu, (h.2.2.2.2.1).up hu, (h.2.2.2.2.2.1).up hu, (h.2.2.2.2.2.2.1).up hu, below_up (h.2.2.2.2.2.2.2) hu⟩) hSS (Or.inl ⟨by rfl, fun w' hSw => yu_value (run_ldB rfl rfl hSw.2.2.2.1 rfl)⟩) ?_
                try simp only [Act.put, List.setIfInBounds_toArray, List.set_cons_zero, List.set_cons_succ]
                refine wpAnyU_take (i := 8) (d := (some 70)) (v := _) rfl rfl (by kernel_rfl) (fun _ _ _ h => h) (fun _ _ h hu => ⟨(h.1).up hu, hu.cell (h.2.1), hu.cell (h.2.2.1), (h.2.2.2.1).up hu, (h.2.2.2.2.1).up hu, (h.2.2.2.2.2.1).up hu, (h.2.2.2.2.2.2.1).up hu, below_up (h.2.2.2.2.2.2.2) hu⟩) hSS (Or.inl ⟨by rfl, fun w' hSw => yu_call ?_ (HIn.out _ _ hSw.2.2.2.2.1)⟩) ?_
                · go_simp
                try simp only [Act.put, List.setIfInBounds_toArray, List.set_cons_zero, List.set_cons_succ]
                refine wpAnyU_pure (i := 9) (d := (some 61)) (v := ?_) rfl rfl (by kernel_rfl) (fun _ _ _ h => h) (fun _ _ h hu => ⟨(h.1).up hu, hu.cell (h.2.1), hu.cell (h.2.2.1), (h.2.2.2.1).up hu, (h.2.2.2.2.1).up hu, (h.2.2.2.2.2.1).up hu, (h.2.2.2.2.2.2.1).up hu, below_up (h.2.2.2.2.2.2.2) hu⟩) (Or.inl ⟨by rfl, fun w' _ => yu_value ?_⟩) ?_
                rotate_left
                · (go_simp; (try exact rfl))
                try simp only [Act.put, List.setIfInBounds_toArray, List.set_cons_zero, List.set_cons_succ]
                refine wpAnyU_pure (i := 10) (d := (some 71)) (v := ?_) rfl rfl (by kernel_rfl) (fun _ _ _ h => h) (fun _ _ h hu => ⟨(h.1).up hu, hu.cell (h.2.1), hu.cell (h.2.2.1), (h.2.2.2.1).up hu, (h.2.2.2.2.1).up hu, (h.2.2.2.2.2.1).up hu, (h.2.2.2.2.2.2.1).up hu, below_up (h.2.2.2.2.2.2.2) hu⟩) (Or.inl ⟨by rfl, fun w' _ => yu_value ?_⟩) ?_
                rotate_left
                · (go_simp; (try exact rfl))
                try simp only [Act.put, List.setIfInBounds_toArray, List.set_cons_zero, List.set_cons_succ]
                refine wpAnyU_pure (i := 11) (d := (some 72)) (v := ?_) rfl rfl (by kernel_rfl) (fun _ _ _ h => h) (fun _ _ h hu => ⟨(h.1).up hu, hu.cell (h.2.1), hu.cell (h.2.2.1), (h.2.2.2.1).up hu, (h.2.2.2.2.1).up hu, (h.2.2.2.2.2.1).up hu, (h.2.2.2.2.2.2.1).up hu, below_up (h.2.2.2.2.2.2.2) hu⟩) (Or.inl ⟨by rfl, fun w' _ => yu_value ?_⟩) ?_
                rotate_left
                · (go_simp; (try exact rfl))
                try simp only [Act.put, List.setIfInBounds_toArray, List.set_cons_zero, List.set_cons_succ]
                refine wpAnyU_pure (i := 12) (d := (some 73)) (v := ?_) rfl rfl (by kernel_rfl) (fun _ _ _ h => h) (fun _ _ h hu => ⟨(h.1).up hu, hu.cell (h.2.1), hu.cell (h.2.2.1), (h.2.2.2.1).up hu, (h.2.2.2.2.1).up hu, (h.2.2.2.2.2.1).up hu, (h.2.2.2.2.2.2.1).up hu, below_up (h.2.2.2.2.2.2.2) hu⟩) (Or.inl ⟨by rfl, fun w' _ => yu_value ?_⟩) ?_
                rotate_left
                · (go_simp; (try exact rfl))
                try simp only [Act.put, List.setIfInBounds_toArray, List.set_cons_zero, List.set_cons_succ]
                refine wpAnyU_one (i := 13) rfl (by kernel_rfl) (by rfl) fun wZ hwZ => ?_
                obtain ⟨hcW, hfW⟩ := (hS6.up hwZ).cells hkM
                go_simp
                clear hcW hfW
                refine wpAnyU_done (by kernel_rfl) (fun wF huE => ?_) _
                have hne1 : w.heap.size ≠ g := by omega
                have hne2 : w.heap.size + 1 ≠ g := by omega
                have hO5 := ((hS6.up hwZ).set hkM z9).up huE
                rw [HS9.out] at hO5
                have hB5 := ((hS1.up hwZ).other ⟨g, k, none⟩ (.int .i64 z9) hne1).up huE
                have hQ5 := ((hS7.up hwZ).other ⟨g, k, none⟩ (.int .i64 z9) hne2).up huE
                have hU5 := below_up ((below_up hSB hwZ).setCell (p := ⟨g, k, none⟩) (show w.heap.size ≤ g by omega) (.int .i64 z9)) huE
                clear hq0 hq1 hwZ
                go_wp2_with fail
                go_roundg (n - (j + 1))
                case measure => omega
                case rel => exact ⟨j + 1, by omega, by omega, Nat.le_refl _, rfl, by rw [pos_succ hij, HK.out]; exact ⟨hO5, fun q hq => by rcases Nat.lt_succ_iff_lt_or_eq.1 hq with h1 | h1; exact HFit.out q h1; rw [h1, HZ9.out]; exact Hf.out, hB5, hQ5, hU5⟩⟩
            · obtain rfl : j = n := by omega
              have HP := hid (pos_row hlt)
              go_wp2_with fail
              go_roundg (j - (i + 1))
              case measure => omega
              case rel => exact ⟨i + 1, hlt, Nat.le_refl _, rfl, by rw [← HP.out]; exact ⟨hO, hfits, hB, hQ, hU⟩⟩
        · obtain rfl : i = n := by omega
          rw [pos_end, ← HLn.out, ← HlL.out] at hO hfits
          rw [mixed_all HlL.out] at hO
          have HI := hid (In64.of_fit hfits)
          have HG := hid (Hgood.out hfits)
          clear hfits hlt
          go_wp2_with (first
            | ((with_reducible apply ldM_P); exact rfl; exact rfl; exact hB; exact rfl)
            | ((with_reducible apply stM_P); exact rfl; exact rfl; exact hQ; exact rfl; exact rfl; exact two2 _ _ _ _ _))
          rw [HG.out]
          exact bodyPost_ret (resMs (u := .int .i64 0) rfl rfl rfl (hQ.setRow _) rfl) rfl (RSymPost.ok hU (by omega) hQ hO HN64.out HI.out (by rw [HlL.out]; exact hlen))
    · have e : ouC N l x h = 23 := by unfold ouC; rw [hR, decide_eq_false hn0]; rfl
      have e2 : ouR N l x h = [] := by unfold ouR; rw [e]; rfl
      have e3 : ouN N l x h = 0 := by unfold ouN; rw [e]; rfl
      rw [e, e2, e3]
      have d3 : ((h.length : Int) != N) = true := by simpa using hn0
      clear e e2 e3 hR hc hl hN hI hn0
      go_enter Tryd.func35, Tryd.ntmps35
      go_wp2_with (first
        | ((with_reducible apply ldM_P); exact rfl; exact rfl; exact hB; exact rfl)
        | (go_at_call 11; (with_reducible refine (HR.out _ hU).mono ?_); rintro r w1 ⟨rfl, hu1⟩; replace hQ := hQ.up hu1; replace hB := hB.up hu1; have hc0 := hB.cell 0 rfl)
        | ((with_reducible apply stM_P); exact rfl; exact rfl; exact hQ; exact rfl; exact rfl; exact two2 _ _ _ _ _))
      exact bodyPost_ret (resMs (u := .int .i64 23) rfl rfl rfl (hQ.setRow _) rfl) rfl (RSymPost.err 23 (hU.trans hu1) (by omega))
end Go.Proofs.YtdcpoamjmoceiaaDoor
/-
  Symmetric matrices: leadlinelaw5.known; what is right stays so.
-/
namespace Go.Proofs.YtdcpoamjmoceiaaDoor
open Go Go.RowKit
set_option maxRecDepth 100000
set_option maxRecDepth 100000

theorem Vw.two (w : World) (a b : Int) : Vw (w.alloc (.cells #[.int .i64 a, .int .i64 b] 2)) (.slice (some ⟨w.heap.size, 0, none⟩) 2 2) [a, b] := by
  refine ⟨_, 2, rfl, ⟨Nat.le_refl _, fun e => by cases e⟩, fun i hi => ⟨_, rfl, ?_⟩⟩
  rcases i with _ | _ | i
  · simp [zth, Addr.add]
  · simp [zth, Addr.add]
  · simp at hi; omega
theorem light_any {N : Int} {s : Value} {n : Nat} {p : Option Addr} {c : Nat} (w : World) (hs : s = .slice p n c) :
    Calls Tryd.prog 8 #[.agg #[.int .i64 N, s]] w fun r w' => r = .returned (.bool (decide (n ≤ 60))) ∧ Up w w' := by
  subst hs
  by_cases h : n ≤ 60
  · rw [show decide (n ≤ 60) = true from decide_eq_true h]
    have d : decide ((n : Int) ≤ 60) = true := decide_eq_true (by omega)
    go_enter Tryd.func8, Tryd.ntmps8
    go_wp2_with fail
    go_ret
    exact ⟨by first | rfl | simp [d], Up.alloc _ _⟩
  · rw [show decide (n ≤ 60) = false from decide_eq_false h]
    have d : decide ((n : Int) ≤ 60) = false := decide_eq_false (by omega)
    go_enter Tryd.func8, Tryd.ntmps8
    go_wp2_with fail
    go_ret
    exact ⟨by first | rfl | simp [d], Up.alloc _ _⟩
theorem k_ou : ouC 2 (zeros 2) 3 [1, -1] = 0 ∧ ouR 2 (zeros 2) 3 [1, -1] = [3, -3, 3] ∧ ouN 2 (zeros 2) 3 [1, -1] = 2 := by decide +kernel
theorem k_at1 : atC 2 [3, -3, 3] 1 0 = 0 ∧ atV 2 [3, -3, 3] 1 0 = -3 := by decide +kernel
theorem k_at2 : atC 2 [3, -3, 3] 2 0 = 20 ∧ atV 2 [3, -3, 3] 2 0 = 0 := by decide +kernel
theorem k_rt : rt 2 [3, -3, 3] = true ∧ rt 1 [] = false := by decide +kernel
theorem Errs.zero {w : World} {u : Value} (h : Errs w u 0) : u = .nilIface := by
  rcases h with ⟨_, h⟩ | ⟨h, _⟩
  · exact h
  · exact absurd rfl h
theorem Errs.some2 {w : World} {u : Value} {e : Int} (h : Errs w u e) (h0 : e ≠ 0) : ∃ t x, u = .iface t x := by
  rcases h with ⟨h, _⟩ | ⟨_, t, x, h, _⟩
  · exact absurd h h0
  · exact ⟨t, x, h⟩
theorem in64_two : In64 [1, -1] := by
  intro i hi
  rcases i with _ | _ | i
  · unfold I64; decide
  · unfold I64; decide
  · simp at hi; omega
theorem sm_one (w : World) : Sm w (.agg #[.int .i64 1, .slice none 0 0]) 1 [] :=
  ⟨_, rfl, ⟨none, 0, rfl, ⟨Nat.le_refl _, fun _ => rfl⟩, fun i hi => absurd hi (Nat.not_lt_zero _)⟩, by unfold I64; omega, fun i hi => absurd hi (Nat.not_lt_zero _), by simp⟩
set_option maxHeartbeats 4000000 in
theorem known_true {w : World} (hg : Glob w) :
    Calls Tryd.prog 7 #[] w fun r w' => r = .returned (.bool true) ∧ Up w w' := by
  have HG := hid (fun w' (hu : Up w w') => hg.up hu)
  have HA1 := hid (fun (v : Value) (w : World) (h : Sm w v 2 [3, -3, 3]) => k_at1.1 ▸ k_at1.2 ▸ at_any 1 0 h)
  have HA2 := hid (fun (v : Value) (w : World) (h : Sm w v 2 [3, -3, 3]) => k_at2.1 ▸ k_at2.2 ▸ at_any 2 0 h)
  have HR1 := hid (fun (v : Value) (w : World) (h : Sm w v 2 [3, -3, 3]) => k_rt.1 ▸ sright_any h)
  have HR2 := hid (fun (w : World) => k_rt.2 ▸ sright_any (sm_one w))
  clear hg
  go_enter Tryd.func7, Tryd.ntmps7
  go_wp2_with (first
    | ((with_reducible apply ldM_P); exact rfl; exact rfl; (first | exact hb3 | exact hb4 | exact hb8); exact rfl)
    | ((with_reducible apply stM_P); exact rfl; exact rfl; exact hb2; exact rfl; exact rfl; exact two2 _ _ _ _ _)
    | (go_at_call 18; (with_reducible refine (new_any 2 _).mono ?_); rintro r w1 ⟨z1, rfl, hu1, hs1⟩; rw [show nw 2 = 2 from by decide] at hs1)
    | (go_at_call 22; (with_reducible refine (outer_any 3 (Sm.up (Up.alloc _ _) hs1) (Vw.two w1 1 (-1)) (by unfold I64; decide) in64_two (by decide)).mono ?_); rintro r w2 ⟨z2, u2, rfl, hu2, hs2, he2⟩; rw [k_ou.1] at he2; rw [k_ou.2.1, k_ou.2.2] at hs2; obtain rfl := he2.zero; obtain ⟨s2, rfl, hv2, hr2⟩ := hs2.sm; have hv2' := hv2; obtain ⟨p2, c2, rfl, _⟩ := hv2'; replace hv2 : Vw w2 (.slice p2 3 c2) [3, -3, 3] := hv2; have hb2 := Blk.new (w := w2) (b := w2.heap.size) 24 #[.int .i64 0, .slice none 0 0] rfl; have hX := below_setRow (Up.alloc w2 (.cells #[.int .i64 0, .slice none 0 0] 24)) (Nat.le_refl _) #[.int .i64 2, .slice p2 3 c2]; have hb3 := hb2.setRow #[.int .i64 2, .slice p2 3 c2]; have hs3 : Sm _ (.agg #[.int .i64 2, .slice p2 3 c2]) 2 [3, -3, 3] := ⟨_, rfl, hv2.up hX, hr2⟩; have hU3 := ((hu1.trans (Up.alloc _ _)).trans hu2).trans hX)
    | (go_at_call 12; first
        | ((with_reducible refine (HA1.out _ _ hs3).mono ?_); rintro r w4 ⟨u4, rfl, hu4, he4⟩; obtain rfl := he4.zero; have hs4 := hs3.up hu4; have hb4 := hb3.up hu4; have hU4 := hU3.trans hu4)
        | ((with_reducible refine (HA2.out _ _ hs4).mono ?_); rintro r w5 ⟨u5, rfl, hu5, he5⟩; obtain ⟨t5, x5, rfl⟩ := he5.some2 (by decide); have hs5 := hs4.up hu5; have hb5 := hb4.up hu5; have hU5 := hU4.trans hu5))
    | (go_at_call 15; (with_reducible refine (says_any he5 (HG.out _ hU5)).mono ?_); rintro r w6 ⟨rfl, hu6⟩; have hs6 := hs5.up hu6; have hb6 := hb5.up hu6; have hc61 := hb6.cell 1 rfl; have hU6 := hU5.trans hu6; have hv6 := (hv2.up hX).up ((hu4.trans hu5).trans hu6))
    | (go_at_call 33; (with_reducible refine (ints_eq (Vw.up (Up.alloc _ _) hv6) (vw_three w6 3 (-3) 3) (by decide)).mono ?_); rintro r w7 ⟨rfl, hu7⟩; have hs8 := (hs6.up (Up.alloc _ _)).up hu7; have hb8 := (hb6.up (Up.alloc _ _)).up hu7; have hU8 := (hU6.trans (Up.alloc _ _)).trans hu7)
    | (go_at_call 10; first
        | ((with_reducible refine (HR1.out _ _ hs8).mono ?_); rintro r w9 ⟨rfl, hu9⟩)
        | ((with_reducible refine (HR2.out _).mono ?_); rintro r wA ⟨rfl, huA⟩)))
  go_ret
  exact ⟨rfl, (hU8.trans hu9).trans huA⟩
end Go.Proofs.YtdcpoamjmoceiaaDoor
/-
  leadlineseat.Sym: it tells a matrix that is right.
-/
namespace Go.Proofs.YtdcpoamjmoceiaaDoor
open Go Go.RowKit
set_option maxRecDepth 100000
set_option maxRecDepth 100000

/-- The value v is a slice of the small numbers l, in world w. -/
def Vh (w : World) (v : Value) (l : List Int) : Prop :=
  ∃ p cap, v = .slice p l.length cap ∧ ∀ i, i < l.length → ∃ a, p = some a ∧ w.cell? (a.add i) = some (.int .i16 (zth l i))
def In16 (l : List Int) : Prop := ∀ i, i < l.length → -32768 ≤ zth l i ∧ zth l i < 32768
theorem rt_zero : rt 0 [] = true := by decide
theorem rt_of {N : Int} {l l' : List Int} (h : rt N l = true) (hl : l'.length = l.length) (hf : l'.all fit = true) : rt N l' = true := by
  obtain ⟨h1, h2, h3, _⟩ := rt_spec h
  rw [rt_yes ⟨h1, h2, by rw [hl]; exact h3⟩]
  exact hf
theorem di_rt (N : Int) (l : List Int) (x : Int) : rt (diN N l x) (diR N l x) = true := by
  unfold diN diR
  by_cases h : diC N l x = 0
  · rw [if_pos h, if_pos h]
    unfold diC at h
    cases hr : rt N l with
    | false => rw [hr] at h; simp at h
    | true =>
      rw [hr] at h
      cases hf : (diL N.toNat l x).all fit with
      | false => rw [hf] at h; simp at h
      | true => exact rt_of hr (diL_len _ _ _) hf
  · rw [if_neg h, if_neg h]; exact rt_zero
theorem ou_rt (N : Int) (l : List Int) (x : Int) (h : List Int) : rt (ouN N l x h) (ouR N l x h) = true := by
  unfold ouN ouR
  by_cases h0 : ouC N l x h = 0
  · rw [if_pos h0, if_pos h0]
    unfold ouC at h0
    cases hr : rt N l with
    | false => rw [hr] at h0; simp at h0
    | true =>
      rw [hr, Bool.true_and] at h0
      split at h0
      · cases hf : (ouL N.toNat l x h).all fit with
        | false => rw [hf] at h0; simp at h0
        | true => exact rt_of hr (ouL_len _ _ _ _) hf
      · simp at h0
  · rw [if_neg h0, if_neg h0]; exact rt_zero
theorem vw_one (w : World) (a : Int) : Vw (w.alloc (.cells #[.int .i64 a] 2)) (.slice (some ⟨w.heap.size, 0, none⟩) 1 1) [a] := by
  refine ⟨_, 1, rfl, ⟨Nat.le_refl _, fun e => by cases e⟩, fun i hi => ⟨_, rfl, ?_⟩⟩
  rcases i with _ | i
  · simp [zth, Addr.add]
  · simp at hi
theorem In64.snoc {l : List Int} (h : In64 l) {z : Int} (hz : I64 z) : In64 (l ++ [z]) := by
  intro i hi
  rcases Nat.lt_or_ge i l.length with h1 | h1
  · have e : zth (l ++ [z]) i = zth l i := by rw [zth_get hi, List.getElem_append_left h1, ← zth_get h1]
    rw [e]; exact h i h1
  · have e : zth (l ++ [z]) i = z := by
      rw [zth_get hi, List.getElem_append_right h1]
      simp
    rw [e]; exact hz
def SeatPost (w : World) (r : Ending) (w' : World) : Prop := ∃ z N L, r = .returned z ∧ Up w w' ∧ SmO w' z N L ∧ rt N L = true
/-- The variable in block b holds a matrix that is right. -/
def MInv (b : Nat) (w : World) : Prop := ∃ N s L, Blk w b 24 #[.int .i64 N, s] ∧ SmO w (.agg #[.int .i64 N, s]) N L ∧ rt N L = true
set_option maxHeartbeats 8000000 in
theorem seat_any {v : Value} {hs : List Int} (n d : Nat) {w : World} (_ : n < 256) (_ : d < 65536) (hv : Vh w v hs) (h16 : In16 hs) (h60 : hs.length ≤ 60) :
    Calls Tryd.prog 9 #[.int .u8 (n : Nat), .int .u16 (d : Nat), v] w (SeatPost w) := by
  obtain ⟨k, hk⟩ : ∃ r, n % 7 = r := ⟨_, rfl⟩
  obtain ⟨dd, hdd⟩ : ∃ r, d % 5000 = r := ⟨_, rfl⟩
  have rk : (n : Int).tmod 7 = (k : Nat) := by rw [show (7 : Int) = ((7 : Nat) : Int) from rfl, ← Int.ofNat_tmod, hk]
  have rd : (d : Int).tmod 5000 = (dd : Nat) := by rw [show (5000 : Int) = ((5000 : Nat) : Int) from rfl, ← Int.ofNat_tmod, hdd]
  have lk : k < 7 := by omega
  have ld : dd < 5000 := by omega
  have ek : IntKind.i64.wrap (k : Int) = (k : Nat) := IntWalk.i64_in _ (by omega)
  have ed : IntKind.i64.wrap (dd : Int) = (dd : Nat) := IntWalk.i64_in _ (by omega)
  have Hhv := hid hv
  have H16 := hid h16
  obtain ⟨p, cap, rfl, hc⟩ := hv
  have HC := hid (fun w' (hu : Up w w') (i : Nat) (hi : i < hs.length) => (show ∃ a, p = some a ∧ w'.cell? (a.add i) = some (.int .i16 (zth hs i)) from by obtain ⟨a, h1, h2⟩ := hc i hi; exact ⟨a, h1, hu.cellEq h2⟩))
  clear hk hdd hc h16
  obtain ⟨W0, hW0⟩ : ∃ W0, w.alloc (.cells #[.int .i64 0, .slice none 0 0] 24) = W0 := ⟨_, rfl⟩
  have hQ : Blk W0 w.heap.size 24 #[.int .i64 0, .slice none 0 0] := by rw [← hW0]; exact Blk.new _ _ rfl
  have hU : Up w W0 := by rw [← hW0]; exact Up.alloc _ _
  go_enter Tryd.func9, Tryd.ntmps9
  go_wp2_with (first
    | (go_at_call 19; (with_reducible refine (rnew_any (k : Int) _).mono ?_); rintro r w1 ⟨z1, rfl, hu1, hs1⟩)
    | (go_at_call 34; (with_reducible refine (rdiag_any (dd : Int) hs1 (by unfold I64; omega)).mono ?_); rintro r w2 ⟨z2, rfl, hu2, hs2⟩; have hrt2 := di_rt (nw k) (zeros (nw k)) dd; obtain ⟨s2, base2, rfl, hO2, hr2⟩ := hs2; obtain ⟨p2, n2, c2, rfl⟩ := OwnI.slice hO2)
    | ((with_reducible apply stM_P); exact rfl; exact rfl; exact Blk.new _ _ rfl; exact rfl; exact rfl; exact two2 _ _ _ _ _))
  obtain ⟨N2, hN2⟩ : ∃ N2, diN (nw k) (zeros (nw k)) dd = N2 := ⟨_, rfl⟩
  obtain ⟨L2, hL2⟩ : ∃ L2, diR (nw k) (zeros (nw k)) dd = L2 := ⟨_, rfl⟩
  obtain ⟨C2, hC2⟩ : ∃ C2, diC (nw k) (zeros (nw k)) dd = C2 := ⟨_, rfl⟩
  rw [hN2, hL2] at hrt2
  rw [hL2] at hO2
  rw [hN2, hL2] at hr2
  rw [hN2, hC2]
  clear hN2 hL2 hC2 hs1
  have hbn := Blk.new (w := w2) (b := w2.heap.size) 24 #[.int .i64 0, .slice none 0 0] rfl
  have hsm2 : SmO (w2.alloc (.cells #[.int .i64 0, .slice none 0 0] 24)) (.agg #[.int .i64 N2, .slice p2 n2 c2]) N2 L2 := ⟨_, base2, rfl, OwnI.up (Up.alloc _ _) hO2, hr2⟩
  have hux := hu1.trans hu2
  obtain ⟨b8, hb8⟩ : ∃ b, w2.heap.size = b := ⟨_, rfl⟩
  have hb8l : w.heap.size < b8 := by rw [← hb8]; exact Nat.lt_of_lt_of_le hQ.lt hux.size
  rw [hb8] at hbn
  refine wp_folded (fun wd => MInv b8 wd ∧ Blk wd w.heap.size 24 #[.int .i64 0, .slice none 0 0] ∧ Up w wd) ⟨⟨N2, _, L2, by rw [hb8]; exact hbn.setRow _, by rw [hb8]; exact hsm2.setRow hbn, hrt2⟩, by rw [hb8]; exact Blk.row_other ((hQ.up hux).old _) _ (by omega), by rw [hb8]; exact below_setRow ((hU.trans hux).trans (Up.alloc _ _)) (by omega) _⟩ (fun w3 hD => ?_)
  obtain ⟨hM, hQ3, hU3⟩ := hD
  rw [hb8]
  clear hbn hsm2 hux hb8 hO2 hr2 hrt2 hu1 hu2 hQ hU hW0 rk rd ed ld
  go_loopg [10] hs.length (fun g ti wr => ∃ i : Nat, i ≤ 60 ∧ hs.length - i ≤ g ∧ ti = .int .i64 (i : Nat) ∧ MInv b8 wr ∧ Blk wr w.heap.size 24 #[.int .i64 0, .slice none 0 0] ∧ Up w wr)
  case atStart => exact ⟨0, by omega, by omega, rfl, hM, hQ3, hU3⟩
  case round =>
    clear hM hQ3 hU3
    obtain ⟨i, hi, hig, rfl, ⟨N, s, L, hB, hS, hrt⟩, hQ, hU⟩ := hrel
    by_cases hbody : i + k ≤ hs.length ∧ 0 < k ∧ i < 4 * k
    · obtain ⟨g1, g2, g3⟩ := hbody
      have d1 : decide ((i : Int) + (k : Int) ≤ (hs.length : Int)) = true := decide_eq_true (by omega)
      have d2 : decide ((0 : Int) < (k : Int)) = true := decide_eq_true (by omega)
      have d3 : decide ((i : Int) < 4 * (k : Int)) = true := decide_eq_true (by omega)
      go_wp2_with fail
      obtain ⟨wS, rfl⟩ : ∃ x, x = wr := ⟨_, rfl⟩
      go_loopg [11, 12] k (fun g th tj wj => ∃ (j : Nat) (H : List Int), j ≤ k ∧ k - j ≤ g ∧ tj = .int .i64 (j : Nat) ∧ OwnI wj wS.heap.size th H ∧ H.length = j ∧ In64 H ∧ Up wS wj)
      case atStart => exact ⟨0, [], by omega, by omega, rfl, OwnI.nil _ _, rfl, fun i hi => absurd hi (Nat.not_lt_zero _), Up.refl _⟩
      case round =>
        obtain ⟨j, H, hj, hjg, rfl, hO, hH, hH64, hu⟩ := hrel
        have hsz := hu.size
        have HH := hid hH
        have HH64 := hid hH64
        clear hH hH64
        by_cases hlt : j < k
        · have hij : i + j < hs.length := by omega
          obtain ⟨a1, rfl, hc1⟩ := HC.out _ (hU.trans hu) (i + j) hij
          obtain ⟨q, hq⟩ : ∃ q, (zth hs (i + j)).tmod 200 = q := ⟨_, rfl⟩
          have hz := H16.out (i + j) hij
          have hq1 : -200 < q ∧ q < 200 := by rw [← hq]; have := Int.tmod_lt_of_pos (zth hs (i + j)) (show (0 : Int) < 200 by decide); have := Int.lt_tmod_of_pos (zth hs (i + j)) (show (0 : Int) < 200 by decide); omega
          have eq1 : IntKind.i64.wrap q = q := IntWalk.i64_in _ (by omega)
          have hT : ((i : Int) + (j : Int)).toNat = i + j := by omega
          have hT0 : (0 : Int) ≤ (i : Int) + (j : Int) := by omega
          have HQ1 := hid hq1
          generalize zth hs (i + j) = zz at *
          clear hq1
          go_wp2_with (first
            | ((with_reducible apply appV); exact rfl; exact rfl; exact OwnI.up (Up.alloc _ _) hO; exact vw_one _ _; (focus (simp; omega)); (focus (rw [HH.out]; omega)); (focus (simp; done)); rintro v' w' h1 h2; have hu9 : Up wS w' := Below.trans (hu.trans (Up.alloc _ _)) h2))
          go_roundg (k - (j + 1))
          case measure => omega
          case rel => exact ⟨j + 1, H ++ [q], by omega, Nat.le_refl _, rfl, h1, by rw [List.length_append, HH.out]; rfl, In64.snoc HH64.out (by have := HQ1.out; unfold I64; omega), hu9⟩
        · obtain rfl : j = k := by omega
          obtain ⟨r3, hr3⟩ : ∃ r, i % 3 = r := ⟨_, rfl⟩
          have er3 : (i : Int).tmod 3 = (r3 : Nat) := by rw [show (3 : Int) = ((3 : Nat) : Int) from rfl, ← Int.ofNat_tmod, hr3]
          have lr3 : r3 < 3 := by omega
          obtain ⟨x3, hx3⟩ : ∃ x : Int, 1 + (r3 : Int) = x := ⟨_, rfl⟩
          have HX3 : Hid (I64 x3) := hid (by unfold I64; omega)
          obtain ⟨ps, ns, cs, rfl⟩ : ∃ p n c, s = .slice p n c := by
            obtain ⟨s', base', e1, e2, _⟩ := hS
            obtain ⟨p', n', c', rfl⟩ := OwnI.slice e2
            injection e1 with e1
            simp at e1
            exact ⟨_, _, _, e1⟩
          have hB9 := hB.up hu
          have hS9 := hS.up hu
          have hQ9 := hQ.up hu
          have hU9 := hU.trans hu
          have HOU := hid (router_any x3 hS9.sm hO.vw HX3.out HH64.out (by rw [HH.out]; omega))
          have HRT := hid (ou_rt N L x3 H)
          clear hr3 hO hB hS hQ hU hu
          obtain ⟨CX, hCX⟩ : ∃ x, ouC N L x3 H = x := ⟨_, rfl⟩
          rw [hCX] at HOU
          obtain ⟨NX, hNX⟩ : ∃ x, ouN N L x3 H = x := ⟨_, rfl⟩
          obtain ⟨LX, hLX⟩ : ∃ x, ouR N L x3 H = x := ⟨_, rfl⟩
          rw [hNX, hLX] at HOU HRT
          clear hCX hNX hLX
          by_cases hcx : CX = 0
          · subst hcx
            go_wp2_with (first
              | ((with_reducible apply ldM_P); exact rfl; exact rfl; (first | exact hb13 | exact hB9); exact rfl)
              | (go_at_call 35; (with_reducible refine (HOU.out).mono ?_); rintro r w5 ⟨z5, rfl, hu5, hs5⟩; have hs5' := hs5; obtain ⟨s5, base5, rfl, hO5, hr5⟩ := hs5'; obtain ⟨p5, n5, c5, rfl⟩ := OwnI.slice hO5; have hbn5 := Blk.new (w := w5) (b := w5.heap.size) 24 #[.int .i64 0, .slice none 0 0] rfl; have hb13 := hbn5.setRow #[.int .i64 NX, .slice p5 n5 c5]; have hB5 := Blk.row_other ((hB9.up hu5).old (.cells #[.int .i64 0, .slice none 0 0] 24)) #[.int .i64 NX, .slice p5 n5 c5] (Nat.ne_of_lt (hB9.up hu5).lt); have hQ5 := Blk.row_other ((hQ9.up hu5).old (.cells #[.int .i64 0, .slice none 0 0] 24)) #[.int .i64 NX, .slice p5 n5 c5] (Nat.ne_of_lt (hQ9.up hu5).lt); have hsm5 := SmO.setRow (D := #[.int .i64 NX, .slice p5 n5 c5]) (SmO.up (Up.alloc w5 (.cells #[.int .i64 0, .slice none 0 0] 24)) hs5) hbn5; have hU5 := below_setRow (((hU9.trans hu5).trans (Up.alloc w5 (.cells #[.int .i64 0, .slice none 0 0] 24)))) (hU9.trans hu5).size #[.int .i64 NX, .slice p5 n5 c5])
              | ((with_reducible apply stM_P); exact rfl; exact rfl; (first | exact hbn5 | exact hB5); exact rfl; exact rfl; exact two2 _ _ _ _ _))
            go_roundg (hs.length - (i + j))
            case measure => omega
            case rel => exact ⟨i + j, by omega, Nat.le_refl _, rfl, ⟨NX, _, LX, hB5.setRow _, hsm5.setRow hB5, HRT.out⟩, Blk.row_other hQ5 _ (by omega), below_setRow hU5 (by omega) _⟩
          · have hcx' : (CX == 0) = false := by simpa using hcx
            go_wp2_with (first
              | ((with_reducible apply ldM_P); exact rfl; exact rfl; exact hB9; exact rfl)
              | (go_at_call 35; (with_reducible refine (HOU.out).mono ?_); rintro r w5 ⟨z5, rfl, hu5, hs5⟩; have hs5' := hs5; obtain ⟨s5, base5, rfl, hO5, hr5⟩ := hs5'; obtain ⟨p5, n5, c5, rfl⟩ := OwnI.slice hO5; have hbn5 := Blk.new (w := w5) (b := w5.heap.size) 24 #[.int .i64 0, .slice none 0 0] rfl; have hB5 := Blk.row_other ((hB9.up hu5).old (.cells #[.int .i64 0, .slice none 0 0] 24)) #[.int .i64 NX, .slice p5 n5 c5] (Nat.ne_of_lt (hB9.up hu5).lt); have hQ5 := Blk.row_other ((hQ9.up hu5).old (.cells #[.int .i64 0, .slice none 0 0] 24)) #[.int .i64 NX, .slice p5 n5 c5] (Nat.ne_of_lt (hQ9.up hu5).lt); have hsm5 := SmO.setRow (D := #[.int .i64 NX, .slice p5 n5 c5]) (SmO.up ((hu5.trans (Up.alloc w5 (.cells #[.int .i64 0, .slice none 0 0] 24)))) hS9) hbn5; have hU5 := below_setRow (((hU9.trans hu5).trans (Up.alloc w5 (.cells #[.int .i64 0, .slice none 0 0] 24)))) (hU9.trans hu5).size #[.int .i64 NX, .slice p5 n5 c5])
              | ((with_reducible apply stM_P); exact rfl; exact rfl; exact hbn5; exact rfl; exact rfl; exact two2 _ _ _ _ _))
            go_roundg (hs.length - (i + j))
            case measure => omega
            case rel => exact ⟨i + j, by omega, Nat.le_refl _, rfl, ⟨N, _, L, hB5, hsm5, hrt⟩, hQ5, hU5⟩
    · obtain ⟨s', base', e1, e2, e3⟩ := hS
      have e1' := e1
      obtain ⟨ps, ns, cs, rfl⟩ := OwnI.slice e2
      injection e1 with e1
      obtain rfl : s = .slice ps ns cs := by simpa using e1
      have hFO : SmO (wr.setRow w.heap.size #[.int .i64 N, .slice ps ns cs]) (.agg #[.int .i64 N, .slice ps ns cs]) N L := SmO.setRow ⟨_, base', rfl, e2, e3⟩ hQ
      have HFO := hid hFO
      clear e1 e2 e3 e1' hFO
      by_cases c1 : i + k ≤ hs.length
      · by_cases c2 : 0 < k
        · have c3 : ¬ i < 4 * k := fun h => hbody ⟨c1, c2, h⟩
          have d3 : decide ((i : Int) < 4 * (k : Int)) = false := decide_eq_false (by omega)
          clear hbody
          go_wp2_with (first
            | ((with_reducible apply ldM_P); exact rfl; exact rfl; exact hB; exact rfl)
            | ((with_reducible apply stM_P); exact rfl; exact rfl; exact hQ; exact rfl; exact rfl; exact two2 _ _ _ _ _))
          exact bodyPost_ret (resM rfl rfl (hQ.setRow _) rfl) rfl ⟨_, N, L, rfl, below_setRow hU (Nat.le_refl _) _, HFO.out, hrt⟩
        · clear hbody
          go_wp2_with (first
            | ((with_reducible apply ldM_P); exact rfl; exact rfl; exact hB; exact rfl)
            | ((with_reducible apply stM_P); exact rfl; exact rfl; exact hQ; exact rfl; exact rfl; exact two2 _ _ _ _ _))
          exact bodyPost_ret (resM rfl rfl (hQ.setRow _) rfl) rfl ⟨_, N, L, rfl, below_setRow hU (Nat.le_refl _) _, HFO.out, hrt⟩
      · clear hbody
        go_wp2_with (first
          | ((with_reducible apply ldM_P); exact rfl; exact rfl; exact hB; exact rfl)
          | ((with_reducible apply stM_P); exact rfl; exact rfl; exact hQ; exact rfl; exact rfl; exact two2 _ _ _ _ _))
        exact bodyPost_ret (resM rfl rfl (hQ.setRow _) rfl) rfl ⟨_, N, L, rfl, below_setRow hU (Nat.le_refl _) _, HFO.out, hrt⟩
end Go.Proofs.YtdcpoamjmoceiaaDoor
/-
  SymTells: each entry, either way round, what is set, what may not be.
-/
namespace Go.Proofs.YtdcpoamjmoceiaaDoor
open Go Go.RowKit
set_option maxRecDepth 100000
set_option maxRecDepth 100000

theorem stC_zero (N : Int) (l : List Int) (i j : Int) : stC N l i j 0 = atC N l i j := by
  unfold stC atC
  rw [show fit 0 = true from by decide]
  cases rt N l <;> cases rng N i j <;> rfl
theorem atC_zero {N : Int} {l : List Int} {i j : Int} (h : atC N l i j = 0) : rt N l = true ∧ rng N i j = true := by
  unfold atC at h
  cases h1 : rt N l <;> cases h2 : rng N i j <;> rw [h1] at h <;> (try rw [h2] at h) <;> first | exact ⟨rfl, rfl⟩ | (simp at h)
theorem atV_zero {N : Int} {l : List Int} {i j : Int} (h : atC N l i j ≠ 0) : atV N l i j = 0 := by unfold atV; rw [if_neg h]
theorem stN_zero {N : Int} {l : List Int} {i j x : Int} (h : stC N l i j x = 0) : stN N l i j x = N := by unfold stN; rw [if_pos h]
def MV (w : World) (v : Value) : Prop := ∃ N L, SmO w v N L
theorem MV.up {w w' : World} (hu : Up w w') {v : Value} (h : MV w v) : MV w' v := by obtain ⟨N, L, h⟩ := h; exact ⟨N, L, h.up hu⟩
/-- Two matrices, the first one given, in a list. -/
def Pair (a0 : Int) (s0 : Value) (w : World) (v : Value) : Prop :=
  ∃ g N1 s1 L1, v = .slice (some ⟨g, 0, none⟩) 2 2 ∧ Blk w g 24 #[.int .i64 a0, s0, .int .i64 N1, s1] ∧ SmO w (.agg #[.int .i64 N1, s1]) N1 L1
theorem Pair.up {a0 : Int} {s0 : Value} {w w' : World} (hu : Up w w') {v : Value} (h : Pair a0 s0 w v) : Pair a0 s0 w' v := by
  obtain ⟨g, N1, s1, L1, h1, h2, h3⟩ := h
  exact ⟨g, N1, s1, L1, h1, h2.up hu, h3.up hu⟩
set_option maxHeartbeats 8000000 in
theorem tells_w {w : World} {a0 : Int} {p0 : Option Addr} {len0 cap0 : Nat} {l : List Int} {vh : Value} {hs : List Int} (n d : Nat) (i j x : Int) (hg : Glob w) (hraw : Vw w (.slice p0 len0 cap0) l) (ha0 : I64 a0) (hl : In64 l)
    (hn : n < 256) (hd : d < 65536) (hvh : Vh w vh hs) (h16 : In16 hs) (hx : I64 x) :
    Calls Tryd.prog 3 #[.agg #[.int .i64 a0, .slice p0 len0 cap0], .int .u8 (n : Nat), .int .u16 (d : Nat), vh, .int .i64 i, .int .i64 j, .int .i64 x] w fun r w' => r = .returned (.bool true) ∧ Up w w' := by
  have HK := hid (fun w' (hu : Up w w') => known_true (hg.up hu))
  have HG := hid (fun w' (hu : Up w w') => hg.up hu)
  have hlen : len0 = l.length := by
    obtain ⟨p, c, e, _⟩ := hraw
    injection e
  obtain ⟨ph, ch, rfl, hhc⟩ := hvh
  obtain ⟨W0, hW0⟩ : ∃ W0, w.alloc (.cells #[.int .i64 a0, .slice p0 len0 cap0] 24) = W0 := ⟨_, rfl⟩
  have hB : Blk W0 w.heap.size 24 #[.int .i64 a0, .slice p0 len0 cap0] := by rw [← hW0]; exact Blk.new _ _ rfl
  have hU : Up w W0 := by rw [← hW0]; exact Up.alloc _ _
  have HLI := hid (fun w => light_any (N := a0) (s := .slice p0 len0 cap0) w rfl)
  by_cases hA : len0 ≤ 60
  · rw [decide_eq_true hA] at HLI
    by_cases hC : hs.length ≤ 60
    · have hSm : Sm w (.agg #[.int .i64 a0, .slice p0 len0 cap0]) a0 l := ⟨_, rfl, hraw, ha0, hl, by omega⟩
      have HSm := hid hSm
      have HST := hid (fun w' (hu : Up w w') => seat_any n d hn hd (show Vh w' (.slice ph hs.length ch) hs from ⟨ph, ch, rfl, fun i hi => by obtain ⟨a, h1, h2⟩ := hhc i hi; exact ⟨a, h1, hu.cellEq h2⟩⟩) h16 hC)
      have HX := hid hx
      have d60 : decide ((60 : Int) < (hs.length : Int)) = false := decide_eq_false (by omega)
      clear hraw ha0 hl hhc h16 hg hlen hSm hx hn hd
      go_enter Tryd.func3, Tryd.ntmps3
      go_wp2_with (first
        | ((with_reducible apply ldM_P); exact rfl; exact rfl; exact hB; exact rfl)
        | (go_at_call 7; (with_reducible refine (HK.out _ hU).mono ?_); rintro r w1 ⟨rfl, hu1⟩; replace hB := hB.up hu1; replace hU := hU.trans hu1)
        | (go_at_call 8; (with_reducible refine (HLI.out _).mono ?_); rintro r w2 ⟨rfl, hu2⟩; replace hB := hB.up hu2; replace hU := hU.trans hu2))
      clear hW0
      refine wp_region_sp (n := 171) 8 [37, 38, 39, 40, 41, 42, 43, 44] [SP.is (.agg #[.int .i64 a0, .slice p0 len0 cap0]), SP.is (.int .u8 (n : Nat)), SP.is (.int .u16 (d : Nat)), SP.is (.slice ph hs.length ch), SP.of (fun v w1 => MV w1 v) (fun _ _ _ h hu => h.up hu), SP.of (fun v w1 => Pair a0 (.slice p0 len0 cap0) w1 v) (fun _ _ _ h hu => h.up hu), SP.is (.int .i64 2), SP.is (.int .i64 0)] (fun wq => Blk wq w.heap.size 24 #[.int .i64 a0, .slice p0 len0 cap0] ∧ Up w wq ∧ Below w.heap.size w wq) (by kernel_rfl) (by rfl) (by kernel_rfl) (by kernel_rfl) (fun _ _ h hu => ⟨(h.1).up hu, (h.2.1).trans hu, below_up (h.2.2) hu⟩) ⟨(by first | assumption | ((repeat (first | assumption | ((with_reducible apply blk_new); (focus (first | rfl | (simp; done)))) | (with_reducible apply blk_alloc) | (with_reducible apply blk_drew) | (with_reducible apply blk_drewN) | ((with_reducible apply blk_up); assumption) | (with_reducible apply blk_same) | ((with_reducible apply blk_else); (focus (first | (simp; done) | (simp; omega) | omega))))))), (by first | exact Up.refl _ | assumption), (by repeat (first | assumption | (with_reducible apply Up.of) | (with_reducible exact Below.refl _ _) | (with_reducible exact Up.refl _) | ((with_reducible apply bl_setRow); (focus (first | exact Nat.le_refl _ | (simp; done) | (simp; omega) | omega))) | (with_reducible apply below_drewN) | (with_reducible apply Below.drew) | ((with_reducible apply bl_alloc); (focus (first | exact Nat.le_refl _ | (simp; done) | (simp; omega) | omega))) | ((with_reducible apply bl_setCell); (focus (first | exact Nat.le_refl _ | (simp; done) | (simp; omega) | omega))) | ((with_reducible apply up_tr); assumption)))⟩ (fun ev w9 hS9 i o hne hi hev => ?_) (fun gR wE hq hSE huE => ?_)
      · have ⟨hS1, hS2, hSB⟩ := hS9
        have hcC := hev.const
        have hcF := hev.func
        have hcG := hev.global
        rcases i with _ | _ | _ | _ | _ | _ | _ | _ | i
        · obtain rfl := Option.some.inj (show some _ = some o from hi)
          have e7 := hev.other 7 (by kernel_rfl)
          simp [Act.eval] at e7
          exact leavesR_value (run_ldME rfl e7 hS1 rfl) rfl
        · obtain rfl := Option.some.inj (show some _ = some o from hi)
          have e1 := hev.other 1 (by kernel_rfl)
          simp [Act.eval] at e1
          exact leavesR_value (u := .int .u8 (n : Nat)) (by first | (go_simp; done) | (go_simp; exact rfl)) rfl
        · obtain rfl := Option.some.inj (show some _ = some o from hi)
          have e2 := hev.other 2 (by kernel_rfl)
          simp [Act.eval] at e2
          exact leavesR_value (u := .int .u16 (d : Nat)) (by first | (go_simp; done) | (go_simp; exact rfl)) rfl
        · obtain rfl := Option.some.inj (show some _ = some o from hi)
          have e3 := hev.other 3 (by kernel_rfl)
          simp [Act.eval] at e3
          exact leavesR_value (u := .slice ph hs.length ch) (by first | (go_simp; done) | (go_simp; exact rfl)) rfl
        · obtain rfl := Option.some.inj (show some _ = some o from hi)
          have e38 : ev (.tmp 38) = (.int .u8 (n : Nat)) := hev.dep 1 38 (by kernel_rfl)
          have e39 : ev (.tmp 39) = (.int .u16 (d : Nat)) := hev.dep 2 39 (by kernel_rfl)
          have e40 : ev (.tmp 40) = (.slice ph hs.length ch) := hev.dep 3 40 (by kernel_rfl)
          refine leavesR_call ?_ ((HST.out _ hS2).mono fun _ _ h => by obtain ⟨z, N, L, e, hu, hs, _⟩ := h; exact ⟨hu, z, e, N, L, hs⟩)
          go_simp
        · obtain rfl := Option.some.inj (show some _ = some o from hi)
          have e37 : ev (.tmp 37) = (.agg #[.int .i64 a0, .slice p0 len0 cap0]) := hev.dep 0 37 (by kernel_rfl)
          have e41 : (fun v w1 => MV w1 v) (ev (.tmp 41)) w9 := hev.dep 4 41 (by kernel_rfl)
          dsimp only at e41
          obtain ⟨v41, hv41⟩ : ∃ v, ev (.tmp 41) = v := ⟨_, rfl⟩
          rw [hv41] at e41
          obtain ⟨N1, L1, hM⟩ := e41; obtain ⟨s1, base1, rfl, hO1, hr1⟩ := hM; obtain ⟨p1, n1, c1, rfl⟩ := OwnI.slice hO1; exact leavesR_up (u := .slice (some ⟨w9.heap.size, 0, none⟩) 2 2) (w' := w9.alloc (.cells #[.int .i64 a0, .slice p0 len0 cap0, .int .i64 N1, .slice p1 n1 c1] 24)) (by go_simp) (Up.alloc _ _) ⟨_, N1, _, L1, rfl, Blk.new _ _ rfl, _, base1, rfl, OwnI.up (Up.alloc _ _) hO1, hr1⟩
        · obtain rfl := Option.some.inj (show some _ = some o from hi)
          have e42 : (fun v w1 => Pair a0 (.slice p0 len0 cap0) w1 v) (ev (.tmp 42)) w9 := hev.dep 5 42 (by kernel_rfl)
          dsimp only at e42
          obtain ⟨v42, hv42⟩ : ∃ v, ev (.tmp 42) = v := ⟨_, rfl⟩
          rw [hv42] at e42
          obtain ⟨g1, N1, s1, L1, rfl, -, -⟩ := e42; exact leavesR_value (u := .int .i64 2) (by go_simp) rfl
        · obtain rfl := Option.some.inj (show some _ = some o from hi)
          exact leavesR_value (u := .int .i64 0) (by first | (go_simp; done) | (go_simp; exact rfl)) rfl
        · exact absurd (show i + 8 < 8 from (Array.getElem?_eq_some_iff.1 hi).1) (by omega)
      have ⟨hS1, hS2, hSB⟩ := hSE
      have q0 : gR 37 = (.agg #[.int .i64 a0, .slice p0 len0 cap0]) := hq 0 37 (by decide) (by kernel_rfl)
      have q1 : gR 38 = (.int .u8 (n : Nat)) := hq 1 38 (by decide) (by kernel_rfl)
      have q2 : gR 39 = (.int .u16 (d : Nat)) := hq 2 39 (by decide) (by kernel_rfl)
      have q3 : gR 40 = (.slice ph hs.length ch) := hq 3 40 (by decide) (by kernel_rfl)
      have q4 : (fun v w1 => MV w1 v) (gR 41) wE := hq 4 41 (by decide) (by kernel_rfl)
      dsimp only at q4
      obtain ⟨v41, hv41⟩ : ∃ v, gR 41 = v := ⟨_, rfl⟩
      rw [hv41] at q4
      have q5 : (fun v w1 => Pair a0 (.slice p0 len0 cap0) w1 v) (gR 42) wE := hq 5 42 (by decide) (by kernel_rfl)
      dsimp only at q5
      obtain ⟨v42, hv42⟩ : ∃ v, gR 42 = v := ⟨_, rfl⟩
      rw [hv42] at q5
      have q6 : gR 43 = (.int .i64 2) := hq 6 43 (by decide) (by kernel_rfl)
      have q7 : gR 44 = (.int .i64 0) := hq 7 44 (by decide) (by kernel_rfl)
      refine ⟨fun _ => ?_, fun o ho => by simp at ho⟩
      simp only [putL, List.map_cons, List.map_nil, q0, q1, q2, q3, hv41, hv42, q6, q7, Act.put, List.setIfInBounds_toArray, List.set_cons_zero, List.set_cons_succ]
      clear hq hSE q0 q1 q2 q3 q6 q7
      obtain ⟨g1, N1, s1, L1, rfl, hP, hS1m⟩ := q5
      have hS0m := HSm.out.up hS2
      have HS0 := hid hS0m
      have HS1 := hid hS1m.sm
      have hUE := hS2
      have HP := hid hP
      clear q4 hS1 hS2 hSB huE hB hU hS0m hS1m hP HSm HST HLI
      go_wp2_with fail
      obtain ⟨p1, n1, c1, rfl⟩ : ∃ p n c, s1 = .slice p n c := by
        obtain ⟨s', e1, ⟨p', c', e2, _⟩, _⟩ := HS1.out
        subst e2
        injection e1 with e1
        simp at e1
        exact ⟨_, _, _, e1⟩
      have HMM : Hid (∀ k, k < 2 → ∃ NM pM nM cM LM, (∀ w', Up wE w' → w'.cell? ⟨g1, k * 2, none⟩ = some (.int .i64 NM) ∧ w'.cell? ⟨g1, k * 2 + 1, none⟩ = some (.slice pM nM cM)) ∧ Sm wE (.agg #[.int .i64 NM, .slice pM nM cM]) NM LM) := hid (fun k hk => by
        rcases k with _ | _ | k
        · exact ⟨a0, p0, len0, cap0, l, fun w' hu => ⟨(HP.out.up hu).cell 0 rfl, (HP.out.up hu).cell 1 rfl⟩, HS0.out⟩
        · exact ⟨N1, p1, n1, c1, L1, fun w' hu => ⟨(HP.out.up hu).cell 2 rfl, (HP.out.up hu).cell 3 rfl⟩, HS1.out⟩
        · omega)
      go_loopg [44] 2 (fun g tk wr => ∃ k : Nat, k ≤ 2 ∧ 2 - k ≤ g ∧ tk = .int .i64 (k : Nat) ∧ Up wE wr)
      case atStart => exact ⟨0, by omega, by omega, rfl, Up.refl _⟩
      case round =>
        obtain ⟨k, hk, hkg, rfl, hu⟩ := hrel
        by_cases hlt : k < 2
        · obtain ⟨NM, pM, nM, cM, LM, hcM, hSM⟩ := HMM.out k hlt
          obtain ⟨hcx0, hcx1⟩ := hcM _ hu
          have HSM0 := hid hSM
          have dk : decide ((k : Int) < 2) = true := decide_eq_true (by omega)
          clear hcM hSM
          go_wp2_with (first
            | ((with_reducible apply stM_P); exact rfl; exact rfl; exact Blk.new _ _ rfl; exact rfl; exact rfl; exact two2 _ _ _ _ _))
          have hub := below_setRow (Up.alloc wr (.cells #[.int .i64 0, .slice none 0 0] 24)) (Nat.le_refl _) #[.int .i64 NM, .slice pM nM cM]
          have hbm := (Blk.new (w := wr) (b := wr.heap.size) 24 #[.int .i64 0, .slice none 0 0] rfl).setRow #[.int .i64 NM, .slice pM nM cM]
          have hsm := HSM0.out.up (hu.trans hub)
          have huA := hu.trans hub
          obtain ⟨wA, hwA⟩ : ∃ x, (wr.alloc (.cells #[.int .i64 0, .slice none 0 0] 24)).setRow wr.heap.size #[.int .i64 NM, .slice pM nM cM] = x := ⟨_, rfl⟩
          obtain ⟨bm, hbm9⟩ : ∃ x, wr.heap.size = x := ⟨_, rfl⟩
          rw [hwA] at hbm hsm huA ⊢
          rw [hbm9] at hbm ⊢
          have HBM := hid hbm
          have HSM := hid hsm
          clear hub hwA hbm9 hcx0 hcx1 hu
          obtain ⟨R, hR⟩ : ∃ x, rt NM LM = x := ⟨_, rfl⟩
          have hRR : (R != R) = false := by cases R <;> rfl
          have HA1 := hid (fun w' (hu : Up wA w') => hR ▸ sright_any (hsm.up hu))
          have HA2 := hid (fun w' (hu : Up wA w') => hR ▸ rright_any (hsm.up hu))
          clear hR hsm
          refine wp_region_sp (n := 171) 5 [48, 49, 50, 51, 52] [SP.is (.agg #[.int .i64 NM, .slice pM nM cM]), SP.is (.bool R), SP.is (.agg #[.int .i64 NM, .slice pM nM cM]), SP.is (.bool R), SP.is (.bool false)] (fun wq => Blk wq bm 24 #[.int .i64 NM, .slice pM nM cM] ∧ Up wA wq ∧ Below w.heap.size w wq) (by kernel_rfl) (by rfl) (by kernel_rfl) (by kernel_rfl) (fun _ _ h hu => ⟨(h.1).up hu, (h.2.1).trans hu, below_up (h.2.2) hu⟩) ⟨(by first | assumption | ((repeat (first | assumption | ((with_reducible apply blk_new); (focus (first | rfl | (simp; done)))) | (with_reducible apply blk_alloc) | (with_reducible apply blk_drew) | (with_reducible apply blk_drewN) | ((with_reducible apply blk_up); assumption) | (with_reducible apply blk_same) | ((with_reducible apply blk_else); (focus (first | (simp; done) | (simp; omega) | omega))))))), (by first | exact Up.refl _ | assumption), (by repeat (first | assumption | (with_reducible apply Up.of) | (with_reducible exact Below.refl _ _) | (with_reducible exact Up.refl _) | ((with_reducible apply bl_setRow); (focus (first | exact Nat.le_refl _ | (simp; done) | (simp; omega) | omega))) | (with_reducible apply below_drewN) | (with_reducible apply Below.drew) | ((with_reducible apply bl_alloc); (focus (first | exact Nat.le_refl _ | (simp; done) | (simp; omega) | omega))) | ((with_reducible apply bl_setCell); (focus (first | exact Nat.le_refl _ | (simp; done) | (simp; omega) | omega))) | ((with_reducible apply up_tr); assumption)))⟩ (fun ev w9 hS9 i o hne hi hev => ?_) (fun gR wE hq hSE huE => ?_)
          · have ⟨hS1, hS2, hSB⟩ := hS9
            have hcC := hev.const
            have hcF := hev.func
            have hcG := hev.global
            rcases i with _ | _ | _ | _ | _ | i
            · obtain rfl := Option.some.inj (show some _ = some o from hi)
              have e16 := hev.other 16 (by kernel_rfl)
              simp [Act.eval] at e16
              exact leavesR_value (run_ldME rfl e16 hS1 rfl) rfl
            · obtain rfl := Option.some.inj (show some _ = some o from hi)
              have e48 : ev (.tmp 48) = (.agg #[.int .i64 NM, .slice pM nM cM]) := hev.dep 0 48 (by kernel_rfl)
              refine leavesR_call ?_ ((HA1.out _ hS2).mono fun _ _ h => ⟨h.2, _, h.1, rfl⟩)
              go_simp
            · obtain rfl := Option.some.inj (show some _ = some o from hi)
              have e16 := hev.other 16 (by kernel_rfl)
              simp [Act.eval] at e16
              exact leavesR_value (run_ldME rfl e16 hS1 rfl) rfl
            · obtain rfl := Option.some.inj (show some _ = some o from hi)
              have e50 : ev (.tmp 50) = (.agg #[.int .i64 NM, .slice pM nM cM]) := hev.dep 2 50 (by kernel_rfl)
              refine leavesR_call ?_ ((HA2.out _ hS2).mono fun _ _ h => ⟨h.2, _, h.1, rfl⟩)
              go_simp
            · obtain rfl := Option.some.inj (show some _ = some o from hi)
              have e49 : ev (.tmp 49) = (.bool R) := hev.dep 1 49 (by kernel_rfl)
              have e51 : ev (.tmp 51) = (.bool R) := hev.dep 3 51 (by kernel_rfl)
              exact leavesR_value (u := .bool false) (by go_simp) rfl
            · exact absurd (show i + 5 < 5 from (Array.getElem?_eq_some_iff.1 hi).1) (by omega)
          have ⟨hS1, hS2, hSB⟩ := hSE
          have q0 : gR 48 = (.agg #[.int .i64 NM, .slice pM nM cM]) := hq 0 48 (by decide) (by kernel_rfl)
          have q1 : gR 49 = (.bool R) := hq 1 49 (by decide) (by kernel_rfl)
          have q2 : gR 50 = (.agg #[.int .i64 NM, .slice pM nM cM]) := hq 2 50 (by decide) (by kernel_rfl)
          have q3 : gR 51 = (.bool R) := hq 3 51 (by decide) (by kernel_rfl)
          have q4 : gR 52 = (.bool false) := hq 4 52 (by decide) (by kernel_rfl)
          refine ⟨fun _ => ?_, fun o ho => by simp at ho⟩
          simp only [putL, List.map_cons, List.map_nil, q0, q1, q2, q3, q4, Act.put, List.setIfInBounds_toArray, List.set_cons_zero, List.set_cons_succ]
          clear hq hSE q0 q1 q2 q3 q4
          clear hRR HA1 HA2 hbm hSB huE hS1
          go_wp2_with fail
          generalize bits BinOp.and IntKind.i64 i 7 = i7
          generalize bits BinOp.and IntKind.i64 j 7 = j7
          generalize bits BinOp.and IntKind.i64 j 3 = j3
          generalize bits BinOp.and IntKind.i64 i 3 = i3
          obtain ⟨wF, hwF⟩ : ∃ x, wE = x := ⟨_, rfl⟩
          rw [hwF] at hS2 ⊢
          have hb2 := Blk.new (w := wF) (b := wF.heap.size) 31 #[.int .i64 i, .int .i64 j, .int .i64 i7, .int .i64 j7, .int .i64 j3, .int .i64 i3] rfl
          have hu2 := hS2.trans (Up.alloc wF (.cells #[.int .i64 i, .int .i64 j, .int .i64 i7, .int .i64 j7, .int .i64 j3, .int .i64 i3] 31))
          obtain ⟨wB, hwB⟩ : ∃ x, wF.alloc (.cells #[.int .i64 i, .int .i64 j, .int .i64 i7, .int .i64 j7, .int .i64 j3, .int .i64 i3] 31) = x := ⟨_, rfl⟩
          obtain ⟨g2, hg2⟩ : ∃ x, wF.heap.size = x := ⟨_, rfl⟩
          rw [hwB] at hb2 hu2 ⊢
          rw [hg2] at hb2 ⊢
          clear hwF hwB hg2 hS2
          have HPP : Hid (∀ q, q < 3 → ∃ xq yq, ∀ w', Up wB w' → w'.cell? ⟨g2, q * 2, none⟩ = some (.int .i64 xq) ∧ w'.cell? ⟨g2, q * 2 + 1, none⟩ = some (.int .i64 yq)) := hid (fun q hq => by
            rcases q with _ | _ | _ | q
            · exact ⟨i, j, fun w' hu => ⟨(hb2.up hu).cell 0 rfl, (hb2.up hu).cell 1 rfl⟩⟩
            · exact ⟨i7, j7, fun w' hu => ⟨(hb2.up hu).cell 2 rfl, (hb2.up hu).cell 3 rfl⟩⟩
            · exact ⟨j3, i3, fun w' hu => ⟨(hb2.up hu).cell 4 rfl, (hb2.up hu).cell 5 rfl⟩⟩
            · omega)
          have HBMB := hid (HBM.out.up hu2)
          have HSMB := hid (HSM.out.up hu2)
          have HUB := hid (huA.trans hu2)
          clear hb2 hu2 HBM HSM huA
          go_loopg [68] 3 (fun g tk wr => ∃ q : Nat, q ≤ 3 ∧ 3 - q ≤ g ∧ tk = .int .i64 (q : Nat) ∧ Up wB wr)
          case atStart => exact ⟨0, by omega, by omega, rfl, Up.refl _⟩
          case round =>
            obtain ⟨q, hq, hqg, rfl, hu⟩ := hrel
            by_cases hq3 : q < 3
            · obtain ⟨xq, yq, hcM⟩ := HPP.out q hq3
              obtain ⟨hcx0, hcx1⟩ := hcM _ hu
              have dq : decide ((q : Int) < 3) = true := decide_eq_true (by omega)
              clear hcM
              have HGB := hid (fun w' (hu : Up wB w') => HG.out w' (hUE.trans (HUB.out.trans hu)))
              have hw1 := Up.alloc wr (.cells #[.int .i64 xq, .int .i64 yq] 31)
              have hb18 := Blk.new (w := wr) (b := wr.heap.size) 31 #[.int .i64 xq, .int .i64 yq] rfl
              have hbm1 := (HBMB.out.up hu).up hw1
              have hU1 := hu.trans hw1
              have HAT := hid (fun w' (hu : Up wB w') => at_any xq yq (HSMB.out.up hu))
              have HSE := hid (fun w' (hu : Up wB w') => set_any xq yq x (HSMB.out.up hu) HX.out)
              have HRS := hid (fun w' (hu : Up wB w') => rset_any xq yq x (HSMB.out.up hu) HX.out)
              have HR0 := hid (fun w' (hu : Up wB w') => stC_zero NM LM xq yq ▸ rset_any xq yq 0 (HSMB.out.up hu) (by unfold I64; omega))
              have HRA := hid (fun (h : atC NM LM xq yq = 0) w' (hu : Up wB w') => rat_ent xq yq (HSMB.out.up hu) (atC_zero h).1 (atC_zero h).2)
              have hVE : atC NM LM xq yq = 0 → atV NM LM xq yq = ent NM LM xq yq := fun h => by unfold atV; rw [if_pos h]
              have hV0 : atC NM LM xq yq ≠ 0 → atV NM LM xq yq = 0 := atV_zero
              have hN0 : atC NM LM xq yq = 0 → stN NM LM xq yq 0 = NM := fun h => stN_zero (by rw [stC_zero]; exact h)
              obtain ⟨C, hC⟩ : ∃ z, atC NM LM xq yq = z := ⟨_, rfl⟩
              obtain ⟨V, hV⟩ : ∃ z, atV NM LM xq yq = z := ⟨_, rfl⟩
              obtain ⟨EN, hEN⟩ : ∃ z, ent NM LM xq yq = z := ⟨_, rfl⟩
              obtain ⟨CS, hCS⟩ : ∃ z, stC NM LM xq yq x = z := ⟨_, rfl⟩
              obtain ⟨NS, hNS⟩ : ∃ z, stN NM LM xq yq x = z := ⟨_, rfl⟩
              obtain ⟨LS, hLS⟩ : ∃ z, stL NM LM xq yq x = z := ⟨_, rfl⟩
              obtain ⟨N0, hN09⟩ : ∃ z, stN NM LM xq yq 0 = z := ⟨_, rfl⟩
              obtain ⟨L0, hL09⟩ : ∃ z, stL NM LM xq yq 0 = z := ⟨_, rfl⟩
              rw [hC, hV] at HAT
              rw [hNS, hLS, hCS] at HSE HRS
              rw [hN09, hL09, hC] at HR0
              rw [hC, hEN] at HRA
              rw [hC, hV, hEN] at hVE
              rw [hC, hV] at hV0
              rw [hC, hN09] at hN0
              clear hC hV hEN hCS hNS hLS hN09 hL09 hu
              by_cases hz : C = 0
              · obtain rfl := hVE hz
                obtain rfl := hN0 hz
                subst hz
                have HRA2 := hid (HRA.out rfl)
                clear hVE hV0 hN0 HRA
                have dV : (V != V) = false := by simp
                have dN : (N0 != N0) = false := by simp
                go_wp2_with (first
                  | ((with_reducible apply ldM_P); exact rfl; exact rfl; (first | exact hbm1 | exact hbm3 | exact hbm5 | exact hbm7 | exact hbms | exact hB21t | exact hB23t); exact rfl)
                  | ((with_reducible apply stM_P); exact rfl; exact rfl; exact Blk.new _ _ rfl; exact rfl; exact rfl; exact two2 _ _ _ _ _)
                  | (go_at_call 12; (with_reducible refine (HAT.out _ hU1).mono ?_); rintro r w3 ⟨u3, rfl, hu3, he3⟩; have hU3 := hU1.trans hu3; have hbm3 := hbm1.up hu3; have hp3 := hb18.up hu3; have hp30 := hp3.cell 0 rfl; have hp31 := hp3.cell 1 rfl)
                  | (go_at_call 13; (with_reducible refine (HSE.out _ hU3).mono ?_); rintro r w5 ⟨z5, u5, rfl, hu5, hs5, he5⟩; have hs5' := hs5; obtain ⟨s5, base5, rfl, hO5, hr5⟩ := hs5'; obtain ⟨p5, n5, c5, rfl⟩ := OwnI.slice hO5; have hX5 := below_setRow (Up.alloc w5 (.cells #[.int .i64 0, .slice none 0 0] 24)) (Nat.le_refl _) #[.int .i64 NS, .slice p5 n5 c5]; have hB21 := (Blk.new (w := w5) (b := w5.heap.size) 24 #[.int .i64 0, .slice none 0 0] rfl).setRow #[.int .i64 NS, .slice p5 n5 c5]; have hY5 := hu5.trans hX5; have hU5 := hU3.trans hY5; have hbm5 := hbm3.up hY5; have hp5 := hp3.up hY5; have hp50 := hp5.cell 0 rfl; have hp51 := hp5.cell 1 rfl; have he35 := he3.up hY5; have he55 := he5.up hX5; have hs55 := hs5.up hX5)
                  | (go_at_call 14; first
                      | ((with_reducible refine (HRS.out _ hU5).mono ?_); rintro r w7 ⟨z7, rfl, hu7, hs7⟩; have hs7' := hs7; obtain ⟨s7, base7, rfl, hO7, hr7⟩ := hs7'; obtain ⟨p7, n7, c7, rfl⟩ := OwnI.slice hO7; have hX7 := below_setRow (Up.alloc w7 (.cells #[.int .i64 0, .slice none 0 0] 24)) (Nat.le_refl _) #[.int .i64 NS, .slice p7 n7 c7]; have hB23 := (Blk.new (w := w7) (b := w7.heap.size) 24 #[.int .i64 0, .slice none 0 0] rfl).setRow #[.int .i64 NS, .slice p7 n7 c7]; have hY7 := hu7.trans hX7; have hU7 := hU5.trans hY7; have hbm7 := hbm5.up hY7; have hp7 := hp5.up hY7; have hp70 := hp7.cell 0 rfl; have hp71 := hp7.cell 1 rfl; have he37 := he35.up hY7; have he57 := he55.up hY7; have hs57 := hs55.up hY7; have hs77 := hs7.up hX7; have hB217 := hB21.up hY7)
                      | ((with_reducible refine (HR0.out _ hU7).mono ?_); rintro r w9 ⟨z9, rfl, hu9, hs9⟩; have hs9' := hs9; obtain ⟨s9, base9, rfl, hO9, hr9⟩ := hs9'; obtain ⟨p9, n9, c9, rfl⟩ := OwnI.slice hO9; have hX9 := below_setRow (Up.alloc w9 (.cells #[.int .i64 0, .slice none 0 0] 24)) (Nat.le_refl _) #[.int .i64 N0, .slice p9 n9 c9]; have hB25 := (Blk.new (w := w9) (b := w9.heap.size) 24 #[.int .i64 0, .slice none 0 0] rfl).setRow #[.int .i64 N0, .slice p9 n9 c9]; have hY9 := hu9.trans hX9; have hU9 := hU7.trans hY9; have hbm9 := hbm7.up hY9; have hp9 := hp7.up hY9; have he39 := he37.up hY9; have he59 := he57.up hY9; have hs59 := hs57.up hY9; have hs79 := hs77.up hY9; have hB219 := hB217.up hY9; have hB239 := hB23.up hY9))
                  | (go_at_call 15; (with_reducible refine (says_any he39 (HGB.out _ hU9)).mono ?_); rintro r ws ⟨rfl, hus⟩; have hUs := hU9.trans hus; have hbms := hbm9.up hus; have hps := hp9.up hus; have hps0 := hps.cell 0 rfl; have hps1 := hps.cell 1 rfl; have he5s := he59.up hus; have hs5s := hs59.up hus; have hs7s := hs79.up hus; have hB21s := hB219.up hus; have hB23s := hB239.up hus; have hB25s := hB25.up hus)
                  | (go_at_call 16; (with_reducible refine (HRA2.out _ hUs).mono ?_); rintro r wa ⟨rfl, hua⟩; have hUa := hUs.trans hua; have hbma := hbms.up hua; have hma0 := hbma.cell 0 rfl; have hB25a := hB25s.up hua; have hza0 := hB25a.cell 0 rfl; have hB21a := hB21s.up hua; have hB23a := hB23s.up hua; have he5a := he5s.up hua; have hs5a := hs5s.up hua; have hs7a := hs7s.up hua)
                  | (go_at_call 15; (with_reducible refine (says_any he5a (HGB.out _ hUa)).mono ?_); rintro r wt ⟨rfl, hut⟩; have hUt := hUa.trans hut; have hB21t := hB21a.up hut; have hB23t := hB23a.up hut; have hs5t := hs5a.up hut; have hs7t := hs7a.up hut)
                  | (go_at_call 17; (with_reducible refine (syms_eq hs5t.sm hs7t.sm).mono ?_); rintro r wx ⟨rfl, hux⟩))
                go_roundg (3 - (q + 1))
                case measure => omega
                case rel => exact ⟨q + 1, by omega, Nat.le_refl _, rfl, hUt.trans hux⟩
              · obtain rfl := hV0 hz
                have dz : (C == 0) = false := by simpa using hz
                have dz2 : (C != 0) = true := by simpa using hz
                clear hVE hV0 hN0 HRA hz
                go_wp2_with (first
                  | ((with_reducible apply ldM_P); exact rfl; exact rfl; (first | exact hbm1 | exact hbm3 | exact hbm5 | exact hbm7 | exact hbms | exact hB21t | exact hB23t); exact rfl)
                  | ((with_reducible apply stM_P); exact rfl; exact rfl; exact Blk.new _ _ rfl; exact rfl; exact rfl; exact two2 _ _ _ _ _)
                  | (go_at_call 12; (with_reducible refine (HAT.out _ hU1).mono ?_); rintro r w3 ⟨u3, rfl, hu3, he3⟩; have hU3 := hU1.trans hu3; have hbm3 := hbm1.up hu3; have hp3 := hb18.up hu3; have hp30 := hp3.cell 0 rfl; have hp31 := hp3.cell 1 rfl)
                  | (go_at_call 13; (with_reducible refine (HSE.out _ hU3).mono ?_); rintro r w5 ⟨z5, u5, rfl, hu5, hs5, he5⟩; have hs5' := hs5; obtain ⟨s5, base5, rfl, hO5, hr5⟩ := hs5'; obtain ⟨p5, n5, c5, rfl⟩ := OwnI.slice hO5; have hX5 := below_setRow (Up.alloc w5 (.cells #[.int .i64 0, .slice none 0 0] 24)) (Nat.le_refl _) #[.int .i64 NS, .slice p5 n5 c5]; have hB21 := (Blk.new (w := w5) (b := w5.heap.size) 24 #[.int .i64 0, .slice none 0 0] rfl).setRow #[.int .i64 NS, .slice p5 n5 c5]; have hY5 := hu5.trans hX5; have hU5 := hU3.trans hY5; have hbm5 := hbm3.up hY5; have hp5 := hp3.up hY5; have hp50 := hp5.cell 0 rfl; have hp51 := hp5.cell 1 rfl; have he35 := he3.up hY5; have he55 := he5.up hX5; have hs55 := hs5.up hX5)
                  | (go_at_call 14; first
                      | ((with_reducible refine (HRS.out _ hU5).mono ?_); rintro r w7 ⟨z7, rfl, hu7, hs7⟩; have hs7' := hs7; obtain ⟨s7, base7, rfl, hO7, hr7⟩ := hs7'; obtain ⟨p7, n7, c7, rfl⟩ := OwnI.slice hO7; have hX7 := below_setRow (Up.alloc w7 (.cells #[.int .i64 0, .slice none 0 0] 24)) (Nat.le_refl _) #[.int .i64 NS, .slice p7 n7 c7]; have hB23 := (Blk.new (w := w7) (b := w7.heap.size) 24 #[.int .i64 0, .slice none 0 0] rfl).setRow #[.int .i64 NS, .slice p7 n7 c7]; have hY7 := hu7.trans hX7; have hU7 := hU5.trans hY7; have hbm7 := hbm5.up hY7; have hp7 := hp5.up hY7; have hp70 := hp7.cell 0 rfl; have hp71 := hp7.cell 1 rfl; have he37 := he35.up hY7; have he57 := he55.up hY7; have hs57 := hs55.up hY7; have hs77 := hs7.up hX7; have hB217 := hB21.up hY7)
                      | ((with_reducible refine (HR0.out _ hU7).mono ?_); rintro r w9 ⟨z9, rfl, hu9, hs9⟩; have hs9' := hs9; obtain ⟨s9, base9, rfl, hO9, hr9⟩ := hs9'; obtain ⟨p9, n9, c9, rfl⟩ := OwnI.slice hO9; have hX9 := below_setRow (Up.alloc w9 (.cells #[.int .i64 0, .slice none 0 0] 24)) (Nat.le_refl _) #[.int .i64 N0, .slice p9 n9 c9]; have hB25 := (Blk.new (w := w9) (b := w9.heap.size) 24 #[.int .i64 0, .slice none 0 0] rfl).setRow #[.int .i64 N0, .slice p9 n9 c9]; have hY9 := hu9.trans hX9; have hU9 := hU7.trans hY9; have hbm9 := hbm7.up hY9; have hp9 := hp7.up hY9; have he39 := he37.up hY9; have he59 := he57.up hY9; have hs59 := hs57.up hY9; have hs79 := hs77.up hY9; have hB219 := hB217.up hY9; have hB239 := hB23.up hY9))
                  | (go_at_call 15; (with_reducible refine (says_any he39 (HGB.out _ hU9)).mono ?_); rintro r ws ⟨rfl, hus⟩; have hUs := hU9.trans hus; have hbms := hbm9.up hus; have hps := hp9.up hus; have hps0 := hps.cell 0 rfl; have hps1 := hps.cell 1 rfl; have he5s := he59.up hus; have hs5s := hs59.up hus; have hs7s := hs79.up hus; have hB21s := hB219.up hus; have hB23s := hB239.up hus; have hB25s := hB25.up hus)
                  | (go_at_call 15; (with_reducible refine (says_any he5s (HGB.out _ hUs)).mono ?_); rintro r wt ⟨rfl, hut⟩; have hUt := hUs.trans hut; have hB21t := hB21s.up hut; have hB23t := hB23s.up hut; have hs5t := hs5s.up hut; have hs7t := hs7s.up hut)
                  | (go_at_call 17; (with_reducible refine (syms_eq hs5t.sm hs7t.sm).mono ?_); rintro r wx ⟨rfl, hux⟩))
                go_roundg (3 - (q + 1))
                case measure => omega
                case rel => exact ⟨q + 1, by omega, Nat.le_refl _, rfl, hUt.trans hux⟩
            · go_wp2_with fail
              go_roundg (2 - (k + 1))
              case measure => omega
              case rel => exact ⟨k + 1, by omega, Nat.le_refl _, rfl, HUB.out.trans hu⟩
        · obtain rfl : k = 2 := by omega
          have hUw := hUE.trans hu
          clear hlt hk hkg hu
          go_wp2_with (first
            | (go_at_call 18; first
                | ((with_reducible refine (new_any i _).mono ?_); rintro r wn1 ⟨zn1, rfl, hun1, hsn1⟩)
                | ((with_reducible refine (new_any _ _).mono ?_); rintro r wn3 ⟨zn3, rfl, hun3, hsn3⟩))
            | (go_at_call 19; first
                | ((with_reducible refine (rnew_any i _).mono ?_); rintro r wn2 ⟨zn2, rfl, hun2, hsn2⟩)
                | ((with_reducible refine (rnew_any _ _).mono ?_); rintro r wn4 ⟨zn4, rfl, hun4, hsn4⟩))
            | (go_at_call 17; first
                | ((with_reducible refine (syms_eq (hsn1.up hun2) hsn2).mono ?_); rintro r wy1 ⟨rfl, huy1⟩)
                | ((with_reducible refine (syms_eq (hsn3.up hun4) hsn4).mono ?_); rintro r wy2 ⟨rfl, huy2⟩)))
          go_ret
          exact ⟨rfl, ((((((hUw.trans hun1).trans hun2).trans huy1).trans hun3).trans hun4).trans huy2)⟩
    · clear hraw ha0 hl hhc h16 hlen
      go_enter Tryd.func3, Tryd.ntmps3
      go_wp2_with (first
        | ((with_reducible apply ldM_P); exact rfl; exact rfl; exact hB; exact rfl)
        | (go_at_call 7; (with_reducible refine (HK.out _ hU).mono ?_); rintro r w1 ⟨rfl, hu1⟩; replace hB := hB.up hu1; replace hU := hU.trans hu1)
        | (go_at_call 8; (with_reducible refine (HLI.out _).mono ?_); rintro r w2 ⟨rfl, hu2⟩; replace hU := hU.trans hu2))
      go_ret
      exact ⟨rfl, hU⟩
  · rw [decide_eq_false hA] at HLI
    clear hraw ha0 hl hhc h16 hlen
    go_enter Tryd.func3, Tryd.ntmps3
    go_wp2_with (first
      | ((with_reducible apply ldM_P); exact rfl; exact rfl; exact hB; exact rfl)
      | (go_at_call 7; (with_reducible refine (HK.out _ hU).mono ?_); rintro r w1 ⟨rfl, hu1⟩; replace hB := hB.up hu1; replace hU := hU.trans hu1)
      | (go_at_call 8; (with_reducible refine (HLI.out _).mono ?_); rintro r w2 ⟨rfl, hu2⟩; replace hU := hU.trans hu2))
    go_ret
    exact ⟨rfl, hU⟩
end Go.Proofs.YtdcpoamjmoceiaaDoor
/-
  What came in, as the walks want it.
-/
namespace Go.Proofs.YtdcpoamjmoceiaaDoor
open Go Go.RowKit
set_option maxRecDepth 100000

def IsRowX (k : IntKind) (w : World) (a : Option Addr) (len cap : Nat) (zs : List Int) : Prop :=
  (a = none ∧ len = 0 ∧ cap = 0 ∧ zs = []) ∨
  ∃ x, a = some x ∧ len ≤ cap ∧ cap ≤ maxLen ∧ zs.length = cap ∧ (∀ i, i < zs.length → w.cell? (x.add i) = some (.int k (zs.getD i 0))) ∧ ∀ n ∈ zs, (Lit.int k n).wf = true
theorem zth_take {l : List Int} {k i : Nat} (h : i < k) : zth (l.take k) i = zth l i := by
  unfold zth
  rw [List.getD_eq_getElem?_getD, List.getD_eq_getElem?_getD, List.getElem?_take_of_lt h]
theorem wf_i64 {z : Int} (h : (Lit.int .i64 z).wf = true) : I64 z := by
  have := (Lit.wf_int_iff .i64 z).1 h
  rw [IntKind.min_i64, IntKind.max_i64] at this
  unfold I64; omega
theorem wf_nat {k : IntKind} {z : Int} {m : Nat} (h : (Lit.int k z).wf = true) (h0 : k.min = 0) (h1 : k.max = (m : Int)) : ∃ n : Nat, z = (n : Int) ∧ n < m + 1 := by
  have := (Lit.wf_int_iff k z).1 h
  rw [h0, h1] at this
  exact ⟨z.toNat, by omega, by omega⟩
theorem vw_row {w : World} {a : Option Addr} {len cap : Nat} {zs : List Int} (h : IsRowX .i64 w a len cap zs) : Vw w (.slice a len cap) (zs.take len) ∧ In64 (zs.take len) := by
  rcases h with ⟨rfl, rfl, rfl, rfl⟩ | ⟨x, rfl, hl, hm, hz, hc, hw⟩
  · exact ⟨⟨none, 0, rfl, ⟨Nat.le_refl _, fun _ => rfl⟩, fun i hi => absurd hi (Nat.not_lt_zero _)⟩, fun i hi => absurd hi (Nat.not_lt_zero _)⟩
  · have e : (zs.take len).length = len := by rw [List.length_take]; omega
    refine ⟨⟨some x, cap, by rw [e], ⟨by rw [e]; exact hl, fun e => by cases e⟩, fun i hi => ⟨x, rfl, ?_⟩⟩, fun i hi => ?_⟩
    · rw [e] at hi
      rw [zth_take hi]
      exact hc i (by omega)
    · rw [e] at hi
      rw [zth_take hi, zth_get (by omega)]
      exact wf_i64 (hw _ (List.getElem_mem _))
theorem vh_row {w : World} {a : Option Addr} {len cap : Nat} {zs : List Int} (h : IsRowX .i16 w a len cap zs) : Vh w (.slice a len cap) (zs.take len) ∧ In16 (zs.take len) := by
  rcases h with ⟨rfl, rfl, rfl, rfl⟩ | ⟨x, rfl, hl, hm, hz, hc, hw⟩
  · exact ⟨⟨none, 0, rfl, fun i hi => absurd hi (Nat.not_lt_zero _)⟩, fun i hi => absurd hi (Nat.not_lt_zero _)⟩
  · have e : (zs.take len).length = len := by rw [List.length_take]; omega
    refine ⟨⟨some x, cap, by rw [e], fun i hi => ⟨x, rfl, ?_⟩⟩, fun i hi => ?_⟩
    · rw [e] at hi
      rw [zth_take hi]
      exact hc i (by omega)
    · rw [e] at hi
      rw [zth_take hi, zth_get (by omega)]
      have := (Lit.wf_int_iff .i16 _).1 (hw (zs[i]'(by omega)) (List.getElem_mem _))
      rw [IntKind.min_i16, IntKind.max_i16] at this
      omega
theorem tells_row {w : World} {a0 a1 a2 a4 a5 a6 : Int} {p0 p3 : Option Addr} {len0 cap0 len3 cap3 : Nat} {z0 z3 : List Int} (hg : Glob w) (wf0 : (Lit.int .i64 a0).wf = true) (w0 : IsRowX .i64 w p0 len0 cap0 z0) (w1 : (Lit.int .u8 a1).wf = true) (w2 : (Lit.int .u16 a2).wf = true)
    (w3 : IsRowX .i16 w p3 len3 cap3 z3) (w6 : (Lit.int .i64 a6).wf = true) :
    Calls Tryd.prog 3 #[.agg #[.int .i64 a0, .slice p0 len0 cap0], .int .u8 a1, .int .u16 a2, .slice p3 len3 cap3, .int .i64 a4, .int .i64 a5, .int .i64 a6] w fun r w' => r = .returned (.bool true) ∧ Up w w' := by
  obtain ⟨n, rfl, hn⟩ := wf_nat (m := 255) w1 IntKind.min_u8 IntKind.max_u8
  obtain ⟨d, rfl, hd⟩ := wf_nat (m := 65535) w2 IntKind.min_u16 IntKind.max_u16
  exact tells_w n d a4 a5 a6 hg (vw_row w0).1 (wf_i64 wf0) (vw_row w0).2 hn hd (vh_row w3).1 (vh_row w3).2 (wf_i64 w6)
end Go.Proofs.YtdcpoamjmoceiaaDoor
/-
  What the laws of faults share: the variable errors.errorType, a world that meets the condition.
-/
namespace Go.Proofs.YtdcpoamjmoceiaaDoor
open Go.ChangeShapes Go.WideShapes Go.RowKit
set_option maxRecDepth 100000

theorem own4 : ownKnob Tryd.prog.godebug = none := by kernel_rfl
theorem et4 : Tryd.prog.globalNamed "errors.errorType" = some 0 := by kernel_rfl
theorem rt4 : (Tryd.prog.cutTypes.find? (·.1 == "internal/reflectlite.rtype")).map (·.2) = some 144 := by kernel_rfl
theorem oneRow4 : ((List.range 207).filter fun t => Tryd.prog.rowNamed t [101, 114, 114, 111, 114]) = [34] := by kernel_rfl
theorem size4 : Tryd.prog.types.size = 207 := by kernel_rfl
/-- What the condition gives a walk: the variable's one cell. -/
theorem glob_of_laid {W : World} (h : laidMetH Tryd.prog [("errors.errorType", Rows.laid_errors_errorType)] W) : Glob W := by
  have h' : laidMet Tryd.prog [] W ∧ handlesMet Tryd.prog [("errors.errorType", Rows.laid_errors_errorType)] W := h
  obtain ⟨name, u, ty, e1, e2, e3, e4, e5⟩ := h'.2 _ (List.mem_singleton.2 rfl)
  have en : name = [101, 114, 114, 111, 114] := (Option.some.inj e1).symm
  subst en
  obtain rfl := Option.some.inj (rt4.symm.trans e2)
  have hm : ty ∈ (List.range 207).filter fun t => Tryd.prog.rowNamed t [101, 114, 114, 111, 114] := List.mem_filter.2 ⟨List.mem_range.2 (by rw [← size4]; exact e3), e4⟩
  rw [oneRow4] at hm
  obtain rfl := List.mem_singleton.1 hm
  have hh : typeHandle Tryd.prog 34 = .pointer (some ⟨3, 34, none⟩) := by kernel_rfl
  rw [hh] at e5
  unfold Glob
  simpa using World.var?_cell et4 e5 0
/-- A world that meets the condition: the settled one, the variable's cell laid. -/
noncomputable def laidWorld (os : Os) : World :=
  let w0 := World.holding Tryd.prog os ⟨#[], #[], []⟩
  { w0 with heap := w0.heap.modify 0 fun
      | .cells _ t frozen => .cells #[.iface 144 (.agg #[.pointer (some ⟨3, 34, none⟩)])] t frozen
      | o => o }
theorem laidWorld_met (os : Os) (args : Array Value) : laidMetH Tryd.prog [("errors.errorType", Rows.laid_errors_errorType)] ((laidWorld os).forCall (fun _ _ => 0) ⟨#[], args, []⟩).memory :=
  laidMetH_of_parts (laidMet_nil _ _) (by kernel_rfl)
end Go.Proofs.YtdcpoamjmoceiaaDoor
