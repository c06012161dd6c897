import Derived.Test.YtdcpoamjmoceiaaGreatDoorPa
import Derived.Test.YtdcpoamjmoceiaaGreatDoorProg
import Derived.WalkKit
import Derived.LaidEql
import Derived.WideLaws
import Derived.Stop.Asserts
import Derived.Defers
import Derived.Recover
import Derived.Deep.LoopGhost
import Derived.RowKitTokens
namespace Go.Proofs.YtdcpoamjmoceiaaGreatDoor
open Go Go.RowKit
set_option maxRecDepth 100000
theorem of_sum (v : Int) (h1 : -9223372036854775808 ≤ v) (h2 : v < 9223372036854775808) :
    sumL (upd (fun _ => if v < 0 then 18446744073709551615 else 0) 0 (v % 18446744073709551616).toNat) 16 = enc v := by
  have hs : ∀ (A V n : Nat), 1 ≤ n → sumL (upd (fun _ => A) 0 V) n * 18446744073709551615 = V * 18446744073709551615 + A * (bp n - 18446744073709551616) := by
    intro A V n hn
    obtain ⟨k, rfl⟩ : ∃ k, n = k + 1 := ⟨n - 1, by omega⟩
    clear hn
    induction k with
    | zero => rw [sumL_succ, sumL_zero, bp_zero, upd_same, bp_succ, bp_zero]; simp
    | succ k ih =>
      have h : 18446744073709551616 ≤ bp (k + 1) := by rw [bp_succ]; have := bp_pos k; omega
      have e : bp (k + 1 + 1) - 18446744073709551616 = (bp (k + 1) - 18446744073709551616) + bp (k + 1) * 18446744073709551615 := by rw [bp_succ (k + 1)]; omega
      rw [sumL_succ, Nat.add_mul, ih, upd_other _ _ _ (by omega), e, Nat.mul_add, Nat.mul_assoc, Nat.add_assoc]
  have h3 := bp16
  have hb6 : 18446744073709551616 ≤ bp 16 := by rw [bp_succ]; have := bp_pos 15; omega
  have hbb : 9223372036854775808 ≤ hb := by omega
  by_cases h0 : v < 0
  · have e := enc_neg (z := v) (InR.mk' (by omega)) h0
    rw [if_pos h0, e.1]
    have e2 : (v % 18446744073709551616).toNat = 18446744073709551616 - v.natAbs := by omega
    rw [e2]
    have h : sumL (upd (fun _ => 18446744073709551615) 0 (18446744073709551616 - v.natAbs)) 16 * 18446744073709551615 = (18446744073709551616 - v.natAbs) * 18446744073709551615 + 18446744073709551615 * (bp 16 - 18446744073709551616) := hs _ _ 16 (by decide)
    generalize sumL _ 16 = S at *
    omega
  · have e := enc_nn (z := v) (InR.mk' (by omega)) (by omega)
    rw [if_neg h0, e.1]
    have h : sumL (upd (fun _ => 0) 0 (v % 18446744073709551616).toNat) 16 * 18446744073709551615 = (v % 18446744073709551616).toNat * 18446744073709551615 + 0 * (bp 16 - 18446744073709551616) := hs _ _ 16 (by decide)
    generalize sumL _ 16 = S at *
    omega
set_option maxHeartbeats 400000 in
theorem of_any (v : Int) (h1 : -9223372036854775808 ≤ v) (h2 : v < 9223372036854775808) (w : World) :
    Calls Tryz.prog 49 #[.int .i64 v] w fun e w' => e = .returned (wideV (enc v)) ∧ Up w w' := by
  have hsum := of_sum v h1 h2
  obtain ⟨A, eA, hA, HA⟩ : ∃ A : Nat, IntKind.u64.wrap (v / 9223372036854775808) = (A : Int) ∧ A < 18446744073709551616 ∧ A = if v < 0 then 18446744073709551615 else 0 := by
    refine ⟨_, ?_, ?_, rfl⟩
    · rw [IntKind.wrap_u64]; split <;> omega
    · split <;> omega
  obtain ⟨V, eV, hV, HV⟩ : ∃ V : Nat, IntKind.u64.wrap v = (V : Int) ∧ V < 18446744073709551616 ∧ V = (v % 18446744073709551616).toNat := by
    refine ⟨_, ?_, ?_, rfl⟩
    · rw [IntKind.wrap_u64]; omega
    · omega
  rw [← HA, ← HV] at hsum
  have HS := hid hsum
  clear hsum HA HV
  generalize enc v = E at *
  go_enter Tryz.func49, Tryz.ntmps49
  go_wp2
  go_loopw [9] (fun i wr => ∃ k : Nat, k ≤ 16 ∧ i = .int .i64 k ∧ Row wr w.heap.size 54 16 (fun _ => 0) ∧ Row wr (w.heap.size + 1) 54 16 (fun i => if i < k then A else 0) ∧ Below w.heap.size w wr)
    (fun i _ => 16 - (intOf i).toNat)
  case atStart => exact ⟨0, by omega, rfl, (by (repeat (first | assumption | ((with_reducible apply row_newc); (focus (first | rfl | (simp; done)))) | ((with_reducible apply row_newz); (focus (first | rfl | (simp; done)))) | (with_reducible apply row_same) | ((with_reducible apply row_else); (focus (first | (simp; done) | (simp; omega) | omega))) | (with_reducible apply row_alloc) | (with_reducible apply row_drew) | (with_reducible apply row_drewN) | ((with_reducible apply row_up); assumption)))), Row.congr (f := fun _ => 0) (by (repeat (first | assumption | ((with_reducible apply row_newc); (focus (first | rfl | (simp; done)))) | ((with_reducible apply row_newz); (focus (first | rfl | (simp; done)))) | (with_reducible apply row_same) | ((with_reducible apply row_else); (focus (first | (simp; done) | (simp; omega) | omega))) | (with_reducible apply row_alloc) | (with_reducible apply row_drew) | (with_reducible apply row_drewN) | ((with_reducible apply row_up); assumption)))) (by simp), (by repeat (first | assumption | (with_reducible apply Up.of) | (with_reducible exact Below.refl _ _) | (with_reducible exact Up.refl _) | ((with_reducible apply bl_setRow); (focus (first | exact Nat.le_refl _ | (simp; done) | (simp; omega) | omega))) | (with_reducible apply below_drewN) | (with_reducible apply Below.drew) | ((with_reducible apply bl_alloc); (focus (first | exact Nat.le_refl _ | (simp; done) | (simp; omega) | omega))) | ((with_reducible apply bl_setCell); (focus (first | exact Nat.le_refl _ | (simp; done) | (simp; omega) | omega))) | ((with_reducible apply up_tr); assumption)))⟩
  case round =>
    obtain ⟨k, hk, rfl, hR, hX, hB⟩ := hrel
    by_cases hlt : k < 16
    · have hc := hX.cell k hlt
      have hf := hX.frozen k
      have hX2 := hX.set k A
      have hR2 := hR.other ⟨w.heap.size + 1, k, none⟩ (.int .u64 (A : Nat)) (by simp)
      have hB2 := hB.setCell (p := ⟨w.heap.size + 1, k, none⟩) (by simp) (.int .u64 (A : Nat))
      go_wp2
      go_roundw
      case rel =>
        refine ⟨k + 1, by omega, by go_num, hR2, Row.congr hX2 fun i hi => ?_, hB2⟩
        unfold upd
        split
        · exact (if_pos (by omega)).symm
        · show (if i < k then A else 0) = if i < k + 1 then A else 0
          split
          · rw [if_pos (by omega)]
          · rw [if_neg (by omega)]
      case measure => simp [intOf] <;> omega
    · obtain rfl : k = 16 := by omega
      have hc := hX.cell 0 (by omega)
      have hf := hX.frozen 0
      have hX2 : Row (wr.setCell ⟨w.heap.size + 1, 0, none⟩ (.int .u64 (V : Nat))) (w.heap.size + 1) 54 16 (upd (fun _ => A) 0 V) := Row.congr (hX.set 0 V) fun i hi => by
        unfold upd
        split
        · rfl
        · exact if_pos hi
      have hR2 := hR.other ⟨w.heap.size + 1, 0, none⟩ (.int .u64 (V : Nat)) (by simp)
      have hB2 := hB.setCell (p := ⟨w.heap.size + 1, 0, none⟩) (by simp) (.int .u64 (V : Nat))
      go_wp2_with (first | ((with_reducible apply ld_rowP undW infoW); exact rfl; exact rfl; focus (repeat (first | assumption | ((with_reducible apply row_newc); (focus (first | rfl | (simp; done)))) | ((with_reducible apply row_newz); (focus (first | rfl | (simp; done)))) | (with_reducible apply row_same) | ((with_reducible apply row_else); (focus (first | (simp; done) | (simp; omega) | omega))) | (with_reducible apply row_alloc) | (with_reducible apply row_drew) | (with_reducible apply row_drewN) | ((with_reducible apply row_up); assumption)))) | ((with_reducible apply st_rowP infoW); exact rfl; exact rfl; focus (repeat (first | assumption | ((with_reducible apply row_newc); (focus (first | rfl | (simp; done)))) | ((with_reducible apply row_newz); (focus (first | rfl | (simp; done)))) | (with_reducible apply row_same) | ((with_reducible apply row_else); (focus (first | (simp; done) | (simp; omega) | omega))) | (with_reducible apply row_alloc) | (with_reducible apply row_drew) | (with_reducible apply row_drewN) | ((with_reducible apply row_up); assumption)))) | ((with_reducible apply st_rowZ infoW); exact rfl; exact rfl; focus (repeat (first | assumption | ((with_reducible apply row_newc); (focus (first | rfl | (simp; done)))) | ((with_reducible apply row_newz); (focus (first | rfl | (simp; done)))) | (with_reducible apply row_same) | ((with_reducible apply row_else); (focus (first | (simp; done) | (simp; omega) | omega))) | (with_reducible apply row_alloc) | (with_reducible apply row_drew) | (with_reducible apply row_drewN) | ((with_reducible apply row_up); assumption)))))
      exact bodyPost_ret (res1 rfl undW infoW _ _ rfl (by (repeat (first | assumption | ((with_reducible apply row_newc); (focus (first | rfl | (simp; done)))) | ((with_reducible apply row_newz); (focus (first | rfl | (simp; done)))) | (with_reducible apply row_same) | ((with_reducible apply row_else); (focus (first | (simp; done) | (simp; omega) | omega))) | (with_reducible apply row_alloc) | (with_reducible apply row_drew) | (with_reducible apply row_drewN) | ((with_reducible apply row_up); assumption))))) rfl ⟨by
        rw [wide_of (upd_lt (fun _ _ => hA) hV), HS.out], (by repeat (first | assumption | (with_reducible apply Up.of) | (with_reducible exact Below.refl _ _) | (with_reducible exact Up.refl _) | ((with_reducible apply bl_setRow); (focus (first | exact Nat.le_refl _ | (simp; done) | (simp; omega) | omega))) | (with_reducible apply below_drewN) | (with_reducible apply Below.drew) | ((with_reducible apply bl_alloc); (focus (first | exact Nat.le_refl _ | (simp; done) | (simp; omega) | omega))) | ((with_reducible apply bl_setCell); (focus (first | exact Nat.le_refl _ | (simp; done) | (simp; omega) | omega))) | ((with_reducible apply up_tr); assumption)))⟩
def i64V (z : Int) : Value := .tuple #[.int .i64 (if -9223372036854775808 ≤ z ∧ z < 9223372036854775808 then z else 0), .bool (decide (-9223372036854775808 ≤ z ∧ z < 9223372036854775808))]
theorem limb0 (x : Nat) : limb x 0 = x % 18446744073709551616 := by unfold limb; rw [bp_zero, Nat.div_one]
theorem plus_ok {a b : Int} (ha : InR a) (hb' : InR b) : ((a < 0 ↔ b < 0) → ((decide (hb ≤ enc (a + b)) = decide (a < 0)) ↔ InR (a + b))) ∧ (¬ (a < 0 ↔ b < 0) → InR (a + b)) := by
  have h1 := ha.out
  have h2 := hb'.out
  have h3 := bp16
  have h4 := hb_pos
  constructor
  · intro h
    by_cases a0 : a < 0
    · have e : enc (a + b) = if a + b = -(bp 16 : Int) then 0 else (a + b + bp 16).toNat := by
        unfold enc
        split
        · rename_i e; rw [e, Int.neg_emod_self]; rfl
        · rw [← Int.add_emod_right, Int.emod_eq_of_lt (by omega) (by omega)]
      rw [e, decide_eq_true a0, decide_eq_true_iff]
      constructor
      · intro h5
        refine InR.mk' ?_
        split at h5 <;> omega
      · intro h5
        have := h5.out
        split <;> omega
    · have e : enc (a + b) = (a + b).toNat := by
        unfold enc
        rw [Int.emod_eq_of_lt (by omega) (by omega)]
      rw [e, decide_eq_false a0, decide_eq_false_iff_not]
      constructor
      · intro h5; exact InR.mk' (by omega)
      · intro h5; have := h5.out; omega
  · intro h
    exact InR.mk' (by omega)
set_option maxHeartbeats 1000000 in
theorem add_z {a b : Int} (ha : InR a) (hb' : InR b) (w : World) :
    Calls Tryz.prog 76 #[wideV (enc a), wideV (enc b)] w fun e w' => e = .returned (opt (a + b)) ∧ Up w w' := by
  have HA := hid (fun w => minus_z ha w)
  have HB := hid (fun w => minus_z hb' w)
  have HM := hid (fun w => minus_e (a + b) w)
  have HP := hid (fun w => plus_z a b w)
  obtain ⟨hk1, hk2⟩ := plus_ok ha hb'
  by_cases a0 : a < 0
  · have hd : decide (a < 0) = true := by simpa using a0
    rw [hd] at HA hk1
    by_cases b0 : b < 0
    · have hd2 : decide (b < 0) = true := by simpa using b0
      rw [hd2] at HB
      have hk := hk1 (by simp [a0, b0])
      by_cases hs : hb ≤ enc (a + b)
      · have hd3 : decide (hb ≤ enc (a + b)) = true := by simpa using hs
        rw [hd3] at HM hk
        rw [opt_yes (hk.1 rfl)]
        clear hk1 hk2 hk hs hd hd2 hd3 a0 b0
        unfold wideV at *
        go_enter Tryz.func76, Tryz.ntmps76
        go_wp2_with (first | ((with_reducible apply ld_rowP undW infoW); exact rfl; exact rfl; focus (repeat (first | assumption | ((with_reducible apply row_newc); (focus (first | rfl | (simp; done)))) | ((with_reducible apply row_newz); (focus (first | rfl | (simp; done)))) | (with_reducible apply row_same) | ((with_reducible apply row_else); (focus (first | (simp; done) | (simp; omega) | omega))) | (with_reducible apply row_alloc) | (with_reducible apply row_drew) | (with_reducible apply row_drewN) | ((with_reducible apply row_up); assumption)))) | ((with_reducible apply st_rowP infoW); exact rfl; exact rfl; focus (repeat (first | assumption | ((with_reducible apply row_newc); (focus (first | rfl | (simp; done)))) | ((with_reducible apply row_newz); (focus (first | rfl | (simp; done)))) | (with_reducible apply row_same) | ((with_reducible apply row_else); (focus (first | (simp; done) | (simp; omega) | omega))) | (with_reducible apply row_alloc) | (with_reducible apply row_drew) | (with_reducible apply row_drewN) | ((with_reducible apply row_up); assumption)))) | ((with_reducible apply st_rowZ infoW); exact rfl; exact rfl; focus (repeat (first | assumption | ((with_reducible apply row_newc); (focus (first | rfl | (simp; done)))) | ((with_reducible apply row_newz); (focus (first | rfl | (simp; done)))) | (with_reducible apply row_same) | ((with_reducible apply row_else); (focus (first | (simp; done) | (simp; omega) | omega))) | (with_reducible apply row_alloc) | (with_reducible apply row_drew) | (with_reducible apply row_drewN) | ((with_reducible apply row_up); assumption)))) | (go_at_call 97; refine (HP.out _).mono ?_; rintro e w' ⟨rfl, hu⟩; have hsz := hu.size; simp at hsz))
        refine wp_region_upS (S := (fun wq => Row wq w.heap.size 54 16 (limb (enc a)) ∧ Row wq (w.heap.size + 1) 54 16 (limb (enc b)) ∧ Row wq (w.heap.size + 1 + 1) 54 16 (fun _ => 0) ∧ Row wq w'.heap.size 54 16 (limb (enc (a + b))) ∧ Below w.heap.size w wq)) (req := (fun _ => true)) (by kernel_rfl) (fun _ _ h hu => ⟨(h.1).up hu, (h.2.1).up hu, (h.2.2.1).up hu, (h.2.2.2.1).up hu, below_up (h.2.2.2.2) hu⟩) ⟨(by (repeat (first | assumption | ((with_reducible apply row_newc); (focus (first | rfl | (simp; done)))) | ((with_reducible apply row_newz); (focus (first | rfl | (simp; done)))) | (with_reducible apply row_same) | ((with_reducible apply row_else); (focus (first | (simp; done) | (simp; omega) | omega))) | (with_reducible apply row_alloc) | (with_reducible apply row_drew) | (with_reducible apply row_drewN) | ((with_reducible apply row_up); assumption)))), (by (repeat (first | assumption | ((with_reducible apply row_newc); (focus (first | rfl | (simp; done)))) | ((with_reducible apply row_newz); (focus (first | rfl | (simp; done)))) | (with_reducible apply row_same) | ((with_reducible apply row_else); (focus (first | (simp; done) | (simp; omega) | omega))) | (with_reducible apply row_alloc) | (with_reducible apply row_drew) | (with_reducible apply row_drewN) | ((with_reducible apply row_up); assumption)))), (by (repeat (first | assumption | ((with_reducible apply row_newc); (focus (first | rfl | (simp; done)))) | ((with_reducible apply row_newz); (focus (first | rfl | (simp; done)))) | (with_reducible apply row_same) | ((with_reducible apply row_else); (focus (first | (simp; done) | (simp; omega) | omega))) | (with_reducible apply row_alloc) | (with_reducible apply row_drew) | (with_reducible apply row_drewN) | ((with_reducible apply row_up); assumption)))), (by (repeat (first | assumption | ((with_reducible apply row_newc); (focus (first | rfl | (simp; done)))) | ((with_reducible apply row_newz); (focus (first | rfl | (simp; done)))) | (with_reducible apply row_same) | ((with_reducible apply row_else); (focus (first | (simp; done) | (simp; omega) | omega))) | (with_reducible apply row_alloc) | (with_reducible apply row_drew) | (with_reducible apply row_drewN) | ((with_reducible apply row_up); assumption)))), (by repeat (first | assumption | (with_reducible apply Up.of) | (with_reducible exact Below.refl _ _) | (with_reducible exact Up.refl _) | ((with_reducible apply bl_setRow); (focus (first | exact Nat.le_refl _ | (simp; done) | (simp; omega) | omega))) | (with_reducible apply below_drewN) | (with_reducible apply Below.drew) | ((with_reducible apply bl_alloc); (focus (first | exact Nat.le_refl _ | (simp; done) | (simp; omega) | omega))) | ((with_reducible apply bl_setCell); (focus (first | exact Nat.le_refl _ | (simp; done) | (simp; omega) | omega))) | ((with_reducible apply up_tr); assumption)))⟩ (fun wS hSS => ?_)
        have ⟨hS1, hS2, hS3, hS4, hSB⟩ := hSS
        clear hu
        refine wpAnyU_take (i := 0) (d := (some 10)) (v := _) rfl rfl (by kernel_rfl) (fun _ _ _ h => h) (fun _ _ h hu => ⟨(h.1).up hu, (h.2.1).up hu, (h.2.2.1).up hu, (h.2.2.2.1).up hu, below_up (h.2.2.2.2) hu⟩) hSS (Or.inl ⟨by rfl, fun w' hSw => yu_value (run_ld undW infoW _ rfl _ rfl hSw.1)⟩) ?_
        try simp only [Act.put, pu1, pu2, pu3]
        refine wpAnyU_take (i := 1) (d := (some 11)) (v := _) rfl rfl (by kernel_rfl) (fun _ _ _ h => h) (fun _ _ h hu => ⟨(h.1).up hu, (h.2.1).up hu, (h.2.2.1).up hu, (h.2.2.2.1).up hu, below_up (h.2.2.2.2) hu⟩) hSS (Or.inl ⟨by rfl, fun w' hSw => yu_call ?_ (HA.out _)⟩) ?_
        · go_simp
        try simp only [Act.put, pu1, pu2, pu3]
        refine wpAnyU_take (i := 2) (d := (some 12)) (v := _) rfl rfl (by kernel_rfl) (fun _ _ _ h => h) (fun _ _ h hu => ⟨(h.1).up hu, (h.2.1).up hu, (h.2.2.1).up hu, (h.2.2.2.1).up hu, below_up (h.2.2.2.2) hu⟩) hSS (Or.inl ⟨by rfl, fun w' hSw => yu_value (run_ld undW infoW _ rfl _ rfl hSw.2.1)⟩) ?_
        try simp only [Act.put, pu1, pu2, pu3]
        refine wpAnyU_take (i := 3) (d := (some 13)) (v := _) rfl rfl (by kernel_rfl) (fun _ _ _ h => h) (fun _ _ h hu => ⟨(h.1).up hu, (h.2.1).up hu, (h.2.2.1).up hu, (h.2.2.2.1).up hu, below_up (h.2.2.2.2) hu⟩) hSS (Or.inl ⟨by rfl, fun w' hSw => yu_call ?_ (HB.out _)⟩) ?_
        · go_simp
        try simp only [Act.put, pu1, pu2, pu3]
        refine wpAnyU_pure (i := 4) (d := (some 14)) (v := ?_) rfl rfl (by kernel_rfl) (fun _ _ _ h => h) (fun _ _ h hu => ⟨(h.1).up hu, (h.2.1).up hu, (h.2.2.1).up hu, (h.2.2.2.1).up hu, below_up (h.2.2.2.2) hu⟩) (Or.inl ⟨by rfl, fun w' _ => yu_value ?_⟩) ?_
        rotate_left
        · (go_simp; (try exact rfl))
        try simp only [Act.put, pu1, pu2, pu3]
        refine wpAnyU_pure (i := 5) (d := (some 15)) (v := ?_) rfl rfl (by kernel_rfl) (fun _ _ _ h => h) (fun _ _ h hu => ⟨(h.1).up hu, (h.2.1).up hu, (h.2.2.1).up hu, (h.2.2.2.1).up hu, below_up (h.2.2.2.2) hu⟩) (Or.inl ⟨by rfl, fun w' _ => yu_value ?_⟩) ?_
        rotate_left
        · (go_simp; (try exact rfl))
        try simp only [Act.put, pu1, pu2, pu3]
        refine wpAnyU_take (i := 6) (d := (some 16)) (v := _) rfl rfl (by kernel_rfl) (fun _ _ _ h => h) (fun _ _ h hu => ⟨(h.1).up hu, (h.2.1).up hu, (h.2.2.1).up hu, (h.2.2.2.1).up hu, below_up (h.2.2.2.2) hu⟩) hSS (Or.inl ⟨by rfl, fun w' hSw => yu_value (run_ld undW infoW _ rfl _ rfl hSw.2.2.2.1)⟩) ?_
        try simp only [Act.put, pu1, pu2, pu3]
        refine wpAnyU_take (i := 7) (d := (some 17)) (v := _) rfl rfl (by kernel_rfl) (fun _ _ _ h => h) (fun _ _ h hu => ⟨(h.1).up hu, (h.2.1).up hu, (h.2.2.1).up hu, (h.2.2.2.1).up hu, below_up (h.2.2.2.2) hu⟩) hSS (Or.inl ⟨by rfl, fun w' hSw => yu_call ?_ (HM.out _)⟩) ?_
        · go_simp
        try simp only [Act.put, pu1, pu2, pu3]
        refine wpAnyU_take (i := 8) (d := (some 18)) (v := _) rfl rfl (by kernel_rfl) (fun _ _ _ h => h) (fun _ _ h hu => ⟨(h.1).up hu, (h.2.1).up hu, (h.2.2.1).up hu, (h.2.2.2.1).up hu, below_up (h.2.2.2.2) hu⟩) hSS (Or.inl ⟨by rfl, fun w' hSw => yu_value (run_ld undW infoW _ rfl _ rfl hSw.1)⟩) ?_
        try simp only [Act.put, pu1, pu2, pu3]
        refine wpAnyU_take (i := 9) (d := (some 19)) (v := _) rfl rfl (by kernel_rfl) (fun _ _ _ h => h) (fun _ _ h hu => ⟨(h.1).up hu, (h.2.1).up hu, (h.2.2.1).up hu, (h.2.2.2.1).up hu, below_up (h.2.2.2.2) hu⟩) hSS (Or.inl ⟨by rfl, fun w' hSw => yu_call ?_ (HA.out _)⟩) ?_
        · go_simp
        try simp only [Act.put, pu1, pu2, pu3]
        refine wpAnyU_pure (i := 10) (d := (some 20)) (v := ?_) rfl rfl (by kernel_rfl) (fun _ _ _ h => h) (fun _ _ h hu => ⟨(h.1).up hu, (h.2.1).up hu, (h.2.2.1).up hu, (h.2.2.2.1).up hu, below_up (h.2.2.2.2) hu⟩) (Or.inl ⟨by rfl, fun w' _ => yu_value ?_⟩) ?_
        rotate_left
        · (go_simp; (try exact rfl))
        try simp only [Act.put, pu1, pu2, pu3]
        refine wpAnyU_pure (i := 11) (d := (some 21)) (v := ?_) rfl rfl (by kernel_rfl) (fun _ _ _ h => h) (fun _ _ h hu => ⟨(h.1).up hu, (h.2.1).up hu, (h.2.2.1).up hu, (h.2.2.2.1).up hu, below_up (h.2.2.2.2) hu⟩) (Or.inl ⟨by rfl, fun w' _ => yu_value ?_⟩) ?_
        rotate_left
        · (go_simp; (try exact rfl))
        try simp only [Act.put, pu1, pu2, pu3]
        refine wpAnyU_done (by kernel_rfl) (fun wE huE => ?_) _
        have ⟨hS1, hS2, hS3, hS4, hSB⟩ := ((fun _ _ h hu => ⟨(h.1).up hu, (h.2.1).up hu, (h.2.2.1).up hu, (h.2.2.2.1).up hu, below_up (h.2.2.2.2) hu⟩) : ∀ w1 w2 : World, (fun wq => Row wq w.heap.size 54 16 (limb (enc a)) ∧ Row wq (w.heap.size + 1) 54 16 (limb (enc b)) ∧ Row wq (w.heap.size + 1 + 1) 54 16 (fun _ => 0) ∧ Row wq w'.heap.size 54 16 (limb (enc (a + b))) ∧ Below w.heap.size w wq) w1 → Up w1 w2 → (fun wq => Row wq w.heap.size 54 16 (limb (enc a)) ∧ Row wq (w.heap.size + 1) 54 16 (limb (enc b)) ∧ Row wq (w.heap.size + 1 + 1) 54 16 (fun _ => 0) ∧ Row wq w'.heap.size 54 16 (limb (enc (a + b))) ∧ Below w.heap.size w wq) w2) _ _ hSS huE
        clear huE hSS
        go_wp2_with (first | ((with_reducible apply ld_rowP undW infoW); exact rfl; exact rfl; focus (repeat (first | assumption | ((with_reducible apply row_newc); (focus (first | rfl | (simp; done)))) | ((with_reducible apply row_newz); (focus (first | rfl | (simp; done)))) | (with_reducible apply row_same) | ((with_reducible apply row_else); (focus (first | (simp; done) | (simp; omega) | omega))) | (with_reducible apply row_alloc) | (with_reducible apply row_drew) | (with_reducible apply row_drewN) | ((with_reducible apply row_up); assumption)))) | ((with_reducible apply st_rowP infoW); exact rfl; exact rfl; focus (repeat (first | assumption | ((with_reducible apply row_newc); (focus (first | rfl | (simp; done)))) | ((with_reducible apply row_newz); (focus (first | rfl | (simp; done)))) | (with_reducible apply row_same) | ((with_reducible apply row_else); (focus (first | (simp; done) | (simp; omega) | omega))) | (with_reducible apply row_alloc) | (with_reducible apply row_drew) | (with_reducible apply row_drewN) | ((with_reducible apply row_up); assumption)))) | ((with_reducible apply st_rowZ infoW); exact rfl; exact rfl; focus (repeat (first | assumption | ((with_reducible apply row_newc); (focus (first | rfl | (simp; done)))) | ((with_reducible apply row_newz); (focus (first | rfl | (simp; done)))) | (with_reducible apply row_same) | ((with_reducible apply row_else); (focus (first | (simp; done) | (simp; omega) | omega))) | (with_reducible apply row_alloc) | (with_reducible apply row_drew) | (with_reducible apply row_drewN) | ((with_reducible apply row_up); assumption)))))
        exact bodyPost_ret (res2 rfl undW infoW _ _ rfl (by (repeat (first | assumption | ((with_reducible apply row_newc); (focus (first | rfl | (simp; done)))) | ((with_reducible apply row_newz); (focus (first | rfl | (simp; done)))) | (with_reducible apply row_same) | ((with_reducible apply row_else); (focus (first | (simp; done) | (simp; omega) | omega))) | (with_reducible apply row_alloc) | (with_reducible apply row_drew) | (with_reducible apply row_drewN) | ((with_reducible apply row_up); assumption))))) rfl ⟨rfl, (by repeat (first | assumption | (with_reducible apply Up.of) | (with_reducible exact Below.refl _ _) | (with_reducible exact Up.refl _) | ((with_reducible apply bl_setRow); (focus (first | exact Nat.le_refl _ | (simp; done) | (simp; omega) | omega))) | (with_reducible apply below_drewN) | (with_reducible apply Below.drew) | ((with_reducible apply bl_alloc); (focus (first | exact Nat.le_refl _ | (simp; done) | (simp; omega) | omega))) | ((with_reducible apply bl_setCell); (focus (first | exact Nat.le_refl _ | (simp; done) | (simp; omega) | omega))) | ((with_reducible apply up_tr); assumption)))⟩
      · have hd3 : decide (hb ≤ enc (a + b)) = false := by simpa using hs
        rw [hd3] at HM hk
        rw [opt_no fun h => by simpa using hk.2 h]
        clear hk1 hk2 hk hs hd hd2 hd3 a0 b0
        unfold wideV at *
        go_enter Tryz.func76, Tryz.ntmps76
        go_wp2_with (first | ((with_reducible apply ld_rowP undW infoW); exact rfl; exact rfl; focus (repeat (first | assumption | ((with_reducible apply row_newc); (focus (first | rfl | (simp; done)))) | ((with_reducible apply row_newz); (focus (first | rfl | (simp; done)))) | (with_reducible apply row_same) | ((with_reducible apply row_else); (focus (first | (simp; done) | (simp; omega) | omega))) | (with_reducible apply row_alloc) | (with_reducible apply row_drew) | (with_reducible apply row_drewN) | ((with_reducible apply row_up); assumption)))) | ((with_reducible apply st_rowP infoW); exact rfl; exact rfl; focus (repeat (first | assumption | ((with_reducible apply row_newc); (focus (first | rfl | (simp; done)))) | ((with_reducible apply row_newz); (focus (first | rfl | (simp; done)))) | (with_reducible apply row_same) | ((with_reducible apply row_else); (focus (first | (simp; done) | (simp; omega) | omega))) | (with_reducible apply row_alloc) | (with_reducible apply row_drew) | (with_reducible apply row_drewN) | ((with_reducible apply row_up); assumption)))) | ((with_reducible apply st_rowZ infoW); exact rfl; exact rfl; focus (repeat (first | assumption | ((with_reducible apply row_newc); (focus (first | rfl | (simp; done)))) | ((with_reducible apply row_newz); (focus (first | rfl | (simp; done)))) | (with_reducible apply row_same) | ((with_reducible apply row_else); (focus (first | (simp; done) | (simp; omega) | omega))) | (with_reducible apply row_alloc) | (with_reducible apply row_drew) | (with_reducible apply row_drewN) | ((with_reducible apply row_up); assumption)))) | (go_at_call 97; refine (HP.out _).mono ?_; rintro e w' ⟨rfl, hu⟩; have hsz := hu.size; simp at hsz))
        refine wp_region_upS (S := (fun wq => Row wq w.heap.size 54 16 (limb (enc a)) ∧ Row wq (w.heap.size + 1) 54 16 (limb (enc b)) ∧ Row wq (w.heap.size + 1 + 1) 54 16 (fun _ => 0) ∧ Row wq w'.heap.size 54 16 (limb (enc (a + b))) ∧ Below w.heap.size w wq)) (req := (fun _ => true)) (by kernel_rfl) (fun _ _ h hu => ⟨(h.1).up hu, (h.2.1).up hu, (h.2.2.1).up hu, (h.2.2.2.1).up hu, below_up (h.2.2.2.2) hu⟩) ⟨(by (repeat (first | assumption | ((with_reducible apply row_newc); (focus (first | rfl | (simp; done)))) | ((with_reducible apply row_newz); (focus (first | rfl | (simp; done)))) | (with_reducible apply row_same) | ((with_reducible apply row_else); (focus (first | (simp; done) | (simp; omega) | omega))) | (with_reducible apply row_alloc) | (with_reducible apply row_drew) | (with_reducible apply row_drewN) | ((with_reducible apply row_up); assumption)))), (by (repeat (first | assumption | ((with_reducible apply row_newc); (focus (first | rfl | (simp; done)))) | ((with_reducible apply row_newz); (focus (first | rfl | (simp; done)))) | (with_reducible apply row_same) | ((with_reducible apply row_else); (focus (first | (simp; done) | (simp; omega) | omega))) | (with_reducible apply row_alloc) | (with_reducible apply row_drew) | (with_reducible apply row_drewN) | ((with_reducible apply row_up); assumption)))), (by (repeat (first | assumption | ((with_reducible apply row_newc); (focus (first | rfl | (simp; done)))) | ((with_reducible apply row_newz); (focus (first | rfl | (simp; done)))) | (with_reducible apply row_same) | ((with_reducible apply row_else); (focus (first | (simp; done) | (simp; omega) | omega))) | (with_reducible apply row_alloc) | (with_reducible apply row_drew) | (with_reducible apply row_drewN) | ((with_reducible apply row_up); assumption)))), (by (repeat (first | assumption | ((with_reducible apply row_newc); (focus (first | rfl | (simp; done)))) | ((with_reducible apply row_newz); (focus (first | rfl | (simp; done)))) | (with_reducible apply row_same) | ((with_reducible apply row_else); (focus (first | (simp; done) | (simp; omega) | omega))) | (with_reducible apply row_alloc) | (with_reducible apply row_drew) | (with_reducible apply row_drewN) | ((with_reducible apply row_up); assumption)))), (by repeat (first | assumption | (with_reducible apply Up.of) | (with_reducible exact Below.refl _ _) | (with_reducible exact Up.refl _) | ((with_reducible apply bl_setRow); (focus (first | exact Nat.le_refl _ | (simp; done) | (simp; omega) | omega))) | (with_reducible apply below_drewN) | (with_reducible apply Below.drew) | ((with_reducible apply bl_alloc); (focus (first | exact Nat.le_refl _ | (simp; done) | (simp; omega) | omega))) | ((with_reducible apply bl_setCell); (focus (first | exact Nat.le_refl _ | (simp; done) | (simp; omega) | omega))) | ((with_reducible apply up_tr); assumption)))⟩ (fun wS hSS => ?_)
        have ⟨hS1, hS2, hS3, hS4, hSB⟩ := hSS
        clear hu
        refine wpAnyU_take (i := 0) (d := (some 10)) (v := _) rfl rfl (by kernel_rfl) (fun _ _ _ h => h) (fun _ _ h hu => ⟨(h.1).up hu, (h.2.1).up hu, (h.2.2.1).up hu, (h.2.2.2.1).up hu, below_up (h.2.2.2.2) hu⟩) hSS (Or.inl ⟨by rfl, fun w' hSw => yu_value (run_ld undW infoW _ rfl _ rfl hSw.1)⟩) ?_
        try simp only [Act.put, pu1, pu2, pu3]
        refine wpAnyU_take (i := 1) (d := (some 11)) (v := _) rfl rfl (by kernel_rfl) (fun _ _ _ h => h) (fun _ _ h hu => ⟨(h.1).up hu, (h.2.1).up hu, (h.2.2.1).up hu, (h.2.2.2.1).up hu, below_up (h.2.2.2.2) hu⟩) hSS (Or.inl ⟨by rfl, fun w' hSw => yu_call ?_ (HA.out _)⟩) ?_
        · go_simp
        try simp only [Act.put, pu1, pu2, pu3]
        refine wpAnyU_take (i := 2) (d := (some 12)) (v := _) rfl rfl (by kernel_rfl) (fun _ _ _ h => h) (fun _ _ h hu => ⟨(h.1).up hu, (h.2.1).up hu, (h.2.2.1).up hu, (h.2.2.2.1).up hu, below_up (h.2.2.2.2) hu⟩) hSS (Or.inl ⟨by rfl, fun w' hSw => yu_value (run_ld undW infoW _ rfl _ rfl hSw.2.1)⟩) ?_
        try simp only [Act.put, pu1, pu2, pu3]
        refine wpAnyU_take (i := 3) (d := (some 13)) (v := _) rfl rfl (by kernel_rfl) (fun _ _ _ h => h) (fun _ _ h hu => ⟨(h.1).up hu, (h.2.1).up hu, (h.2.2.1).up hu, (h.2.2.2.1).up hu, below_up (h.2.2.2.2) hu⟩) hSS (Or.inl ⟨by rfl, fun w' hSw => yu_call ?_ (HB.out _)⟩) ?_
        · go_simp
        try simp only [Act.put, pu1, pu2, pu3]
        refine wpAnyU_pure (i := 4) (d := (some 14)) (v := ?_) rfl rfl (by kernel_rfl) (fun _ _ _ h => h) (fun _ _ h hu => ⟨(h.1).up hu, (h.2.1).up hu, (h.2.2.1).up hu, (h.2.2.2.1).up hu, below_up (h.2.2.2.2) hu⟩) (Or.inl ⟨by rfl, fun w' _ => yu_value ?_⟩) ?_
        rotate_left
        · (go_simp; (try exact rfl))
        try simp only [Act.put, pu1, pu2, pu3]
        refine wpAnyU_pure (i := 5) (d := (some 15)) (v := ?_) rfl rfl (by kernel_rfl) (fun _ _ _ h => h) (fun _ _ h hu => ⟨(h.1).up hu, (h.2.1).up hu, (h.2.2.1).up hu, (h.2.2.2.1).up hu, below_up (h.2.2.2.2) hu⟩) (Or.inl ⟨by rfl, fun w' _ => yu_value ?_⟩) ?_
        rotate_left
        · (go_simp; (try exact rfl))
        try simp only [Act.put, pu1, pu2, pu3]
        refine wpAnyU_take (i := 6) (d := (some 16)) (v := _) rfl rfl (by kernel_rfl) (fun _ _ _ h => h) (fun _ _ h hu => ⟨(h.1).up hu, (h.2.1).up hu, (h.2.2.1).up hu, (h.2.2.2.1).up hu, below_up (h.2.2.2.2) hu⟩) hSS (Or.inl ⟨by rfl, fun w' hSw => yu_value (run_ld undW infoW _ rfl _ rfl hSw.2.2.2.1)⟩) ?_
        try simp only [Act.put, pu1, pu2, pu3]
        refine wpAnyU_take (i := 7) (d := (some 17)) (v := _) rfl rfl (by kernel_rfl) (fun _ _ _ h => h) (fun _ _ h hu => ⟨(h.1).up hu, (h.2.1).up hu, (h.2.2.1).up hu, (h.2.2.2.1).up hu, below_up (h.2.2.2.2) hu⟩) hSS (Or.inl ⟨by rfl, fun w' hSw => yu_call ?_ (HM.out _)⟩) ?_
        · go_simp
        try simp only [Act.put, pu1, pu2, pu3]
        refine wpAnyU_take (i := 8) (d := (some 18)) (v := _) rfl rfl (by kernel_rfl) (fun _ _ _ h => h) (fun _ _ h hu => ⟨(h.1).up hu, (h.2.1).up hu, (h.2.2.1).up hu, (h.2.2.2.1).up hu, below_up (h.2.2.2.2) hu⟩) hSS (Or.inl ⟨by rfl, fun w' hSw => yu_value (run_ld undW infoW _ rfl _ rfl hSw.1)⟩) ?_
        try simp only [Act.put, pu1, pu2, pu3]
        refine wpAnyU_take (i := 9) (d := (some 19)) (v := _) rfl rfl (by kernel_rfl) (fun _ _ _ h => h) (fun _ _ h hu => ⟨(h.1).up hu, (h.2.1).up hu, (h.2.2.1).up hu, (h.2.2.2.1).up hu, below_up (h.2.2.2.2) hu⟩) hSS (Or.inl ⟨by rfl, fun w' hSw => yu_call ?_ (HA.out _)⟩) ?_
        · go_simp
        try simp only [Act.put, pu1, pu2, pu3]
        refine wpAnyU_pure (i := 10) (d := (some 20)) (v := ?_) rfl rfl (by kernel_rfl) (fun _ _ _ h => h) (fun _ _ h hu => ⟨(h.1).up hu, (h.2.1).up hu, (h.2.2.1).up hu, (h.2.2.2.1).up hu, below_up (h.2.2.2.2) hu⟩) (Or.inl ⟨by rfl, fun w' _ => yu_value ?_⟩) ?_
        rotate_left
        · (go_simp; (try exact rfl))
        try simp only [Act.put, pu1, pu2, pu3]
        refine wpAnyU_pure (i := 11) (d := (some 21)) (v := ?_) rfl rfl (by kernel_rfl) (fun _ _ _ h => h) (fun _ _ h hu => ⟨(h.1).up hu, (h.2.1).up hu, (h.2.2.1).up hu, (h.2.2.2.1).up hu, below_up (h.2.2.2.2) hu⟩) (Or.inl ⟨by rfl, fun w' _ => yu_value ?_⟩) ?_
        rotate_left
        · (go_simp; (try exact rfl))
        try simp only [Act.put, pu1, pu2, pu3]
        refine wpAnyU_done (by kernel_rfl) (fun wE huE => ?_) _
        have ⟨hS1, hS2, hS3, hS4, hSB⟩ := ((fun _ _ h hu => ⟨(h.1).up hu, (h.2.1).up hu, (h.2.2.1).up hu, (h.2.2.2.1).up hu, below_up (h.2.2.2.2) hu⟩) : ∀ w1 w2 : World, (fun wq => Row wq w.heap.size 54 16 (limb (enc a)) ∧ Row wq (w.heap.size + 1) 54 16 (limb (enc b)) ∧ Row wq (w.heap.size + 1 + 1) 54 16 (fun _ => 0) ∧ Row wq w'.heap.size 54 16 (limb (enc (a + b))) ∧ Below w.heap.size w wq) w1 → Up w1 w2 → (fun wq => Row wq w.heap.size 54 16 (limb (enc a)) ∧ Row wq (w.heap.size + 1) 54 16 (limb (enc b)) ∧ Row wq (w.heap.size + 1 + 1) 54 16 (fun _ => 0) ∧ Row wq w'.heap.size 54 16 (limb (enc (a + b))) ∧ Below w.heap.size w wq) w2) _ _ hSS huE
        clear huE hSS
        go_wp2_with (first | ((with_reducible apply ld_rowP undW infoW); exact rfl; exact rfl; focus (repeat (first | assumption | ((with_reducible apply row_newc); (focus (first | rfl | (simp; done)))) | ((with_reducible apply row_newz); (focus (first | rfl | (simp; done)))) | (with_reducible apply row_same) | ((with_reducible apply row_else); (focus (first | (simp; done) | (simp; omega) | omega))) | (with_reducible apply row_alloc) | (with_reducible apply row_drew) | (with_reducible apply row_drewN) | ((with_reducible apply row_up); assumption)))) | ((with_reducible apply st_rowP infoW); exact rfl; exact rfl; focus (repeat (first | assumption | ((with_reducible apply row_newc); (focus (first | rfl | (simp; done)))) | ((with_reducible apply row_newz); (focus (first | rfl | (simp; done)))) | (with_reducible apply row_same) | ((with_reducible apply row_else); (focus (first | (simp; done) | (simp; omega) | omega))) | (with_reducible apply row_alloc) | (with_reducible apply row_drew) | (with_reducible apply row_drewN) | ((with_reducible apply row_up); assumption)))) | ((with_reducible apply st_rowZ infoW); exact rfl; exact rfl; focus (repeat (first | assumption | ((with_reducible apply row_newc); (focus (first | rfl | (simp; done)))) | ((with_reducible apply row_newz); (focus (first | rfl | (simp; done)))) | (with_reducible apply row_same) | ((with_reducible apply row_else); (focus (first | (simp; done) | (simp; omega) | omega))) | (with_reducible apply row_alloc) | (with_reducible apply row_drew) | (with_reducible apply row_drewN) | ((with_reducible apply row_up); assumption)))))
        exact bodyPost_ret (res2 rfl undW infoW _ _ rfl (by (repeat (first | assumption | ((with_reducible apply row_newc); (focus (first | rfl | (simp; done)))) | ((with_reducible apply row_newz); (focus (first | rfl | (simp; done)))) | (with_reducible apply row_same) | ((with_reducible apply row_else); (focus (first | (simp; done) | (simp; omega) | omega))) | (with_reducible apply row_alloc) | (with_reducible apply row_drew) | (with_reducible apply row_drewN) | ((with_reducible apply row_up); assumption))))) rfl ⟨rfl, (by repeat (first | assumption | (with_reducible apply Up.of) | (with_reducible exact Below.refl _ _) | (with_reducible exact Up.refl _) | ((with_reducible apply bl_setRow); (focus (first | exact Nat.le_refl _ | (simp; done) | (simp; omega) | omega))) | (with_reducible apply below_drewN) | (with_reducible apply Below.drew) | ((with_reducible apply bl_alloc); (focus (first | exact Nat.le_refl _ | (simp; done) | (simp; omega) | omega))) | ((with_reducible apply bl_setCell); (focus (first | exact Nat.le_refl _ | (simp; done) | (simp; omega) | omega))) | ((with_reducible apply up_tr); assumption)))⟩
    · have hd2 : decide (b < 0) = false := by simpa using b0
      rw [hd2] at HB
      rw [opt_yes (hk2 (by simp [a0, b0]))]
      clear hk1 hk2 hd hd2 a0 b0
      unfold wideV at *
      go_enter Tryz.func76, Tryz.ntmps76
      go_wp2_with (first | ((with_reducible apply ld_rowP undW infoW); exact rfl; exact rfl; focus (repeat (first | assumption | ((with_reducible apply row_newc); (focus (first | rfl | (simp; done)))) | ((with_reducible apply row_newz); (focus (first | rfl | (simp; done)))) | (with_reducible apply row_same) | ((with_reducible apply row_else); (focus (first | (simp; done) | (simp; omega) | omega))) | (with_reducible apply row_alloc) | (with_reducible apply row_drew) | (with_reducible apply row_drewN) | ((with_reducible apply row_up); assumption)))) | ((with_reducible apply st_rowP infoW); exact rfl; exact rfl; focus (repeat (first | assumption | ((with_reducible apply row_newc); (focus (first | rfl | (simp; done)))) | ((with_reducible apply row_newz); (focus (first | rfl | (simp; done)))) | (with_reducible apply row_same) | ((with_reducible apply row_else); (focus (first | (simp; done) | (simp; omega) | omega))) | (with_reducible apply row_alloc) | (with_reducible apply row_drew) | (with_reducible apply row_drewN) | ((with_reducible apply row_up); assumption)))) | ((with_reducible apply st_rowZ infoW); exact rfl; exact rfl; focus (repeat (first | assumption | ((with_reducible apply row_newc); (focus (first | rfl | (simp; done)))) | ((with_reducible apply row_newz); (focus (first | rfl | (simp; done)))) | (with_reducible apply row_same) | ((with_reducible apply row_else); (focus (first | (simp; done) | (simp; omega) | omega))) | (with_reducible apply row_alloc) | (with_reducible apply row_drew) | (with_reducible apply row_drewN) | ((with_reducible apply row_up); assumption)))) | (go_at_call 97; refine (HP.out _).mono ?_; rintro e w' ⟨rfl, hu⟩; have hsz := hu.size; simp at hsz))
      refine wp_region_upS (S := (fun wq => Row wq w.heap.size 54 16 (limb (enc a)) ∧ Row wq (w.heap.size + 1) 54 16 (limb (enc b)) ∧ Row wq (w.heap.size + 1 + 1) 54 16 (fun _ => 0) ∧ Row wq w'.heap.size 54 16 (limb (enc (a + b))) ∧ Below w.heap.size w wq)) (req := (fun _ => true)) (by kernel_rfl) (fun _ _ h hu => ⟨(h.1).up hu, (h.2.1).up hu, (h.2.2.1).up hu, (h.2.2.2.1).up hu, below_up (h.2.2.2.2) hu⟩) ⟨(by (repeat (first | assumption | ((with_reducible apply row_newc); (focus (first | rfl | (simp; done)))) | ((with_reducible apply row_newz); (focus (first | rfl | (simp; done)))) | (with_reducible apply row_same) | ((with_reducible apply row_else); (focus (first | (simp; done) | (simp; omega) | omega))) | (with_reducible apply row_alloc) | (with_reducible apply row_drew) | (with_reducible apply row_drewN) | ((with_reducible apply row_up); assumption)))), (by (repeat (first | assumption | ((with_reducible apply row_newc); (focus (first | rfl | (simp; done)))) | ((with_reducible apply row_newz); (focus (first | rfl | (simp; done)))) | (with_reducible apply row_same) | ((with_reducible apply row_else); (focus (first | (simp; done) | (simp; omega) | omega))) | (with_reducible apply row_alloc) | (with_reducible apply row_drew) | (with_reducible apply row_drewN) | ((with_reducible apply row_up); assumption)))), (by (repeat (first | assumption | ((with_reducible apply row_newc); (focus (first | rfl | (simp; done)))) | ((with_reducible apply row_newz); (focus (first | rfl | (simp; done)))) | (with_reducible apply row_same) | ((with_reducible apply row_else); (focus (first | (simp; done) | (simp; omega) | omega))) | (with_reducible apply row_alloc) | (with_reducible apply row_drew) | (with_reducible apply row_drewN) | ((with_reducible apply row_up); assumption)))), (by (repeat (first | assumption | ((with_reducible apply row_newc); (focus (first | rfl | (simp; done)))) | ((with_reducible apply row_newz); (focus (first | rfl | (simp; done)))) | (with_reducible apply row_same) | ((with_reducible apply row_else); (focus (first | (simp; done) | (simp; omega) | omega))) | (with_reducible apply row_alloc) | (with_reducible apply row_drew) | (with_reducible apply row_drewN) | ((with_reducible apply row_up); assumption)))), (by repeat (first | assumption | (with_reducible apply Up.of) | (with_reducible exact Below.refl _ _) | (with_reducible exact Up.refl _) | ((with_reducible apply bl_setRow); (focus (first | exact Nat.le_refl _ | (simp; done) | (simp; omega) | omega))) | (with_reducible apply below_drewN) | (with_reducible apply Below.drew) | ((with_reducible apply bl_alloc); (focus (first | exact Nat.le_refl _ | (simp; done) | (simp; omega) | omega))) | ((with_reducible apply bl_setCell); (focus (first | exact Nat.le_refl _ | (simp; done) | (simp; omega) | omega))) | ((with_reducible apply up_tr); assumption)))⟩ (fun wS hSS => ?_)
      have ⟨hS1, hS2, hS3, hS4, hSB⟩ := hSS
      clear hu
      refine wpAnyU_take (i := 0) (d := (some 10)) (v := _) rfl rfl (by kernel_rfl) (fun _ _ _ h => h) (fun _ _ h hu => ⟨(h.1).up hu, (h.2.1).up hu, (h.2.2.1).up hu, (h.2.2.2.1).up hu, below_up (h.2.2.2.2) hu⟩) hSS (Or.inl ⟨by rfl, fun w' hSw => yu_value (run_ld undW infoW _ rfl _ rfl hSw.1)⟩) ?_
      try simp only [Act.put, pu1, pu2, pu3]
      refine wpAnyU_take (i := 1) (d := (some 11)) (v := _) rfl rfl (by kernel_rfl) (fun _ _ _ h => h) (fun _ _ h hu => ⟨(h.1).up hu, (h.2.1).up hu, (h.2.2.1).up hu, (h.2.2.2.1).up hu, below_up (h.2.2.2.2) hu⟩) hSS (Or.inl ⟨by rfl, fun w' hSw => yu_call ?_ (HA.out _)⟩) ?_
      · go_simp
      try simp only [Act.put, pu1, pu2, pu3]
      refine wpAnyU_take (i := 2) (d := (some 12)) (v := _) rfl rfl (by kernel_rfl) (fun _ _ _ h => h) (fun _ _ h hu => ⟨(h.1).up hu, (h.2.1).up hu, (h.2.2.1).up hu, (h.2.2.2.1).up hu, below_up (h.2.2.2.2) hu⟩) hSS (Or.inl ⟨by rfl, fun w' hSw => yu_value (run_ld undW infoW _ rfl _ rfl hSw.2.1)⟩) ?_
      try simp only [Act.put, pu1, pu2, pu3]
      refine wpAnyU_take (i := 3) (d := (some 13)) (v := _) rfl rfl (by kernel_rfl) (fun _ _ _ h => h) (fun _ _ h hu => ⟨(h.1).up hu, (h.2.1).up hu, (h.2.2.1).up hu, (h.2.2.2.1).up hu, below_up (h.2.2.2.2) hu⟩) hSS (Or.inl ⟨by rfl, fun w' hSw => yu_call ?_ (HB.out _)⟩) ?_
      · go_simp
      try simp only [Act.put, pu1, pu2, pu3]
      refine wpAnyU_pure (i := 4) (d := (some 14)) (v := ?_) rfl rfl (by kernel_rfl) (fun _ _ _ h => h) (fun _ _ h hu => ⟨(h.1).up hu, (h.2.1).up hu, (h.2.2.1).up hu, (h.2.2.2.1).up hu, below_up (h.2.2.2.2) hu⟩) (Or.inl ⟨by rfl, fun w' _ => yu_value ?_⟩) ?_
      rotate_left
      · (go_simp; (try exact rfl))
      try simp only [Act.put, pu1, pu2, pu3]
      refine wpAnyU_pure (i := 5) (d := (some 15)) (v := ?_) rfl rfl (by kernel_rfl) (fun _ _ _ h => h) (fun _ _ h hu => ⟨(h.1).up hu, (h.2.1).up hu, (h.2.2.1).up hu, (h.2.2.2.1).up hu, below_up (h.2.2.2.2) hu⟩) (Or.inl ⟨by rfl, fun w' _ => yu_value ?_⟩) ?_
      rotate_left
      · (go_simp; (try exact rfl))
      try simp only [Act.put, pu1, pu2, pu3]
      refine wpAnyU_pure (i := 6) (d := (some 16)) (v := undef) rfl rfl (by kernel_rfl) (fun _ _ _ h => h) (fun _ _ h hu => ⟨(h.1).up hu, (h.2.1).up hu, (h.2.2.1).up hu, (h.2.2.2.1).up hu, below_up (h.2.2.2.2) hu⟩) (Or.inr ⟨by rfl, rfl⟩) ?_
      try simp only [Act.put, pu1, pu2, pu3]
      refine wpAnyU_pure (i := 7) (d := (some 17)) (v := undef) rfl rfl (by kernel_rfl) (fun _ _ _ h => h) (fun _ _ h hu => ⟨(h.1).up hu, (h.2.1).up hu, (h.2.2.1).up hu, (h.2.2.2.1).up hu, below_up (h.2.2.2.2) hu⟩) (Or.inr ⟨by rfl, rfl⟩) ?_
      try simp only [Act.put, pu1, pu2, pu3]
      refine wpAnyU_pure (i := 8) (d := (some 18)) (v := undef) rfl rfl (by kernel_rfl) (fun _ _ _ h => h) (fun _ _ h hu => ⟨(h.1).up hu, (h.2.1).up hu, (h.2.2.1).up hu, (h.2.2.2.1).up hu, below_up (h.2.2.2.2) hu⟩) (Or.inr ⟨by rfl, rfl⟩) ?_
      try simp only [Act.put, pu1, pu2, pu3]
      refine wpAnyU_pure (i := 9) (d := (some 19)) (v := undef) rfl rfl (by kernel_rfl) (fun _ _ _ h => h) (fun _ _ h hu => ⟨(h.1).up hu, (h.2.1).up hu, (h.2.2.1).up hu, (h.2.2.2.1).up hu, below_up (h.2.2.2.2) hu⟩) (Or.inr ⟨by rfl, rfl⟩) ?_
      try simp only [Act.put, pu1, pu2, pu3]
      refine wpAnyU_pure (i := 10) (d := (some 20)) (v := undef) rfl rfl (by kernel_rfl) (fun _ _ _ h => h) (fun _ _ h hu => ⟨(h.1).up hu, (h.2.1).up hu, (h.2.2.1).up hu, (h.2.2.2.1).up hu, below_up (h.2.2.2.2) hu⟩) (Or.inr ⟨by rfl, rfl⟩) ?_
      try simp only [Act.put, pu1, pu2, pu3]
      refine wpAnyU_pure (i := 11) (d := (some 21)) (v := ?_) rfl rfl (by kernel_rfl) (fun _ _ _ h => h) (fun _ _ h hu => ⟨(h.1).up hu, (h.2.1).up hu, (h.2.2.1).up hu, (h.2.2.2.1).up hu, below_up (h.2.2.2.2) hu⟩) (Or.inl ⟨by rfl, fun w' _ => yu_value ?_⟩) ?_
      rotate_left
      · (go_simp; (try exact rfl))
      try simp only [Act.put, pu1, pu2, pu3]
      refine wpAnyU_done (by kernel_rfl) (fun wE huE => ?_) _
      have ⟨hS1, hS2, hS3, hS4, hSB⟩ := ((fun _ _ h hu => ⟨(h.1).up hu, (h.2.1).up hu, (h.2.2.1).up hu, (h.2.2.2.1).up hu, below_up (h.2.2.2.2) hu⟩) : ∀ w1 w2 : World, (fun wq => Row wq w.heap.size 54 16 (limb (enc a)) ∧ Row wq (w.heap.size + 1) 54 16 (limb (enc b)) ∧ Row wq (w.heap.size + 1 + 1) 54 16 (fun _ => 0) ∧ Row wq w'.heap.size 54 16 (limb (enc (a + b))) ∧ Below w.heap.size w wq) w1 → Up w1 w2 → (fun wq => Row wq w.heap.size 54 16 (limb (enc a)) ∧ Row wq (w.heap.size + 1) 54 16 (limb (enc b)) ∧ Row wq (w.heap.size + 1 + 1) 54 16 (fun _ => 0) ∧ Row wq w'.heap.size 54 16 (limb (enc (a + b))) ∧ Below w.heap.size w wq) w2) _ _ hSS huE
      clear huE hSS
      go_wp2_with (first | ((with_reducible apply ld_rowP undW infoW); exact rfl; exact rfl; focus (repeat (first | assumption | ((with_reducible apply row_newc); (focus (first | rfl | (simp; done)))) | ((with_reducible apply row_newz); (focus (first | rfl | (simp; done)))) | (with_reducible apply row_same) | ((with_reducible apply row_else); (focus (first | (simp; done) | (simp; omega) | omega))) | (with_reducible apply row_alloc) | (with_reducible apply row_drew) | (with_reducible apply row_drewN) | ((with_reducible apply row_up); assumption)))) | ((with_reducible apply st_rowP infoW); exact rfl; exact rfl; focus (repeat (first | assumption | ((with_reducible apply row_newc); (focus (first | rfl | (simp; done)))) | ((with_reducible apply row_newz); (focus (first | rfl | (simp; done)))) | (with_reducible apply row_same) | ((with_reducible apply row_else); (focus (first | (simp; done) | (simp; omega) | omega))) | (with_reducible apply row_alloc) | (with_reducible apply row_drew) | (with_reducible apply row_drewN) | ((with_reducible apply row_up); assumption)))) | ((with_reducible apply st_rowZ infoW); exact rfl; exact rfl; focus (repeat (first | assumption | ((with_reducible apply row_newc); (focus (first | rfl | (simp; done)))) | ((with_reducible apply row_newz); (focus (first | rfl | (simp; done)))) | (with_reducible apply row_same) | ((with_reducible apply row_else); (focus (first | (simp; done) | (simp; omega) | omega))) | (with_reducible apply row_alloc) | (with_reducible apply row_drew) | (with_reducible apply row_drewN) | ((with_reducible apply row_up); assumption)))))
      exact bodyPost_ret (res2 rfl undW infoW _ _ rfl (by (repeat (first | assumption | ((with_reducible apply row_newc); (focus (first | rfl | (simp; done)))) | ((with_reducible apply row_newz); (focus (first | rfl | (simp; done)))) | (with_reducible apply row_same) | ((with_reducible apply row_else); (focus (first | (simp; done) | (simp; omega) | omega))) | (with_reducible apply row_alloc) | (with_reducible apply row_drew) | (with_reducible apply row_drewN) | ((with_reducible apply row_up); assumption))))) rfl ⟨rfl, (by repeat (first | assumption | (with_reducible apply Up.of) | (with_reducible exact Below.refl _ _) | (with_reducible exact Up.refl _) | ((with_reducible apply bl_setRow); (focus (first | exact Nat.le_refl _ | (simp; done) | (simp; omega) | omega))) | (with_reducible apply below_drewN) | (with_reducible apply Below.drew) | ((with_reducible apply bl_alloc); (focus (first | exact Nat.le_refl _ | (simp; done) | (simp; omega) | omega))) | ((with_reducible apply bl_setCell); (focus (first | exact Nat.le_refl _ | (simp; done) | (simp; omega) | omega))) | ((with_reducible apply up_tr); assumption)))⟩
  · have hd : decide (a < 0) = false := by simpa using a0
    rw [hd] at HA hk1
    by_cases b0 : b < 0
    · have hd2 : decide (b < 0) = true := by simpa using b0
      rw [hd2] at HB
      rw [opt_yes (hk2 (by simp [a0, b0]))]
      clear hk1 hk2 hd hd2 a0 b0
      unfold wideV at *
      go_enter Tryz.func76, Tryz.ntmps76
      go_wp2_with (first | ((with_reducible apply ld_rowP undW infoW); exact rfl; exact rfl; focus (repeat (first | assumption | ((with_reducible apply row_newc); (focus (first | rfl | (simp; done)))) | ((with_reducible apply row_newz); (focus (first | rfl | (simp; done)))) | (with_reducible apply row_same) | ((with_reducible apply row_else); (focus (first | (simp; done) | (simp; omega) | omega))) | (with_reducible apply row_alloc) | (with_reducible apply row_drew) | (with_reducible apply row_drewN) | ((with_reducible apply row_up); assumption)))) | ((with_reducible apply st_rowP infoW); exact rfl; exact rfl; focus (repeat (first | assumption | ((with_reducible apply row_newc); (focus (first | rfl | (simp; done)))) | ((with_reducible apply row_newz); (focus (first | rfl | (simp; done)))) | (with_reducible apply row_same) | ((with_reducible apply row_else); (focus (first | (simp; done) | (simp; omega) | omega))) | (with_reducible apply row_alloc) | (with_reducible apply row_drew) | (with_reducible apply row_drewN) | ((with_reducible apply row_up); assumption)))) | ((with_reducible apply st_rowZ infoW); exact rfl; exact rfl; focus (repeat (first | assumption | ((with_reducible apply row_newc); (focus (first | rfl | (simp; done)))) | ((with_reducible apply row_newz); (focus (first | rfl | (simp; done)))) | (with_reducible apply row_same) | ((with_reducible apply row_else); (focus (first | (simp; done) | (simp; omega) | omega))) | (with_reducible apply row_alloc) | (with_reducible apply row_drew) | (with_reducible apply row_drewN) | ((with_reducible apply row_up); assumption)))) | (go_at_call 97; refine (HP.out _).mono ?_; rintro e w' ⟨rfl, hu⟩; have hsz := hu.size; simp at hsz))
      refine wp_region_upS (S := (fun wq => Row wq w.heap.size 54 16 (limb (enc a)) ∧ Row wq (w.heap.size + 1) 54 16 (limb (enc b)) ∧ Row wq (w.heap.size + 1 + 1) 54 16 (fun _ => 0) ∧ Row wq w'.heap.size 54 16 (limb (enc (a + b))) ∧ Below w.heap.size w wq)) (req := (fun _ => true)) (by kernel_rfl) (fun _ _ h hu => ⟨(h.1).up hu, (h.2.1).up hu, (h.2.2.1).up hu, (h.2.2.2.1).up hu, below_up (h.2.2.2.2) hu⟩) ⟨(by (repeat (first | assumption | ((with_reducible apply row_newc); (focus (first | rfl | (simp; done)))) | ((with_reducible apply row_newz); (focus (first | rfl | (simp; done)))) | (with_reducible apply row_same) | ((with_reducible apply row_else); (focus (first | (simp; done) | (simp; omega) | omega))) | (with_reducible apply row_alloc) | (with_reducible apply row_drew) | (with_reducible apply row_drewN) | ((with_reducible apply row_up); assumption)))), (by (repeat (first | assumption | ((with_reducible apply row_newc); (focus (first | rfl | (simp; done)))) | ((with_reducible apply row_newz); (focus (first | rfl | (simp; done)))) | (with_reducible apply row_same) | ((with_reducible apply row_else); (focus (first | (simp; done) | (simp; omega) | omega))) | (with_reducible apply row_alloc) | (with_reducible apply row_drew) | (with_reducible apply row_drewN) | ((with_reducible apply row_up); assumption)))), (by (repeat (first | assumption | ((with_reducible apply row_newc); (focus (first | rfl | (simp; done)))) | ((with_reducible apply row_newz); (focus (first | rfl | (simp; done)))) | (with_reducible apply row_same) | ((with_reducible apply row_else); (focus (first | (simp; done) | (simp; omega) | omega))) | (with_reducible apply row_alloc) | (with_reducible apply row_drew) | (with_reducible apply row_drewN) | ((with_reducible apply row_up); assumption)))), (by (repeat (first | assumption | ((with_reducible apply row_newc); (focus (first | rfl | (simp; done)))) | ((with_reducible apply row_newz); (focus (first | rfl | (simp; done)))) | (with_reducible apply row_same) | ((with_reducible apply row_else); (focus (first | (simp; done) | (simp; omega) | omega))) | (with_reducible apply row_alloc) | (with_reducible apply row_drew) | (with_reducible apply row_drewN) | ((with_reducible apply row_up); assumption)))), (by repeat (first | assumption | (with_reducible apply Up.of) | (with_reducible exact Below.refl _ _) | (with_reducible exact Up.refl _) | ((with_reducible apply bl_setRow); (focus (first | exact Nat.le_refl _ | (simp; done) | (simp; omega) | omega))) | (with_reducible apply below_drewN) | (with_reducible apply Below.drew) | ((with_reducible apply bl_alloc); (focus (first | exact Nat.le_refl _ | (simp; done) | (simp; omega) | omega))) | ((with_reducible apply bl_setCell); (focus (first | exact Nat.le_refl _ | (simp; done) | (simp; omega) | omega))) | ((with_reducible apply up_tr); assumption)))⟩ (fun wS hSS => ?_)
      have ⟨hS1, hS2, hS3, hS4, hSB⟩ := hSS
      clear hu
      refine wpAnyU_take (i := 0) (d := (some 10)) (v := _) rfl rfl (by kernel_rfl) (fun _ _ _ h => h) (fun _ _ h hu => ⟨(h.1).up hu, (h.2.1).up hu, (h.2.2.1).up hu, (h.2.2.2.1).up hu, below_up (h.2.2.2.2) hu⟩) hSS (Or.inl ⟨by rfl, fun w' hSw => yu_value (run_ld undW infoW _ rfl _ rfl hSw.1)⟩) ?_
      try simp only [Act.put, pu1, pu2, pu3]
      refine wpAnyU_take (i := 1) (d := (some 11)) (v := _) rfl rfl (by kernel_rfl) (fun _ _ _ h => h) (fun _ _ h hu => ⟨(h.1).up hu, (h.2.1).up hu, (h.2.2.1).up hu, (h.2.2.2.1).up hu, below_up (h.2.2.2.2) hu⟩) hSS (Or.inl ⟨by rfl, fun w' hSw => yu_call ?_ (HA.out _)⟩) ?_
      · go_simp
      try simp only [Act.put, pu1, pu2, pu3]
      refine wpAnyU_take (i := 2) (d := (some 12)) (v := _) rfl rfl (by kernel_rfl) (fun _ _ _ h => h) (fun _ _ h hu => ⟨(h.1).up hu, (h.2.1).up hu, (h.2.2.1).up hu, (h.2.2.2.1).up hu, below_up (h.2.2.2.2) hu⟩) hSS (Or.inl ⟨by rfl, fun w' hSw => yu_value (run_ld undW infoW _ rfl _ rfl hSw.2.1)⟩) ?_
      try simp only [Act.put, pu1, pu2, pu3]
      refine wpAnyU_take (i := 3) (d := (some 13)) (v := _) rfl rfl (by kernel_rfl) (fun _ _ _ h => h) (fun _ _ h hu => ⟨(h.1).up hu, (h.2.1).up hu, (h.2.2.1).up hu, (h.2.2.2.1).up hu, below_up (h.2.2.2.2) hu⟩) hSS (Or.inl ⟨by rfl, fun w' hSw => yu_call ?_ (HB.out _)⟩) ?_
      · go_simp
      try simp only [Act.put, pu1, pu2, pu3]
      refine wpAnyU_pure (i := 4) (d := (some 14)) (v := ?_) rfl rfl (by kernel_rfl) (fun _ _ _ h => h) (fun _ _ h hu => ⟨(h.1).up hu, (h.2.1).up hu, (h.2.2.1).up hu, (h.2.2.2.1).up hu, below_up (h.2.2.2.2) hu⟩) (Or.inl ⟨by rfl, fun w' _ => yu_value ?_⟩) ?_
      rotate_left
      · (go_simp; (try exact rfl))
      try simp only [Act.put, pu1, pu2, pu3]
      refine wpAnyU_pure (i := 5) (d := (some 15)) (v := ?_) rfl rfl (by kernel_rfl) (fun _ _ _ h => h) (fun _ _ h hu => ⟨(h.1).up hu, (h.2.1).up hu, (h.2.2.1).up hu, (h.2.2.2.1).up hu, below_up (h.2.2.2.2) hu⟩) (Or.inl ⟨by rfl, fun w' _ => yu_value ?_⟩) ?_
      rotate_left
      · (go_simp; (try exact rfl))
      try simp only [Act.put, pu1, pu2, pu3]
      refine wpAnyU_pure (i := 6) (d := (some 16)) (v := undef) rfl rfl (by kernel_rfl) (fun _ _ _ h => h) (fun _ _ h hu => ⟨(h.1).up hu, (h.2.1).up hu, (h.2.2.1).up hu, (h.2.2.2.1).up hu, below_up (h.2.2.2.2) hu⟩) (Or.inr ⟨by rfl, rfl⟩) ?_
      try simp only [Act.put, pu1, pu2, pu3]
      refine wpAnyU_pure (i := 7) (d := (some 17)) (v := undef) rfl rfl (by kernel_rfl) (fun _ _ _ h => h) (fun _ _ h hu => ⟨(h.1).up hu, (h.2.1).up hu, (h.2.2.1).up hu, (h.2.2.2.1).up hu, below_up (h.2.2.2.2) hu⟩) (Or.inr ⟨by rfl, rfl⟩) ?_
      try simp only [Act.put, pu1, pu2, pu3]
      refine wpAnyU_pure (i := 8) (d := (some 18)) (v := undef) rfl rfl (by kernel_rfl) (fun _ _ _ h => h) (fun _ _ h hu => ⟨(h.1).up hu, (h.2.1).up hu, (h.2.2.1).up hu, (h.2.2.2.1).up hu, below_up (h.2.2.2.2) hu⟩) (Or.inr ⟨by rfl, rfl⟩) ?_
      try simp only [Act.put, pu1, pu2, pu3]
      refine wpAnyU_pure (i := 9) (d := (some 19)) (v := undef) rfl rfl (by kernel_rfl) (fun _ _ _ h => h) (fun _ _ h hu => ⟨(h.1).up hu, (h.2.1).up hu, (h.2.2.1).up hu, (h.2.2.2.1).up hu, below_up (h.2.2.2.2) hu⟩) (Or.inr ⟨by rfl, rfl⟩) ?_
      try simp only [Act.put, pu1, pu2, pu3]
      refine wpAnyU_pure (i := 10) (d := (some 20)) (v := undef) rfl rfl (by kernel_rfl) (fun _ _ _ h => h) (fun _ _ h hu => ⟨(h.1).up hu, (h.2.1).up hu, (h.2.2.1).up hu, (h.2.2.2.1).up hu, below_up (h.2.2.2.2) hu⟩) (Or.inr ⟨by rfl, rfl⟩) ?_
      try simp only [Act.put, pu1, pu2, pu3]
      refine wpAnyU_pure (i := 11) (d := (some 21)) (v := ?_) rfl rfl (by kernel_rfl) (fun _ _ _ h => h) (fun _ _ h hu => ⟨(h.1).up hu, (h.2.1).up hu, (h.2.2.1).up hu, (h.2.2.2.1).up hu, below_up (h.2.2.2.2) hu⟩) (Or.inl ⟨by rfl, fun w' _ => yu_value ?_⟩) ?_
      rotate_left
      · (go_simp; (try exact rfl))
      try simp only [Act.put, pu1, pu2, pu3]
      refine wpAnyU_done (by kernel_rfl) (fun wE huE => ?_) _
      have ⟨hS1, hS2, hS3, hS4, hSB⟩ := ((fun _ _ h hu => ⟨(h.1).up hu, (h.2.1).up hu, (h.2.2.1).up hu, (h.2.2.2.1).up hu, below_up (h.2.2.2.2) hu⟩) : ∀ w1 w2 : World, (fun wq => Row wq w.heap.size 54 16 (limb (enc a)) ∧ Row wq (w.heap.size + 1) 54 16 (limb (enc b)) ∧ Row wq (w.heap.size + 1 + 1) 54 16 (fun _ => 0) ∧ Row wq w'.heap.size 54 16 (limb (enc (a + b))) ∧ Below w.heap.size w wq) w1 → Up w1 w2 → (fun wq => Row wq w.heap.size 54 16 (limb (enc a)) ∧ Row wq (w.heap.size + 1) 54 16 (limb (enc b)) ∧ Row wq (w.heap.size + 1 + 1) 54 16 (fun _ => 0) ∧ Row wq w'.heap.size 54 16 (limb (enc (a + b))) ∧ Below w.heap.size w wq) w2) _ _ hSS huE
      clear huE hSS
      go_wp2_with (first | ((with_reducible apply ld_rowP undW infoW); exact rfl; exact rfl; focus (repeat (first | assumption | ((with_reducible apply row_newc); (focus (first | rfl | (simp; done)))) | ((with_reducible apply row_newz); (focus (first | rfl | (simp; done)))) | (with_reducible apply row_same) | ((with_reducible apply row_else); (focus (first | (simp; done) | (simp; omega) | omega))) | (with_reducible apply row_alloc) | (with_reducible apply row_drew) | (with_reducible apply row_drewN) | ((with_reducible apply row_up); assumption)))) | ((with_reducible apply st_rowP infoW); exact rfl; exact rfl; focus (repeat (first | assumption | ((with_reducible apply row_newc); (focus (first | rfl | (simp; done)))) | ((with_reducible apply row_newz); (focus (first | rfl | (simp; done)))) | (with_reducible apply row_same) | ((with_reducible apply row_else); (focus (first | (simp; done) | (simp; omega) | omega))) | (with_reducible apply row_alloc) | (with_reducible apply row_drew) | (with_reducible apply row_drewN) | ((with_reducible apply row_up); assumption)))) | ((with_reducible apply st_rowZ infoW); exact rfl; exact rfl; focus (repeat (first | assumption | ((with_reducible apply row_newc); (focus (first | rfl | (simp; done)))) | ((with_reducible apply row_newz); (focus (first | rfl | (simp; done)))) | (with_reducible apply row_same) | ((with_reducible apply row_else); (focus (first | (simp; done) | (simp; omega) | omega))) | (with_reducible apply row_alloc) | (with_reducible apply row_drew) | (with_reducible apply row_drewN) | ((with_reducible apply row_up); assumption)))))
      exact bodyPost_ret (res2 rfl undW infoW _ _ rfl (by (repeat (first | assumption | ((with_reducible apply row_newc); (focus (first | rfl | (simp; done)))) | ((with_reducible apply row_newz); (focus (first | rfl | (simp; done)))) | (with_reducible apply row_same) | ((with_reducible apply row_else); (focus (first | (simp; done) | (simp; omega) | omega))) | (with_reducible apply row_alloc) | (with_reducible apply row_drew) | (with_reducible apply row_drewN) | ((with_reducible apply row_up); assumption))))) rfl ⟨rfl, (by repeat (first | assumption | (with_reducible apply Up.of) | (with_reducible exact Below.refl _ _) | (with_reducible exact Up.refl _) | ((with_reducible apply bl_setRow); (focus (first | exact Nat.le_refl _ | (simp; done) | (simp; omega) | omega))) | (with_reducible apply below_drewN) | (with_reducible apply Below.drew) | ((with_reducible apply bl_alloc); (focus (first | exact Nat.le_refl _ | (simp; done) | (simp; omega) | omega))) | ((with_reducible apply bl_setCell); (focus (first | exact Nat.le_refl _ | (simp; done) | (simp; omega) | omega))) | ((with_reducible apply up_tr); assumption)))⟩
    · have hd2 : decide (b < 0) = false := by simpa using b0
      rw [hd2] at HB
      have hk := hk1 (by simp [a0, b0])
      by_cases hs : hb ≤ enc (a + b)
      · have hd3 : decide (hb ≤ enc (a + b)) = true := by simpa using hs
        rw [hd3] at HM hk
        rw [opt_no fun h => by simpa using hk.2 h]
        clear hk1 hk2 hk hs hd hd2 hd3 a0 b0
        unfold wideV at *
        go_enter Tryz.func76, Tryz.ntmps76
        go_wp2_with (first | ((with_reducible apply ld_rowP undW infoW); exact rfl; exact rfl; focus (repeat (first | assumption | ((with_reducible apply row_newc); (focus (first | rfl | (simp; done)))) | ((with_reducible apply row_newz); (focus (first | rfl | (simp; done)))) | (with_reducible apply row_same) | ((with_reducible apply row_else); (focus (first | (simp; done) | (simp; omega) | omega))) | (with_reducible apply row_alloc) | (with_reducible apply row_drew) | (with_reducible apply row_drewN) | ((with_reducible apply row_up); assumption)))) | ((with_reducible apply st_rowP infoW); exact rfl; exact rfl; focus (repeat (first | assumption | ((with_reducible apply row_newc); (focus (first | rfl | (simp; done)))) | ((with_reducible apply row_newz); (focus (first | rfl | (simp; done)))) | (with_reducible apply row_same) | ((with_reducible apply row_else); (focus (first | (simp; done) | (simp; omega) | omega))) | (with_reducible apply row_alloc) | (with_reducible apply row_drew) | (with_reducible apply row_drewN) | ((with_reducible apply row_up); assumption)))) | ((with_reducible apply st_rowZ infoW); exact rfl; exact rfl; focus (repeat (first | assumption | ((with_reducible apply row_newc); (focus (first | rfl | (simp; done)))) | ((with_reducible apply row_newz); (focus (first | rfl | (simp; done)))) | (with_reducible apply row_same) | ((with_reducible apply row_else); (focus (first | (simp; done) | (simp; omega) | omega))) | (with_reducible apply row_alloc) | (with_reducible apply row_drew) | (with_reducible apply row_drewN) | ((with_reducible apply row_up); assumption)))) | (go_at_call 97; refine (HP.out _).mono ?_; rintro e w' ⟨rfl, hu⟩; have hsz := hu.size; simp at hsz))
        refine wp_region_upS (S := (fun wq => Row wq w.heap.size 54 16 (limb (enc a)) ∧ Row wq (w.heap.size + 1) 54 16 (limb (enc b)) ∧ Row wq (w.heap.size + 1 + 1) 54 16 (fun _ => 0) ∧ Row wq w'.heap.size 54 16 (limb (enc (a + b))) ∧ Below w.heap.size w wq)) (req := (fun _ => true)) (by kernel_rfl) (fun _ _ h hu => ⟨(h.1).up hu, (h.2.1).up hu, (h.2.2.1).up hu, (h.2.2.2.1).up hu, below_up (h.2.2.2.2) hu⟩) ⟨(by (repeat (first | assumption | ((with_reducible apply row_newc); (focus (first | rfl | (simp; done)))) | ((with_reducible apply row_newz); (focus (first | rfl | (simp; done)))) | (with_reducible apply row_same) | ((with_reducible apply row_else); (focus (first | (simp; done) | (simp; omega) | omega))) | (with_reducible apply row_alloc) | (with_reducible apply row_drew) | (with_reducible apply row_drewN) | ((with_reducible apply row_up); assumption)))), (by (repeat (first | assumption | ((with_reducible apply row_newc); (focus (first | rfl | (simp; done)))) | ((with_reducible apply row_newz); (focus (first | rfl | (simp; done)))) | (with_reducible apply row_same) | ((with_reducible apply row_else); (focus (first | (simp; done) | (simp; omega) | omega))) | (with_reducible apply row_alloc) | (with_reducible apply row_drew) | (with_reducible apply row_drewN) | ((with_reducible apply row_up); assumption)))), (by (repeat (first | assumption | ((with_reducible apply row_newc); (focus (first | rfl | (simp; done)))) | ((with_reducible apply row_newz); (focus (first | rfl | (simp; done)))) | (with_reducible apply row_same) | ((with_reducible apply row_else); (focus (first | (simp; done) | (simp; omega) | omega))) | (with_reducible apply row_alloc) | (with_reducible apply row_drew) | (with_reducible apply row_drewN) | ((with_reducible apply row_up); assumption)))), (by (repeat (first | assumption | ((with_reducible apply row_newc); (focus (first | rfl | (simp; done)))) | ((with_reducible apply row_newz); (focus (first | rfl | (simp; done)))) | (with_reducible apply row_same) | ((with_reducible apply row_else); (focus (first | (simp; done) | (simp; omega) | omega))) | (with_reducible apply row_alloc) | (with_reducible apply row_drew) | (with_reducible apply row_drewN) | ((with_reducible apply row_up); assumption)))), (by repeat (first | assumption | (with_reducible apply Up.of) | (with_reducible exact Below.refl _ _) | (with_reducible exact Up.refl _) | ((with_reducible apply bl_setRow); (focus (first | exact Nat.le_refl _ | (simp; done) | (simp; omega) | omega))) | (with_reducible apply below_drewN) | (with_reducible apply Below.drew) | ((with_reducible apply bl_alloc); (focus (first | exact Nat.le_refl _ | (simp; done) | (simp; omega) | omega))) | ((with_reducible apply bl_setCell); (focus (first | exact Nat.le_refl _ | (simp; done) | (simp; omega) | omega))) | ((with_reducible apply up_tr); assumption)))⟩ (fun wS hSS => ?_)
        have ⟨hS1, hS2, hS3, hS4, hSB⟩ := hSS
        clear hu
        refine wpAnyU_take (i := 0) (d := (some 10)) (v := _) rfl rfl (by kernel_rfl) (fun _ _ _ h => h) (fun _ _ h hu => ⟨(h.1).up hu, (h.2.1).up hu, (h.2.2.1).up hu, (h.2.2.2.1).up hu, below_up (h.2.2.2.2) hu⟩) hSS (Or.inl ⟨by rfl, fun w' hSw => yu_value (run_ld undW infoW _ rfl _ rfl hSw.1)⟩) ?_
        try simp only [Act.put, pu1, pu2, pu3]
        refine wpAnyU_take (i := 1) (d := (some 11)) (v := _) rfl rfl (by kernel_rfl) (fun _ _ _ h => h) (fun _ _ h hu => ⟨(h.1).up hu, (h.2.1).up hu, (h.2.2.1).up hu, (h.2.2.2.1).up hu, below_up (h.2.2.2.2) hu⟩) hSS (Or.inl ⟨by rfl, fun w' hSw => yu_call ?_ (HA.out _)⟩) ?_
        · go_simp
        try simp only [Act.put, pu1, pu2, pu3]
        refine wpAnyU_take (i := 2) (d := (some 12)) (v := _) rfl rfl (by kernel_rfl) (fun _ _ _ h => h) (fun _ _ h hu => ⟨(h.1).up hu, (h.2.1).up hu, (h.2.2.1).up hu, (h.2.2.2.1).up hu, below_up (h.2.2.2.2) hu⟩) hSS (Or.inl ⟨by rfl, fun w' hSw => yu_value (run_ld undW infoW _ rfl _ rfl hSw.2.1)⟩) ?_
        try simp only [Act.put, pu1, pu2, pu3]
        refine wpAnyU_take (i := 3) (d := (some 13)) (v := _) rfl rfl (by kernel_rfl) (fun _ _ _ h => h) (fun _ _ h hu => ⟨(h.1).up hu, (h.2.1).up hu, (h.2.2.1).up hu, (h.2.2.2.1).up hu, below_up (h.2.2.2.2) hu⟩) hSS (Or.inl ⟨by rfl, fun w' hSw => yu_call ?_ (HB.out _)⟩) ?_
        · go_simp
        try simp only [Act.put, pu1, pu2, pu3]
        refine wpAnyU_pure (i := 4) (d := (some 14)) (v := ?_) rfl rfl (by kernel_rfl) (fun _ _ _ h => h) (fun _ _ h hu => ⟨(h.1).up hu, (h.2.1).up hu, (h.2.2.1).up hu, (h.2.2.2.1).up hu, below_up (h.2.2.2.2) hu⟩) (Or.inl ⟨by rfl, fun w' _ => yu_value ?_⟩) ?_
        rotate_left
        · (go_simp; (try exact rfl))
        try simp only [Act.put, pu1, pu2, pu3]
        refine wpAnyU_pure (i := 5) (d := (some 15)) (v := ?_) rfl rfl (by kernel_rfl) (fun _ _ _ h => h) (fun _ _ h hu => ⟨(h.1).up hu, (h.2.1).up hu, (h.2.2.1).up hu, (h.2.2.2.1).up hu, below_up (h.2.2.2.2) hu⟩) (Or.inl ⟨by rfl, fun w' _ => yu_value ?_⟩) ?_
        rotate_left
        · (go_simp; (try exact rfl))
        try simp only [Act.put, pu1, pu2, pu3]
        refine wpAnyU_take (i := 6) (d := (some 16)) (v := _) rfl rfl (by kernel_rfl) (fun _ _ _ h => h) (fun _ _ h hu => ⟨(h.1).up hu, (h.2.1).up hu, (h.2.2.1).up hu, (h.2.2.2.1).up hu, below_up (h.2.2.2.2) hu⟩) hSS (Or.inl ⟨by rfl, fun w' hSw => yu_value (run_ld undW infoW _ rfl _ rfl hSw.2.2.2.1)⟩) ?_
        try simp only [Act.put, pu1, pu2, pu3]
        refine wpAnyU_take (i := 7) (d := (some 17)) (v := _) rfl rfl (by kernel_rfl) (fun _ _ _ h => h) (fun _ _ h hu => ⟨(h.1).up hu, (h.2.1).up hu, (h.2.2.1).up hu, (h.2.2.2.1).up hu, below_up (h.2.2.2.2) hu⟩) hSS (Or.inl ⟨by rfl, fun w' hSw => yu_call ?_ (HM.out _)⟩) ?_
        · go_simp
        try simp only [Act.put, pu1, pu2, pu3]
        refine wpAnyU_take (i := 8) (d := (some 18)) (v := _) rfl rfl (by kernel_rfl) (fun _ _ _ h => h) (fun _ _ h hu => ⟨(h.1).up hu, (h.2.1).up hu, (h.2.2.1).up hu, (h.2.2.2.1).up hu, below_up (h.2.2.2.2) hu⟩) hSS (Or.inl ⟨by rfl, fun w' hSw => yu_value (run_ld undW infoW _ rfl _ rfl hSw.1)⟩) ?_
        try simp only [Act.put, pu1, pu2, pu3]
        refine wpAnyU_take (i := 9) (d := (some 19)) (v := _) rfl rfl (by kernel_rfl) (fun _ _ _ h => h) (fun _ _ h hu => ⟨(h.1).up hu, (h.2.1).up hu, (h.2.2.1).up hu, (h.2.2.2.1).up hu, below_up (h.2.2.2.2) hu⟩) hSS (Or.inl ⟨by rfl, fun w' hSw => yu_call ?_ (HA.out _)⟩) ?_
        · go_simp
        try simp only [Act.put, pu1, pu2, pu3]
        refine wpAnyU_pure (i := 10) (d := (some 20)) (v := ?_) rfl rfl (by kernel_rfl) (fun _ _ _ h => h) (fun _ _ h hu => ⟨(h.1).up hu, (h.2.1).up hu, (h.2.2.1).up hu, (h.2.2.2.1).up hu, below_up (h.2.2.2.2) hu⟩) (Or.inl ⟨by rfl, fun w' _ => yu_value ?_⟩) ?_
        rotate_left
        · (go_simp; (try exact rfl))
        try simp only [Act.put, pu1, pu2, pu3]
        refine wpAnyU_pure (i := 11) (d := (some 21)) (v := ?_) rfl rfl (by kernel_rfl) (fun _ _ _ h => h) (fun _ _ h hu => ⟨(h.1).up hu, (h.2.1).up hu, (h.2.2.1).up hu, (h.2.2.2.1).up hu, below_up (h.2.2.2.2) hu⟩) (Or.inl ⟨by rfl, fun w' _ => yu_value ?_⟩) ?_
        rotate_left
        · (go_simp; (try exact rfl))
        try simp only [Act.put, pu1, pu2, pu3]
        refine wpAnyU_done (by kernel_rfl) (fun wE huE => ?_) _
        have ⟨hS1, hS2, hS3, hS4, hSB⟩ := ((fun _ _ h hu => ⟨(h.1).up hu, (h.2.1).up hu, (h.2.2.1).up hu, (h.2.2.2.1).up hu, below_up (h.2.2.2.2) hu⟩) : ∀ w1 w2 : World, (fun wq => Row wq w.heap.size 54 16 (limb (enc a)) ∧ Row wq (w.heap.size + 1) 54 16 (limb (enc b)) ∧ Row wq (w.heap.size + 1 + 1) 54 16 (fun _ => 0) ∧ Row wq w'.heap.size 54 16 (limb (enc (a + b))) ∧ Below w.heap.size w wq) w1 → Up w1 w2 → (fun wq => Row wq w.heap.size 54 16 (limb (enc a)) ∧ Row wq (w.heap.size + 1) 54 16 (limb (enc b)) ∧ Row wq (w.heap.size + 1 + 1) 54 16 (fun _ => 0) ∧ Row wq w'.heap.size 54 16 (limb (enc (a + b))) ∧ Below w.heap.size w wq) w2) _ _ hSS huE
        clear huE hSS
        go_wp2_with (first | ((with_reducible apply ld_rowP undW infoW); exact rfl; exact rfl; focus (repeat (first | assumption | ((with_reducible apply row_newc); (focus (first | rfl | (simp; done)))) | ((with_reducible apply row_newz); (focus (first | rfl | (simp; done)))) | (with_reducible apply row_same) | ((with_reducible apply row_else); (focus (first | (simp; done) | (simp; omega) | omega))) | (with_reducible apply row_alloc) | (with_reducible apply row_drew) | (with_reducible apply row_drewN) | ((with_reducible apply row_up); assumption)))) | ((with_reducible apply st_rowP infoW); exact rfl; exact rfl; focus (repeat (first | assumption | ((with_reducible apply row_newc); (focus (first | rfl | (simp; done)))) | ((with_reducible apply row_newz); (focus (first | rfl | (simp; done)))) | (with_reducible apply row_same) | ((with_reducible apply row_else); (focus (first | (simp; done) | (simp; omega) | omega))) | (with_reducible apply row_alloc) | (with_reducible apply row_drew) | (with_reducible apply row_drewN) | ((with_reducible apply row_up); assumption)))) | ((with_reducible apply st_rowZ infoW); exact rfl; exact rfl; focus (repeat (first | assumption | ((with_reducible apply row_newc); (focus (first | rfl | (simp; done)))) | ((with_reducible apply row_newz); (focus (first | rfl | (simp; done)))) | (with_reducible apply row_same) | ((with_reducible apply row_else); (focus (first | (simp; done) | (simp; omega) | omega))) | (with_reducible apply row_alloc) | (with_reducible apply row_drew) | (with_reducible apply row_drewN) | ((with_reducible apply row_up); assumption)))))
        exact bodyPost_ret (res2 rfl undW infoW _ _ rfl (by (repeat (first | assumption | ((with_reducible apply row_newc); (focus (first | rfl | (simp; done)))) | ((with_reducible apply row_newz); (focus (first | rfl | (simp; done)))) | (with_reducible apply row_same) | ((with_reducible apply row_else); (focus (first | (simp; done) | (simp; omega) | omega))) | (with_reducible apply row_alloc) | (with_reducible apply row_drew) | (with_reducible apply row_drewN) | ((with_reducible apply row_up); assumption))))) rfl ⟨rfl, (by repeat (first | assumption | (with_reducible apply Up.of) | (with_reducible exact Below.refl _ _) | (with_reducible exact Up.refl _) | ((with_reducible apply bl_setRow); (focus (first | exact Nat.le_refl _ | (simp; done) | (simp; omega) | omega))) | (with_reducible apply below_drewN) | (with_reducible apply Below.drew) | ((with_reducible apply bl_alloc); (focus (first | exact Nat.le_refl _ | (simp; done) | (simp; omega) | omega))) | ((with_reducible apply bl_setCell); (focus (first | exact Nat.le_refl _ | (simp; done) | (simp; omega) | omega))) | ((with_reducible apply up_tr); assumption)))⟩
      · have hd3 : decide (hb ≤ enc (a + b)) = false := by simpa using hs
        rw [hd3] at HM hk
        rw [opt_yes (hk.1 rfl)]
        clear hk1 hk2 hk hs hd hd2 hd3 a0 b0
        unfold wideV at *
        go_enter Tryz.func76, Tryz.ntmps76
        go_wp2_with (first | ((with_reducible apply ld_rowP undW infoW); exact rfl; exact rfl; focus (repeat (first | assumption | ((with_reducible apply row_newc); (focus (first | rfl | (simp; done)))) | ((with_reducible apply row_newz); (focus (first | rfl | (simp; done)))) | (with_reducible apply row_same) | ((with_reducible apply row_else); (focus (first | (simp; done) | (simp; omega) | omega))) | (with_reducible apply row_alloc) | (with_reducible apply row_drew) | (with_reducible apply row_drewN) | ((with_reducible apply row_up); assumption)))) | ((with_reducible apply st_rowP infoW); exact rfl; exact rfl; focus (repeat (first | assumption | ((with_reducible apply row_newc); (focus (first | rfl | (simp; done)))) | ((with_reducible apply row_newz); (focus (first | rfl | (simp; done)))) | (with_reducible apply row_same) | ((with_reducible apply row_else); (focus (first | (simp; done) | (simp; omega) | omega))) | (with_reducible apply row_alloc) | (with_reducible apply row_drew) | (with_reducible apply row_drewN) | ((with_reducible apply row_up); assumption)))) | ((with_reducible apply st_rowZ infoW); exact rfl; exact rfl; focus (repeat (first | assumption | ((with_reducible apply row_newc); (focus (first | rfl | (simp; done)))) | ((with_reducible apply row_newz); (focus (first | rfl | (simp; done)))) | (with_reducible apply row_same) | ((with_reducible apply row_else); (focus (first | (simp; done) | (simp; omega) | omega))) | (with_reducible apply row_alloc) | (with_reducible apply row_drew) | (with_reducible apply row_drewN) | ((with_reducible apply row_up); assumption)))) | (go_at_call 97; refine (HP.out _).mono ?_; rintro e w' ⟨rfl, hu⟩; have hsz := hu.size; simp at hsz))
        refine wp_region_upS (S := (fun wq => Row wq w.heap.size 54 16 (limb (enc a)) ∧ Row wq (w.heap.size + 1) 54 16 (limb (enc b)) ∧ Row wq (w.heap.size + 1 + 1) 54 16 (fun _ => 0) ∧ Row wq w'.heap.size 54 16 (limb (enc (a + b))) ∧ Below w.heap.size w wq)) (req := (fun _ => true)) (by kernel_rfl) (fun _ _ h hu => ⟨(h.1).up hu, (h.2.1).up hu, (h.2.2.1).up hu, (h.2.2.2.1).up hu, below_up (h.2.2.2.2) hu⟩) ⟨(by (repeat (first | assumption | ((with_reducible apply row_newc); (focus (first | rfl | (simp; done)))) | ((with_reducible apply row_newz); (focus (first | rfl | (simp; done)))) | (with_reducible apply row_same) | ((with_reducible apply row_else); (focus (first | (simp; done) | (simp; omega) | omega))) | (with_reducible apply row_alloc) | (with_reducible apply row_drew) | (with_reducible apply row_drewN) | ((with_reducible apply row_up); assumption)))), (by (repeat (first | assumption | ((with_reducible apply row_newc); (focus (first | rfl | (simp; done)))) | ((with_reducible apply row_newz); (focus (first | rfl | (simp; done)))) | (with_reducible apply row_same) | ((with_reducible apply row_else); (focus (first | (simp; done) | (simp; omega) | omega))) | (with_reducible apply row_alloc) | (with_reducible apply row_drew) | (with_reducible apply row_drewN) | ((with_reducible apply row_up); assumption)))), (by (repeat (first | assumption | ((with_reducible apply row_newc); (focus (first | rfl | (simp; done)))) | ((with_reducible apply row_newz); (focus (first | rfl | (simp; done)))) | (with_reducible apply row_same) | ((with_reducible apply row_else); (focus (first | (simp; done) | (simp; omega) | omega))) | (with_reducible apply row_alloc) | (with_reducible apply row_drew) | (with_reducible apply row_drewN) | ((with_reducible apply row_up); assumption)))), (by (repeat (first | assumption | ((with_reducible apply row_newc); (focus (first | rfl | (simp; done)))) | ((with_reducible apply row_newz); (focus (first | rfl | (simp; done)))) | (with_reducible apply row_same) | ((with_reducible apply row_else); (focus (first | (simp; done) | (simp; omega) | omega))) | (with_reducible apply row_alloc) | (with_reducible apply row_drew) | (with_reducible apply row_drewN) | ((with_reducible apply row_up); assumption)))), (by repeat (first | assumption | (with_reducible apply Up.of) | (with_reducible exact Below.refl _ _) | (with_reducible exact Up.refl _) | ((with_reducible apply bl_setRow); (focus (first | exact Nat.le_refl _ | (simp; done) | (simp; omega) | omega))) | (with_reducible apply below_drewN) | (with_reducible apply Below.drew) | ((with_reducible apply bl_alloc); (focus (first | exact Nat.le_refl _ | (simp; done) | (simp; omega) | omega))) | ((with_reducible apply bl_setCell); (focus (first | exact Nat.le_refl _ | (simp; done) | (simp; omega) | omega))) | ((with_reducible apply up_tr); assumption)))⟩ (fun wS hSS => ?_)
        have ⟨hS1, hS2, hS3, hS4, hSB⟩ := hSS
        clear hu
        refine wpAnyU_take (i := 0) (d := (some 10)) (v := _) rfl rfl (by kernel_rfl) (fun _ _ _ h => h) (fun _ _ h hu => ⟨(h.1).up hu, (h.2.1).up hu, (h.2.2.1).up hu, (h.2.2.2.1).up hu, below_up (h.2.2.2.2) hu⟩) hSS (Or.inl ⟨by rfl, fun w' hSw => yu_value (run_ld undW infoW _ rfl _ rfl hSw.1)⟩) ?_
        try simp only [Act.put, pu1, pu2, pu3]
        refine wpAnyU_take (i := 1) (d := (some 11)) (v := _) rfl rfl (by kernel_rfl) (fun _ _ _ h => h) (fun _ _ h hu => ⟨(h.1).up hu, (h.2.1).up hu, (h.2.2.1).up hu, (h.2.2.2.1).up hu, below_up (h.2.2.2.2) hu⟩) hSS (Or.inl ⟨by rfl, fun w' hSw => yu_call ?_ (HA.out _)⟩) ?_
        · go_simp
        try simp only [Act.put, pu1, pu2, pu3]
        refine wpAnyU_take (i := 2) (d := (some 12)) (v := _) rfl rfl (by kernel_rfl) (fun _ _ _ h => h) (fun _ _ h hu => ⟨(h.1).up hu, (h.2.1).up hu, (h.2.2.1).up hu, (h.2.2.2.1).up hu, below_up (h.2.2.2.2) hu⟩) hSS (Or.inl ⟨by rfl, fun w' hSw => yu_value (run_ld undW infoW _ rfl _ rfl hSw.2.1)⟩) ?_
        try simp only [Act.put, pu1, pu2, pu3]
        refine wpAnyU_take (i := 3) (d := (some 13)) (v := _) rfl rfl (by kernel_rfl) (fun _ _ _ h => h) (fun _ _ h hu => ⟨(h.1).up hu, (h.2.1).up hu, (h.2.2.1).up hu, (h.2.2.2.1).up hu, below_up (h.2.2.2.2) hu⟩) hSS (Or.inl ⟨by rfl, fun w' hSw => yu_call ?_ (HB.out _)⟩) ?_
        · go_simp
        try simp only [Act.put, pu1, pu2, pu3]
        refine wpAnyU_pure (i := 4) (d := (some 14)) (v := ?_) rfl rfl (by kernel_rfl) (fun _ _ _ h => h) (fun _ _ h hu => ⟨(h.1).up hu, (h.2.1).up hu, (h.2.2.1).up hu, (h.2.2.2.1).up hu, below_up (h.2.2.2.2) hu⟩) (Or.inl ⟨by rfl, fun w' _ => yu_value ?_⟩) ?_
        rotate_left
        · (go_simp; (try exact rfl))
        try simp only [Act.put, pu1, pu2, pu3]
        refine wpAnyU_pure (i := 5) (d := (some 15)) (v := ?_) rfl rfl (by kernel_rfl) (fun _ _ _ h => h) (fun _ _ h hu => ⟨(h.1).up hu, (h.2.1).up hu, (h.2.2.1).up hu, (h.2.2.2.1).up hu, below_up (h.2.2.2.2) hu⟩) (Or.inl ⟨by rfl, fun w' _ => yu_value ?_⟩) ?_
        rotate_left
        · (go_simp; (try exact rfl))
        try simp only [Act.put, pu1, pu2, pu3]
        refine wpAnyU_take (i := 6) (d := (some 16)) (v := _) rfl rfl (by kernel_rfl) (fun _ _ _ h => h) (fun _ _ h hu => ⟨(h.1).up hu, (h.2.1).up hu, (h.2.2.1).up hu, (h.2.2.2.1).up hu, below_up (h.2.2.2.2) hu⟩) hSS (Or.inl ⟨by rfl, fun w' hSw => yu_value (run_ld undW infoW _ rfl _ rfl hSw.2.2.2.1)⟩) ?_
        try simp only [Act.put, pu1, pu2, pu3]
        refine wpAnyU_take (i := 7) (d := (some 17)) (v := _) rfl rfl (by kernel_rfl) (fun _ _ _ h => h) (fun _ _ h hu => ⟨(h.1).up hu, (h.2.1).up hu, (h.2.2.1).up hu, (h.2.2.2.1).up hu, below_up (h.2.2.2.2) hu⟩) hSS (Or.inl ⟨by rfl, fun w' hSw => yu_call ?_ (HM.out _)⟩) ?_
        · go_simp
        try simp only [Act.put, pu1, pu2, pu3]
        refine wpAnyU_take (i := 8) (d := (some 18)) (v := _) rfl rfl (by kernel_rfl) (fun _ _ _ h => h) (fun _ _ h hu => ⟨(h.1).up hu, (h.2.1).up hu, (h.2.2.1).up hu, (h.2.2.2.1).up hu, below_up (h.2.2.2.2) hu⟩) hSS (Or.inl ⟨by rfl, fun w' hSw => yu_value (run_ld undW infoW _ rfl _ rfl hSw.1)⟩) ?_
        try simp only [Act.put, pu1, pu2, pu3]
        refine wpAnyU_take (i := 9) (d := (some 19)) (v := _) rfl rfl (by kernel_rfl) (fun _ _ _ h => h) (fun _ _ h hu => ⟨(h.1).up hu, (h.2.1).up hu, (h.2.2.1).up hu, (h.2.2.2.1).up hu, below_up (h.2.2.2.2) hu⟩) hSS (Or.inl ⟨by rfl, fun w' hSw => yu_call ?_ (HA.out _)⟩) ?_
        · go_simp
        try simp only [Act.put, pu1, pu2, pu3]
        refine wpAnyU_pure (i := 10) (d := (some 20)) (v := ?_) rfl rfl (by kernel_rfl) (fun _ _ _ h => h) (fun _ _ h hu => ⟨(h.1).up hu, (h.2.1).up hu, (h.2.2.1).up hu, (h.2.2.2.1).up hu, below_up (h.2.2.2.2) hu⟩) (Or.inl ⟨by rfl, fun w' _ => yu_value ?_⟩) ?_
        rotate_left
        · (go_simp; (try exact rfl))
        try simp only [Act.put, pu1, pu2, pu3]
        refine wpAnyU_pure (i := 11) (d := (some 21)) (v := ?_) rfl rfl (by kernel_rfl) (fun _ _ _ h => h) (fun _ _ h hu => ⟨(h.1).up hu, (h.2.1).up hu, (h.2.2.1).up hu, (h.2.2.2.1).up hu, below_up (h.2.2.2.2) hu⟩) (Or.inl ⟨by rfl, fun w' _ => yu_value ?_⟩) ?_
        rotate_left
        · (go_simp; (try exact rfl))
        try simp only [Act.put, pu1, pu2, pu3]
        refine wpAnyU_done (by kernel_rfl) (fun wE huE => ?_) _
        have ⟨hS1, hS2, hS3, hS4, hSB⟩ := ((fun _ _ h hu => ⟨(h.1).up hu, (h.2.1).up hu, (h.2.2.1).up hu, (h.2.2.2.1).up hu, below_up (h.2.2.2.2) hu⟩) : ∀ w1 w2 : World, (fun wq => Row wq w.heap.size 54 16 (limb (enc a)) ∧ Row wq (w.heap.size + 1) 54 16 (limb (enc b)) ∧ Row wq (w.heap.size + 1 + 1) 54 16 (fun _ => 0) ∧ Row wq w'.heap.size 54 16 (limb (enc (a + b))) ∧ Below w.heap.size w wq) w1 → Up w1 w2 → (fun wq => Row wq w.heap.size 54 16 (limb (enc a)) ∧ Row wq (w.heap.size + 1) 54 16 (limb (enc b)) ∧ Row wq (w.heap.size + 1 + 1) 54 16 (fun _ => 0) ∧ Row wq w'.heap.size 54 16 (limb (enc (a + b))) ∧ Below w.heap.size w wq) w2) _ _ hSS huE
        clear huE hSS
        go_wp2_with (first | ((with_reducible apply ld_rowP undW infoW); exact rfl; exact rfl; focus (repeat (first | assumption | ((with_reducible apply row_newc); (focus (first | rfl | (simp; done)))) | ((with_reducible apply row_newz); (focus (first | rfl | (simp; done)))) | (with_reducible apply row_same) | ((with_reducible apply row_else); (focus (first | (simp; done) | (simp; omega) | omega))) | (with_reducible apply row_alloc) | (with_reducible apply row_drew) | (with_reducible apply row_drewN) | ((with_reducible apply row_up); assumption)))) | ((with_reducible apply st_rowP infoW); exact rfl; exact rfl; focus (repeat (first | assumption | ((with_reducible apply row_newc); (focus (first | rfl | (simp; done)))) | ((with_reducible apply row_newz); (focus (first | rfl | (simp; done)))) | (with_reducible apply row_same) | ((with_reducible apply row_else); (focus (first | (simp; done) | (simp; omega) | omega))) | (with_reducible apply row_alloc) | (with_reducible apply row_drew) | (with_reducible apply row_drewN) | ((with_reducible apply row_up); assumption)))) | ((with_reducible apply st_rowZ infoW); exact rfl; exact rfl; focus (repeat (first | assumption | ((with_reducible apply row_newc); (focus (first | rfl | (simp; done)))) | ((with_reducible apply row_newz); (focus (first | rfl | (simp; done)))) | (with_reducible apply row_same) | ((with_reducible apply row_else); (focus (first | (simp; done) | (simp; omega) | omega))) | (with_reducible apply row_alloc) | (with_reducible apply row_drew) | (with_reducible apply row_drewN) | ((with_reducible apply row_up); assumption)))))
        exact bodyPost_ret (res2 rfl undW infoW _ _ rfl (by (repeat (first | assumption | ((with_reducible apply row_newc); (focus (first | rfl | (simp; done)))) | ((with_reducible apply row_newz); (focus (first | rfl | (simp; done)))) | (with_reducible apply row_same) | ((with_reducible apply row_else); (focus (first | (simp; done) | (simp; omega) | omega))) | (with_reducible apply row_alloc) | (with_reducible apply row_drew) | (with_reducible apply row_drewN) | ((with_reducible apply row_up); assumption))))) rfl ⟨rfl, (by repeat (first | assumption | (with_reducible apply Up.of) | (with_reducible exact Below.refl _ _) | (with_reducible exact Up.refl _) | ((with_reducible apply bl_setRow); (focus (first | exact Nat.le_refl _ | (simp; done) | (simp; omega) | omega))) | (with_reducible apply below_drewN) | (with_reducible apply Below.drew) | ((with_reducible apply bl_alloc); (focus (first | exact Nat.le_refl _ | (simp; done) | (simp; omega) | omega))) | ((with_reducible apply bl_setCell); (focus (first | exact Nat.le_refl _ | (simp; done) | (simp; omega) | omega))) | ((with_reducible apply up_tr); assumption)))⟩
theorem less_ok {a b : Int} (ha : InR a) (hb' : InR b) : ((a < 0 ↔ ¬ b < 0) → ((decide (hb ≤ enc (a - b)) = decide (a < 0)) ↔ InR (a - b))) ∧ (¬ (a < 0 ↔ ¬ b < 0) → InR (a - b)) := by
  have h1 := ha.out
  have h2 := hb'.out
  have h3 := bp16
  have h4 := hb_pos
  constructor
  · intro h
    by_cases a0 : a < 0
    · have e : enc (a - b) = if a - b = -(bp 16 : Int) then 0 else (a - b + bp 16).toNat := by
        unfold enc
        split
        · rename_i e; rw [e, Int.neg_emod_self]; rfl
        · rw [← Int.add_emod_right, Int.emod_eq_of_lt (by omega) (by omega)]
      rw [e, decide_eq_true a0, decide_eq_true_iff]
      constructor
      · intro h5
        refine InR.mk' ?_
        split at h5 <;> omega
      · intro h5
        have := h5.out
        split <;> omega
    · have e : enc (a - b) = (a - b).toNat := by
        unfold enc
        rw [Int.emod_eq_of_lt (by omega) (by omega)]
      rw [e, decide_eq_false a0, decide_eq_false_iff_not]
      constructor
      · intro h5; exact InR.mk' (by omega)
      · intro h5; have := h5.out; omega
  · intro h
    exact InR.mk' (by omega)
set_option maxHeartbeats 1000000 in
theorem sub_z {a b : Int} (ha : InR a) (hb' : InR b) (w : World) :
    Calls Tryz.prog 110 #[wideV (enc a), wideV (enc b)] w fun e w' => e = .returned (opt (a - b)) ∧ Up w w' := by
  have HA := hid (fun w => minus_z ha w)
  have HB := hid (fun w => minus_z hb' w)
  have HM := hid (fun w => minus_e (a - b) w)
  have HP := hid (fun w => less_z a b w)
  obtain ⟨hk1, hk2⟩ := less_ok ha hb'
  by_cases a0 : a < 0
  · have hd : decide (a < 0) = true := by simpa using a0
    rw [hd] at HA hk1
    by_cases b0 : b < 0
    · have hd2 : decide (b < 0) = true := by simpa using b0
      rw [hd2] at HB
      rw [opt_yes (hk2 (by simp [a0, b0]))]
      clear hk1 hk2 hd hd2 a0 b0
      unfold wideV at *
      go_enter Tryz.func110, Tryz.ntmps110
      go_wp2_with (first | ((with_reducible apply ld_rowP undW infoW); exact rfl; exact rfl; focus (repeat (first | assumption | ((with_reducible apply row_newc); (focus (first | rfl | (simp; done)))) | ((with_reducible apply row_newz); (focus (first | rfl | (simp; done)))) | (with_reducible apply row_same) | ((with_reducible apply row_else); (focus (first | (simp; done) | (simp; omega) | omega))) | (with_reducible apply row_alloc) | (with_reducible apply row_drew) | (with_reducible apply row_drewN) | ((with_reducible apply row_up); assumption)))) | ((with_reducible apply st_rowP infoW); exact rfl; exact rfl; focus (repeat (first | assumption | ((with_reducible apply row_newc); (focus (first | rfl | (simp; done)))) | ((with_reducible apply row_newz); (focus (first | rfl | (simp; done)))) | (with_reducible apply row_same) | ((with_reducible apply row_else); (focus (first | (simp; done) | (simp; omega) | omega))) | (with_reducible apply row_alloc) | (with_reducible apply row_drew) | (with_reducible apply row_drewN) | ((with_reducible apply row_up); assumption)))) | ((with_reducible apply st_rowZ infoW); exact rfl; exact rfl; focus (repeat (first | assumption | ((with_reducible apply row_newc); (focus (first | rfl | (simp; done)))) | ((with_reducible apply row_newz); (focus (first | rfl | (simp; done)))) | (with_reducible apply row_same) | ((with_reducible apply row_else); (focus (first | (simp; done) | (simp; omega) | omega))) | (with_reducible apply row_alloc) | (with_reducible apply row_drew) | (with_reducible apply row_drewN) | ((with_reducible apply row_up); assumption)))) | (go_at_call 117; refine (HP.out _).mono ?_; rintro e w' ⟨rfl, hu⟩; have hsz := hu.size; simp at hsz))
      refine wp_region_upS (S := (fun wq => Row wq w.heap.size 54 16 (limb (enc a)) ∧ Row wq (w.heap.size + 1) 54 16 (limb (enc b)) ∧ Row wq (w.heap.size + 1 + 1) 54 16 (fun _ => 0) ∧ Row wq w'.heap.size 54 16 (limb (enc (a - b))) ∧ Below w.heap.size w wq)) (req := (fun _ => true)) (by kernel_rfl) (fun _ _ h hu => ⟨(h.1).up hu, (h.2.1).up hu, (h.2.2.1).up hu, (h.2.2.2.1).up hu, below_up (h.2.2.2.2) hu⟩) ⟨(by (repeat (first | assumption | ((with_reducible apply row_newc); (focus (first | rfl | (simp; done)))) | ((with_reducible apply row_newz); (focus (first | rfl | (simp; done)))) | (with_reducible apply row_same) | ((with_reducible apply row_else); (focus (first | (simp; done) | (simp; omega) | omega))) | (with_reducible apply row_alloc) | (with_reducible apply row_drew) | (with_reducible apply row_drewN) | ((with_reducible apply row_up); assumption)))), (by (repeat (first | assumption | ((with_reducible apply row_newc); (focus (first | rfl | (simp; done)))) | ((with_reducible apply row_newz); (focus (first | rfl | (simp; done)))) | (with_reducible apply row_same) | ((with_reducible apply row_else); (focus (first | (simp; done) | (simp; omega) | omega))) | (with_reducible apply row_alloc) | (with_reducible apply row_drew) | (with_reducible apply row_drewN) | ((with_reducible apply row_up); assumption)))), (by (repeat (first | assumption | ((with_reducible apply row_newc); (focus (first | rfl | (simp; done)))) | ((with_reducible apply row_newz); (focus (first | rfl | (simp; done)))) | (with_reducible apply row_same) | ((with_reducible apply row_else); (focus (first | (simp; done) | (simp; omega) | omega))) | (with_reducible apply row_alloc) | (with_reducible apply row_drew) | (with_reducible apply row_drewN) | ((with_reducible apply row_up); assumption)))), (by (repeat (first | assumption | ((with_reducible apply row_newc); (focus (first | rfl | (simp; done)))) | ((with_reducible apply row_newz); (focus (first | rfl | (simp; done)))) | (with_reducible apply row_same) | ((with_reducible apply row_else); (focus (first | (simp; done) | (simp; omega) | omega))) | (with_reducible apply row_alloc) | (with_reducible apply row_drew) | (with_reducible apply row_drewN) | ((with_reducible apply row_up); assumption)))), (by repeat (first | assumption | (with_reducible apply Up.of) | (with_reducible exact Below.refl _ _) | (with_reducible exact Up.refl _) | ((with_reducible apply bl_setRow); (focus (first | exact Nat.le_refl _ | (simp; done) | (simp; omega) | omega))) | (with_reducible apply below_drewN) | (with_reducible apply Below.drew) | ((with_reducible apply bl_alloc); (focus (first | exact Nat.le_refl _ | (simp; done) | (simp; omega) | omega))) | ((with_reducible apply bl_setCell); (focus (first | exact Nat.le_refl _ | (simp; done) | (simp; omega) | omega))) | ((with_reducible apply up_tr); assumption)))⟩ (fun wS hSS => ?_)
      have ⟨hS1, hS2, hS3, hS4, hSB⟩ := hSS
      clear hu
      refine wpAnyU_take (i := 0) (d := (some 10)) (v := _) rfl rfl (by kernel_rfl) (fun _ _ _ h => h) (fun _ _ h hu => ⟨(h.1).up hu, (h.2.1).up hu, (h.2.2.1).up hu, (h.2.2.2.1).up hu, below_up (h.2.2.2.2) hu⟩) hSS (Or.inl ⟨by rfl, fun w' hSw => yu_value (run_ld undW infoW _ rfl _ rfl hSw.1)⟩) ?_
      try simp only [Act.put, pu1, pu2, pu3]
      refine wpAnyU_take (i := 1) (d := (some 11)) (v := _) rfl rfl (by kernel_rfl) (fun _ _ _ h => h) (fun _ _ h hu => ⟨(h.1).up hu, (h.2.1).up hu, (h.2.2.1).up hu, (h.2.2.2.1).up hu, below_up (h.2.2.2.2) hu⟩) hSS (Or.inl ⟨by rfl, fun w' hSw => yu_call ?_ (HA.out _)⟩) ?_
      · go_simp
      try simp only [Act.put, pu1, pu2, pu3]
      refine wpAnyU_take (i := 2) (d := (some 12)) (v := _) rfl rfl (by kernel_rfl) (fun _ _ _ h => h) (fun _ _ h hu => ⟨(h.1).up hu, (h.2.1).up hu, (h.2.2.1).up hu, (h.2.2.2.1).up hu, below_up (h.2.2.2.2) hu⟩) hSS (Or.inl ⟨by rfl, fun w' hSw => yu_value (run_ld undW infoW _ rfl _ rfl hSw.2.1)⟩) ?_
      try simp only [Act.put, pu1, pu2, pu3]
      refine wpAnyU_take (i := 3) (d := (some 13)) (v := _) rfl rfl (by kernel_rfl) (fun _ _ _ h => h) (fun _ _ h hu => ⟨(h.1).up hu, (h.2.1).up hu, (h.2.2.1).up hu, (h.2.2.2.1).up hu, below_up (h.2.2.2.2) hu⟩) hSS (Or.inl ⟨by rfl, fun w' hSw => yu_call ?_ (HB.out _)⟩) ?_
      · go_simp
      try simp only [Act.put, pu1, pu2, pu3]
      refine wpAnyU_pure (i := 4) (d := (some 14)) (v := ?_) rfl rfl (by kernel_rfl) (fun _ _ _ h => h) (fun _ _ h hu => ⟨(h.1).up hu, (h.2.1).up hu, (h.2.2.1).up hu, (h.2.2.2.1).up hu, below_up (h.2.2.2.2) hu⟩) (Or.inl ⟨by rfl, fun w' _ => yu_value ?_⟩) ?_
      rotate_left
      · (go_simp; (try exact rfl))
      try simp only [Act.put, pu1, pu2, pu3]
      refine wpAnyU_pure (i := 5) (d := (some 15)) (v := ?_) rfl rfl (by kernel_rfl) (fun _ _ _ h => h) (fun _ _ h hu => ⟨(h.1).up hu, (h.2.1).up hu, (h.2.2.1).up hu, (h.2.2.2.1).up hu, below_up (h.2.2.2.2) hu⟩) (Or.inl ⟨by rfl, fun w' _ => yu_value ?_⟩) ?_
      rotate_left
      · (go_simp; (try exact rfl))
      try simp only [Act.put, pu1, pu2, pu3]
      refine wpAnyU_pure (i := 6) (d := (some 16)) (v := undef) rfl rfl (by kernel_rfl) (fun _ _ _ h => h) (fun _ _ h hu => ⟨(h.1).up hu, (h.2.1).up hu, (h.2.2.1).up hu, (h.2.2.2.1).up hu, below_up (h.2.2.2.2) hu⟩) (Or.inr ⟨by rfl, rfl⟩) ?_
      try simp only [Act.put, pu1, pu2, pu3]
      refine wpAnyU_pure (i := 7) (d := (some 17)) (v := undef) rfl rfl (by kernel_rfl) (fun _ _ _ h => h) (fun _ _ h hu => ⟨(h.1).up hu, (h.2.1).up hu, (h.2.2.1).up hu, (h.2.2.2.1).up hu, below_up (h.2.2.2.2) hu⟩) (Or.inr ⟨by rfl, rfl⟩) ?_
      try simp only [Act.put, pu1, pu2, pu3]
      refine wpAnyU_pure (i := 8) (d := (some 18)) (v := undef) rfl rfl (by kernel_rfl) (fun _ _ _ h => h) (fun _ _ h hu => ⟨(h.1).up hu, (h.2.1).up hu, (h.2.2.1).up hu, (h.2.2.2.1).up hu, below_up (h.2.2.2.2) hu⟩) (Or.inr ⟨by rfl, rfl⟩) ?_
      try simp only [Act.put, pu1, pu2, pu3]
      refine wpAnyU_pure (i := 9) (d := (some 19)) (v := undef) rfl rfl (by kernel_rfl) (fun _ _ _ h => h) (fun _ _ h hu => ⟨(h.1).up hu, (h.2.1).up hu, (h.2.2.1).up hu, (h.2.2.2.1).up hu, below_up (h.2.2.2.2) hu⟩) (Or.inr ⟨by rfl, rfl⟩) ?_
      try simp only [Act.put, pu1, pu2, pu3]
      refine wpAnyU_pure (i := 10) (d := (some 20)) (v := undef) rfl rfl (by kernel_rfl) (fun _ _ _ h => h) (fun _ _ h hu => ⟨(h.1).up hu, (h.2.1).up hu, (h.2.2.1).up hu, (h.2.2.2.1).up hu, below_up (h.2.2.2.2) hu⟩) (Or.inr ⟨by rfl, rfl⟩) ?_
      try simp only [Act.put, pu1, pu2, pu3]
      refine wpAnyU_pure (i := 11) (d := (some 21)) (v := ?_) rfl rfl (by kernel_rfl) (fun _ _ _ h => h) (fun _ _ h hu => ⟨(h.1).up hu, (h.2.1).up hu, (h.2.2.1).up hu, (h.2.2.2.1).up hu, below_up (h.2.2.2.2) hu⟩) (Or.inl ⟨by rfl, fun w' _ => yu_value ?_⟩) ?_
      rotate_left
      · (go_simp; (try exact rfl))
      try simp only [Act.put, pu1, pu2, pu3]
      refine wpAnyU_done (by kernel_rfl) (fun wE huE => ?_) _
      have ⟨hS1, hS2, hS3, hS4, hSB⟩ := ((fun _ _ h hu => ⟨(h.1).up hu, (h.2.1).up hu, (h.2.2.1).up hu, (h.2.2.2.1).up hu, below_up (h.2.2.2.2) hu⟩) : ∀ w1 w2 : World, (fun wq => Row wq w.heap.size 54 16 (limb (enc a)) ∧ Row wq (w.heap.size + 1) 54 16 (limb (enc b)) ∧ Row wq (w.heap.size + 1 + 1) 54 16 (fun _ => 0) ∧ Row wq w'.heap.size 54 16 (limb (enc (a - b))) ∧ Below w.heap.size w wq) w1 → Up w1 w2 → (fun wq => Row wq w.heap.size 54 16 (limb (enc a)) ∧ Row wq (w.heap.size + 1) 54 16 (limb (enc b)) ∧ Row wq (w.heap.size + 1 + 1) 54 16 (fun _ => 0) ∧ Row wq w'.heap.size 54 16 (limb (enc (a - b))) ∧ Below w.heap.size w wq) w2) _ _ hSS huE
      clear huE hSS
      go_wp2_with (first | ((with_reducible apply ld_rowP undW infoW); exact rfl; exact rfl; focus (repeat (first | assumption | ((with_reducible apply row_newc); (focus (first | rfl | (simp; done)))) | ((with_reducible apply row_newz); (focus (first | rfl | (simp; done)))) | (with_reducible apply row_same) | ((with_reducible apply row_else); (focus (first | (simp; done) | (simp; omega) | omega))) | (with_reducible apply row_alloc) | (with_reducible apply row_drew) | (with_reducible apply row_drewN) | ((with_reducible apply row_up); assumption)))) | ((with_reducible apply st_rowP infoW); exact rfl; exact rfl; focus (repeat (first | assumption | ((with_reducible apply row_newc); (focus (first | rfl | (simp; done)))) | ((with_reducible apply row_newz); (focus (first | rfl | (simp; done)))) | (with_reducible apply row_same) | ((with_reducible apply row_else); (focus (first | (simp; done) | (simp; omega) | omega))) | (with_reducible apply row_alloc) | (with_reducible apply row_drew) | (with_reducible apply row_drewN) | ((with_reducible apply row_up); assumption)))) | ((with_reducible apply st_rowZ infoW); exact rfl; exact rfl; focus (repeat (first | assumption | ((with_reducible apply row_newc); (focus (first | rfl | (simp; done)))) | ((with_reducible apply row_newz); (focus (first | rfl | (simp; done)))) | (with_reducible apply row_same) | ((with_reducible apply row_else); (focus (first | (simp; done) | (simp; omega) | omega))) | (with_reducible apply row_alloc) | (with_reducible apply row_drew) | (with_reducible apply row_drewN) | ((with_reducible apply row_up); assumption)))))
      exact bodyPost_ret (res2 rfl undW infoW _ _ rfl (by (repeat (first | assumption | ((with_reducible apply row_newc); (focus (first | rfl | (simp; done)))) | ((with_reducible apply row_newz); (focus (first | rfl | (simp; done)))) | (with_reducible apply row_same) | ((with_reducible apply row_else); (focus (first | (simp; done) | (simp; omega) | omega))) | (with_reducible apply row_alloc) | (with_reducible apply row_drew) | (with_reducible apply row_drewN) | ((with_reducible apply row_up); assumption))))) rfl ⟨rfl, (by repeat (first | assumption | (with_reducible apply Up.of) | (with_reducible exact Below.refl _ _) | (with_reducible exact Up.refl _) | ((with_reducible apply bl_setRow); (focus (first | exact Nat.le_refl _ | (simp; done) | (simp; omega) | omega))) | (with_reducible apply below_drewN) | (with_reducible apply Below.drew) | ((with_reducible apply bl_alloc); (focus (first | exact Nat.le_refl _ | (simp; done) | (simp; omega) | omega))) | ((with_reducible apply bl_setCell); (focus (first | exact Nat.le_refl _ | (simp; done) | (simp; omega) | omega))) | ((with_reducible apply up_tr); assumption)))⟩
    · have hd2 : decide (b < 0) = false := by simpa using b0
      rw [hd2] at HB
      have hk := hk1 (by simp [a0, b0])
      by_cases hs : hb ≤ enc (a - b)
      · have hd3 : decide (hb ≤ enc (a - b)) = true := by simpa using hs
        rw [hd3] at HM hk
        rw [opt_yes (hk.1 rfl)]
        clear hk1 hk2 hk hs hd hd2 hd3 a0 b0
        unfold wideV at *
        go_enter Tryz.func110, Tryz.ntmps110
        go_wp2_with (first | ((with_reducible apply ld_rowP undW infoW); exact rfl; exact rfl; focus (repeat (first | assumption | ((with_reducible apply row_newc); (focus (first | rfl | (simp; done)))) | ((with_reducible apply row_newz); (focus (first | rfl | (simp; done)))) | (with_reducible apply row_same) | ((with_reducible apply row_else); (focus (first | (simp; done) | (simp; omega) | omega))) | (with_reducible apply row_alloc) | (with_reducible apply row_drew) | (with_reducible apply row_drewN) | ((with_reducible apply row_up); assumption)))) | ((with_reducible apply st_rowP infoW); exact rfl; exact rfl; focus (repeat (first | assumption | ((with_reducible apply row_newc); (focus (first | rfl | (simp; done)))) | ((with_reducible apply row_newz); (focus (first | rfl | (simp; done)))) | (with_reducible apply row_same) | ((with_reducible apply row_else); (focus (first | (simp; done) | (simp; omega) | omega))) | (with_reducible apply row_alloc) | (with_reducible apply row_drew) | (with_reducible apply row_drewN) | ((with_reducible apply row_up); assumption)))) | ((with_reducible apply st_rowZ infoW); exact rfl; exact rfl; focus (repeat (first | assumption | ((with_reducible apply row_newc); (focus (first | rfl | (simp; done)))) | ((with_reducible apply row_newz); (focus (first | rfl | (simp; done)))) | (with_reducible apply row_same) | ((with_reducible apply row_else); (focus (first | (simp; done) | (simp; omega) | omega))) | (with_reducible apply row_alloc) | (with_reducible apply row_drew) | (with_reducible apply row_drewN) | ((with_reducible apply row_up); assumption)))) | (go_at_call 117; refine (HP.out _).mono ?_; rintro e w' ⟨rfl, hu⟩; have hsz := hu.size; simp at hsz))
        refine wp_region_upS (S := (fun wq => Row wq w.heap.size 54 16 (limb (enc a)) ∧ Row wq (w.heap.size + 1) 54 16 (limb (enc b)) ∧ Row wq (w.heap.size + 1 + 1) 54 16 (fun _ => 0) ∧ Row wq w'.heap.size 54 16 (limb (enc (a - b))) ∧ Below w.heap.size w wq)) (req := (fun _ => true)) (by kernel_rfl) (fun _ _ h hu => ⟨(h.1).up hu, (h.2.1).up hu, (h.2.2.1).up hu, (h.2.2.2.1).up hu, below_up (h.2.2.2.2) hu⟩) ⟨(by (repeat (first | assumption | ((with_reducible apply row_newc); (focus (first | rfl | (simp; done)))) | ((with_reducible apply row_newz); (focus (first | rfl | (simp; done)))) | (with_reducible apply row_same) | ((with_reducible apply row_else); (focus (first | (simp; done) | (simp; omega) | omega))) | (with_reducible apply row_alloc) | (with_reducible apply row_drew) | (with_reducible apply row_drewN) | ((with_reducible apply row_up); assumption)))), (by (repeat (first | assumption | ((with_reducible apply row_newc); (focus (first | rfl | (simp; done)))) | ((with_reducible apply row_newz); (focus (first | rfl | (simp; done)))) | (with_reducible apply row_same) | ((with_reducible apply row_else); (focus (first | (simp; done) | (simp; omega) | omega))) | (with_reducible apply row_alloc) | (with_reducible apply row_drew) | (with_reducible apply row_drewN) | ((with_reducible apply row_up); assumption)))), (by (repeat (first | assumption | ((with_reducible apply row_newc); (focus (first | rfl | (simp; done)))) | ((with_reducible apply row_newz); (focus (first | rfl | (simp; done)))) | (with_reducible apply row_same) | ((with_reducible apply row_else); (focus (first | (simp; done) | (simp; omega) | omega))) | (with_reducible apply row_alloc) | (with_reducible apply row_drew) | (with_reducible apply row_drewN) | ((with_reducible apply row_up); assumption)))), (by (repeat (first | assumption | ((with_reducible apply row_newc); (focus (first | rfl | (simp; done)))) | ((with_reducible apply row_newz); (focus (first | rfl | (simp; done)))) | (with_reducible apply row_same) | ((with_reducible apply row_else); (focus (first | (simp; done) | (simp; omega) | omega))) | (with_reducible apply row_alloc) | (with_reducible apply row_drew) | (with_reducible apply row_drewN) | ((with_reducible apply row_up); assumption)))), (by repeat (first | assumption | (with_reducible apply Up.of) | (with_reducible exact Below.refl _ _) | (with_reducible exact Up.refl _) | ((with_reducible apply bl_setRow); (focus (first | exact Nat.le_refl _ | (simp; done) | (simp; omega) | omega))) | (with_reducible apply below_drewN) | (with_reducible apply Below.drew) | ((with_reducible apply bl_alloc); (focus (first | exact Nat.le_refl _ | (simp; done) | (simp; omega) | omega))) | ((with_reducible apply bl_setCell); (focus (first | exact Nat.le_refl _ | (simp; done) | (simp; omega) | omega))) | ((with_reducible apply up_tr); assumption)))⟩ (fun wS hSS => ?_)
        have ⟨hS1, hS2, hS3, hS4, hSB⟩ := hSS
        clear hu
        refine wpAnyU_take (i := 0) (d := (some 10)) (v := _) rfl rfl (by kernel_rfl) (fun _ _ _ h => h) (fun _ _ h hu => ⟨(h.1).up hu, (h.2.1).up hu, (h.2.2.1).up hu, (h.2.2.2.1).up hu, below_up (h.2.2.2.2) hu⟩) hSS (Or.inl ⟨by rfl, fun w' hSw => yu_value (run_ld undW infoW _ rfl _ rfl hSw.1)⟩) ?_
        try simp only [Act.put, pu1, pu2, pu3]
        refine wpAnyU_take (i := 1) (d := (some 11)) (v := _) rfl rfl (by kernel_rfl) (fun _ _ _ h => h) (fun _ _ h hu => ⟨(h.1).up hu, (h.2.1).up hu, (h.2.2.1).up hu, (h.2.2.2.1).up hu, below_up (h.2.2.2.2) hu⟩) hSS (Or.inl ⟨by rfl, fun w' hSw => yu_call ?_ (HA.out _)⟩) ?_
        · go_simp
        try simp only [Act.put, pu1, pu2, pu3]
        refine wpAnyU_take (i := 2) (d := (some 12)) (v := _) rfl rfl (by kernel_rfl) (fun _ _ _ h => h) (fun _ _ h hu => ⟨(h.1).up hu, (h.2.1).up hu, (h.2.2.1).up hu, (h.2.2.2.1).up hu, below_up (h.2.2.2.2) hu⟩) hSS (Or.inl ⟨by rfl, fun w' hSw => yu_value (run_ld undW infoW _ rfl _ rfl hSw.2.1)⟩) ?_
        try simp only [Act.put, pu1, pu2, pu3]
        refine wpAnyU_take (i := 3) (d := (some 13)) (v := _) rfl rfl (by kernel_rfl) (fun _ _ _ h => h) (fun _ _ h hu => ⟨(h.1).up hu, (h.2.1).up hu, (h.2.2.1).up hu, (h.2.2.2.1).up hu, below_up (h.2.2.2.2) hu⟩) hSS (Or.inl ⟨by rfl, fun w' hSw => yu_call ?_ (HB.out _)⟩) ?_
        · go_simp
        try simp only [Act.put, pu1, pu2, pu3]
        refine wpAnyU_pure (i := 4) (d := (some 14)) (v := ?_) rfl rfl (by kernel_rfl) (fun _ _ _ h => h) (fun _ _ h hu => ⟨(h.1).up hu, (h.2.1).up hu, (h.2.2.1).up hu, (h.2.2.2.1).up hu, below_up (h.2.2.2.2) hu⟩) (Or.inl ⟨by rfl, fun w' _ => yu_value ?_⟩) ?_
        rotate_left
        · (go_simp; (try exact rfl))
        try simp only [Act.put, pu1, pu2, pu3]
        refine wpAnyU_pure (i := 5) (d := (some 15)) (v := ?_) rfl rfl (by kernel_rfl) (fun _ _ _ h => h) (fun _ _ h hu => ⟨(h.1).up hu, (h.2.1).up hu, (h.2.2.1).up hu, (h.2.2.2.1).up hu, below_up (h.2.2.2.2) hu⟩) (Or.inl ⟨by rfl, fun w' _ => yu_value ?_⟩) ?_
        rotate_left
        · (go_simp; (try exact rfl))
        try simp only [Act.put, pu1, pu2, pu3]
        refine wpAnyU_take (i := 6) (d := (some 16)) (v := _) rfl rfl (by kernel_rfl) (fun _ _ _ h => h) (fun _ _ h hu => ⟨(h.1).up hu, (h.2.1).up hu, (h.2.2.1).up hu, (h.2.2.2.1).up hu, below_up (h.2.2.2.2) hu⟩) hSS (Or.inl ⟨by rfl, fun w' hSw => yu_value (run_ld undW infoW _ rfl _ rfl hSw.2.2.2.1)⟩) ?_
        try simp only [Act.put, pu1, pu2, pu3]
        refine wpAnyU_take (i := 7) (d := (some 17)) (v := _) rfl rfl (by kernel_rfl) (fun _ _ _ h => h) (fun _ _ h hu => ⟨(h.1).up hu, (h.2.1).up hu, (h.2.2.1).up hu, (h.2.2.2.1).up hu, below_up (h.2.2.2.2) hu⟩) hSS (Or.inl ⟨by rfl, fun w' hSw => yu_call ?_ (HM.out _)⟩) ?_
        · go_simp
        try simp only [Act.put, pu1, pu2, pu3]
        refine wpAnyU_take (i := 8) (d := (some 18)) (v := _) rfl rfl (by kernel_rfl) (fun _ _ _ h => h) (fun _ _ h hu => ⟨(h.1).up hu, (h.2.1).up hu, (h.2.2.1).up hu, (h.2.2.2.1).up hu, below_up (h.2.2.2.2) hu⟩) hSS (Or.inl ⟨by rfl, fun w' hSw => yu_value (run_ld undW infoW _ rfl _ rfl hSw.1)⟩) ?_
        try simp only [Act.put, pu1, pu2, pu3]
        refine wpAnyU_take (i := 9) (d := (some 19)) (v := _) rfl rfl (by kernel_rfl) (fun _ _ _ h => h) (fun _ _ h hu => ⟨(h.1).up hu, (h.2.1).up hu, (h.2.2.1).up hu, (h.2.2.2.1).up hu, below_up (h.2.2.2.2) hu⟩) hSS (Or.inl ⟨by rfl, fun w' hSw => yu_call ?_ (HA.out _)⟩) ?_
        · go_simp
        try simp only [Act.put, pu1, pu2, pu3]
        refine wpAnyU_pure (i := 10) (d := (some 20)) (v := ?_) rfl rfl (by kernel_rfl) (fun _ _ _ h => h) (fun _ _ h hu => ⟨(h.1).up hu, (h.2.1).up hu, (h.2.2.1).up hu, (h.2.2.2.1).up hu, below_up (h.2.2.2.2) hu⟩) (Or.inl ⟨by rfl, fun w' _ => yu_value ?_⟩) ?_
        rotate_left
        · (go_simp; (try exact rfl))
        try simp only [Act.put, pu1, pu2, pu3]
        refine wpAnyU_pure (i := 11) (d := (some 21)) (v := ?_) rfl rfl (by kernel_rfl) (fun _ _ _ h => h) (fun _ _ h hu => ⟨(h.1).up hu, (h.2.1).up hu, (h.2.2.1).up hu, (h.2.2.2.1).up hu, below_up (h.2.2.2.2) hu⟩) (Or.inl ⟨by rfl, fun w' _ => yu_value ?_⟩) ?_
        rotate_left
        · (go_simp; (try exact rfl))
        try simp only [Act.put, pu1, pu2, pu3]
        refine wpAnyU_done (by kernel_rfl) (fun wE huE => ?_) _
        have ⟨hS1, hS2, hS3, hS4, hSB⟩ := ((fun _ _ h hu => ⟨(h.1).up hu, (h.2.1).up hu, (h.2.2.1).up hu, (h.2.2.2.1).up hu, below_up (h.2.2.2.2) hu⟩) : ∀ w1 w2 : World, (fun wq => Row wq w.heap.size 54 16 (limb (enc a)) ∧ Row wq (w.heap.size + 1) 54 16 (limb (enc b)) ∧ Row wq (w.heap.size + 1 + 1) 54 16 (fun _ => 0) ∧ Row wq w'.heap.size 54 16 (limb (enc (a - b))) ∧ Below w.heap.size w wq) w1 → Up w1 w2 → (fun wq => Row wq w.heap.size 54 16 (limb (enc a)) ∧ Row wq (w.heap.size + 1) 54 16 (limb (enc b)) ∧ Row wq (w.heap.size + 1 + 1) 54 16 (fun _ => 0) ∧ Row wq w'.heap.size 54 16 (limb (enc (a - b))) ∧ Below w.heap.size w wq) w2) _ _ hSS huE
        clear huE hSS
        go_wp2_with (first | ((with_reducible apply ld_rowP undW infoW); exact rfl; exact rfl; focus (repeat (first | assumption | ((with_reducible apply row_newc); (focus (first | rfl | (simp; done)))) | ((with_reducible apply row_newz); (focus (first | rfl | (simp; done)))) | (with_reducible apply row_same) | ((with_reducible apply row_else); (focus (first | (simp; done) | (simp; omega) | omega))) | (with_reducible apply row_alloc) | (with_reducible apply row_drew) | (with_reducible apply row_drewN) | ((with_reducible apply row_up); assumption)))) | ((with_reducible apply st_rowP infoW); exact rfl; exact rfl; focus (repeat (first | assumption | ((with_reducible apply row_newc); (focus (first | rfl | (simp; done)))) | ((with_reducible apply row_newz); (focus (first | rfl | (simp; done)))) | (with_reducible apply row_same) | ((with_reducible apply row_else); (focus (first | (simp; done) | (simp; omega) | omega))) | (with_reducible apply row_alloc) | (with_reducible apply row_drew) | (with_reducible apply row_drewN) | ((with_reducible apply row_up); assumption)))) | ((with_reducible apply st_rowZ infoW); exact rfl; exact rfl; focus (repeat (first | assumption | ((with_reducible apply row_newc); (focus (first | rfl | (simp; done)))) | ((with_reducible apply row_newz); (focus (first | rfl | (simp; done)))) | (with_reducible apply row_same) | ((with_reducible apply row_else); (focus (first | (simp; done) | (simp; omega) | omega))) | (with_reducible apply row_alloc) | (with_reducible apply row_drew) | (with_reducible apply row_drewN) | ((with_reducible apply row_up); assumption)))))
        exact bodyPost_ret (res2 rfl undW infoW _ _ rfl (by (repeat (first | assumption | ((with_reducible apply row_newc); (focus (first | rfl | (simp; done)))) | ((with_reducible apply row_newz); (focus (first | rfl | (simp; done)))) | (with_reducible apply row_same) | ((with_reducible apply row_else); (focus (first | (simp; done) | (simp; omega) | omega))) | (with_reducible apply row_alloc) | (with_reducible apply row_drew) | (with_reducible apply row_drewN) | ((with_reducible apply row_up); assumption))))) rfl ⟨rfl, (by repeat (first | assumption | (with_reducible apply Up.of) | (with_reducible exact Below.refl _ _) | (with_reducible exact Up.refl _) | ((with_reducible apply bl_setRow); (focus (first | exact Nat.le_refl _ | (simp; done) | (simp; omega) | omega))) | (with_reducible apply below_drewN) | (with_reducible apply Below.drew) | ((with_reducible apply bl_alloc); (focus (first | exact Nat.le_refl _ | (simp; done) | (simp; omega) | omega))) | ((with_reducible apply bl_setCell); (focus (first | exact Nat.le_refl _ | (simp; done) | (simp; omega) | omega))) | ((with_reducible apply up_tr); assumption)))⟩
      · have hd3 : decide (hb ≤ enc (a - b)) = false := by simpa using hs
        rw [hd3] at HM hk
        rw [opt_no fun h => by simpa using hk.2 h]
        clear hk1 hk2 hk hs hd hd2 hd3 a0 b0
        unfold wideV at *
        go_enter Tryz.func110, Tryz.ntmps110
        go_wp2_with (first | ((with_reducible apply ld_rowP undW infoW); exact rfl; exact rfl; focus (repeat (first | assumption | ((with_reducible apply row_newc); (focus (first | rfl | (simp; done)))) | ((with_reducible apply row_newz); (focus (first | rfl | (simp; done)))) | (with_reducible apply row_same) | ((with_reducible apply row_else); (focus (first | (simp; done) | (simp; omega) | omega))) | (with_reducible apply row_alloc) | (with_reducible apply row_drew) | (with_reducible apply row_drewN) | ((with_reducible apply row_up); assumption)))) | ((with_reducible apply st_rowP infoW); exact rfl; exact rfl; focus (repeat (first | assumption | ((with_reducible apply row_newc); (focus (first | rfl | (simp; done)))) | ((with_reducible apply row_newz); (focus (first | rfl | (simp; done)))) | (with_reducible apply row_same) | ((with_reducible apply row_else); (focus (first | (simp; done) | (simp; omega) | omega))) | (with_reducible apply row_alloc) | (with_reducible apply row_drew) | (with_reducible apply row_drewN) | ((with_reducible apply row_up); assumption)))) | ((with_reducible apply st_rowZ infoW); exact rfl; exact rfl; focus (repeat (first | assumption | ((with_reducible apply row_newc); (focus (first | rfl | (simp; done)))) | ((with_reducible apply row_newz); (focus (first | rfl | (simp; done)))) | (with_reducible apply row_same) | ((with_reducible apply row_else); (focus (first | (simp; done) | (simp; omega) | omega))) | (with_reducible apply row_alloc) | (with_reducible apply row_drew) | (with_reducible apply row_drewN) | ((with_reducible apply row_up); assumption)))) | (go_at_call 117; refine (HP.out _).mono ?_; rintro e w' ⟨rfl, hu⟩; have hsz := hu.size; simp at hsz))
        refine wp_region_upS (S := (fun wq => Row wq w.heap.size 54 16 (limb (enc a)) ∧ Row wq (w.heap.size + 1) 54 16 (limb (enc b)) ∧ Row wq (w.heap.size + 1 + 1) 54 16 (fun _ => 0) ∧ Row wq w'.heap.size 54 16 (limb (enc (a - b))) ∧ Below w.heap.size w wq)) (req := (fun _ => true)) (by kernel_rfl) (fun _ _ h hu => ⟨(h.1).up hu, (h.2.1).up hu, (h.2.2.1).up hu, (h.2.2.2.1).up hu, below_up (h.2.2.2.2) hu⟩) ⟨(by (repeat (first | assumption | ((with_reducible apply row_newc); (focus (first | rfl | (simp; done)))) | ((with_reducible apply row_newz); (focus (first | rfl | (simp; done)))) | (with_reducible apply row_same) | ((with_reducible apply row_else); (focus (first | (simp; done) | (simp; omega) | omega))) | (with_reducible apply row_alloc) | (with_reducible apply row_drew) | (with_reducible apply row_drewN) | ((with_reducible apply row_up); assumption)))), (by (repeat (first | assumption | ((with_reducible apply row_newc); (focus (first | rfl | (simp; done)))) | ((with_reducible apply row_newz); (focus (first | rfl | (simp; done)))) | (with_reducible apply row_same) | ((with_reducible apply row_else); (focus (first | (simp; done) | (simp; omega) | omega))) | (with_reducible apply row_alloc) | (with_reducible apply row_drew) | (with_reducible apply row_drewN) | ((with_reducible apply row_up); assumption)))), (by (repeat (first | assumption | ((with_reducible apply row_newc); (focus (first | rfl | (simp; done)))) | ((with_reducible apply row_newz); (focus (first | rfl | (simp; done)))) | (with_reducible apply row_same) | ((with_reducible apply row_else); (focus (first | (simp; done) | (simp; omega) | omega))) | (with_reducible apply row_alloc) | (with_reducible apply row_drew) | (with_reducible apply row_drewN) | ((with_reducible apply row_up); assumption)))), (by (repeat (first | assumption | ((with_reducible apply row_newc); (focus (first | rfl | (simp; done)))) | ((with_reducible apply row_newz); (focus (first | rfl | (simp; done)))) | (with_reducible apply row_same) | ((with_reducible apply row_else); (focus (first | (simp; done) | (simp; omega) | omega))) | (with_reducible apply row_alloc) | (with_reducible apply row_drew) | (with_reducible apply row_drewN) | ((with_reducible apply row_up); assumption)))), (by repeat (first | assumption | (with_reducible apply Up.of) | (with_reducible exact Below.refl _ _) | (with_reducible exact Up.refl _) | ((with_reducible apply bl_setRow); (focus (first | exact Nat.le_refl _ | (simp; done) | (simp; omega) | omega))) | (with_reducible apply below_drewN) | (with_reducible apply Below.drew) | ((with_reducible apply bl_alloc); (focus (first | exact Nat.le_refl _ | (simp; done) | (simp; omega) | omega))) | ((with_reducible apply bl_setCell); (focus (first | exact Nat.le_refl _ | (simp; done) | (simp; omega) | omega))) | ((with_reducible apply up_tr); assumption)))⟩ (fun wS hSS => ?_)
        have ⟨hS1, hS2, hS3, hS4, hSB⟩ := hSS
        clear hu
        refine wpAnyU_take (i := 0) (d := (some 10)) (v := _) rfl rfl (by kernel_rfl) (fun _ _ _ h => h) (fun _ _ h hu => ⟨(h.1).up hu, (h.2.1).up hu, (h.2.2.1).up hu, (h.2.2.2.1).up hu, below_up (h.2.2.2.2) hu⟩) hSS (Or.inl ⟨by rfl, fun w' hSw => yu_value (run_ld undW infoW _ rfl _ rfl hSw.1)⟩) ?_
        try simp only [Act.put, pu1, pu2, pu3]
        refine wpAnyU_take (i := 1) (d := (some 11)) (v := _) rfl rfl (by kernel_rfl) (fun _ _ _ h => h) (fun _ _ h hu => ⟨(h.1).up hu, (h.2.1).up hu, (h.2.2.1).up hu, (h.2.2.2.1).up hu, below_up (h.2.2.2.2) hu⟩) hSS (Or.inl ⟨by rfl, fun w' hSw => yu_call ?_ (HA.out _)⟩) ?_
        · go_simp
        try simp only [Act.put, pu1, pu2, pu3]
        refine wpAnyU_take (i := 2) (d := (some 12)) (v := _) rfl rfl (by kernel_rfl) (fun _ _ _ h => h) (fun _ _ h hu => ⟨(h.1).up hu, (h.2.1).up hu, (h.2.2.1).up hu, (h.2.2.2.1).up hu, below_up (h.2.2.2.2) hu⟩) hSS (Or.inl ⟨by rfl, fun w' hSw => yu_value (run_ld undW infoW _ rfl _ rfl hSw.2.1)⟩) ?_
        try simp only [Act.put, pu1, pu2, pu3]
        refine wpAnyU_take (i := 3) (d := (some 13)) (v := _) rfl rfl (by kernel_rfl) (fun _ _ _ h => h) (fun _ _ h hu => ⟨(h.1).up hu, (h.2.1).up hu, (h.2.2.1).up hu, (h.2.2.2.1).up hu, below_up (h.2.2.2.2) hu⟩) hSS (Or.inl ⟨by rfl, fun w' hSw => yu_call ?_ (HB.out _)⟩) ?_
        · go_simp
        try simp only [Act.put, pu1, pu2, pu3]
        refine wpAnyU_pure (i := 4) (d := (some 14)) (v := ?_) rfl rfl (by kernel_rfl) (fun _ _ _ h => h) (fun _ _ h hu => ⟨(h.1).up hu, (h.2.1).up hu, (h.2.2.1).up hu, (h.2.2.2.1).up hu, below_up (h.2.2.2.2) hu⟩) (Or.inl ⟨by rfl, fun w' _ => yu_value ?_⟩) ?_
        rotate_left
        · (go_simp; (try exact rfl))
        try simp only [Act.put, pu1, pu2, pu3]
        refine wpAnyU_pure (i := 5) (d := (some 15)) (v := ?_) rfl rfl (by kernel_rfl) (fun _ _ _ h => h) (fun _ _ h hu => ⟨(h.1).up hu, (h.2.1).up hu, (h.2.2.1).up hu, (h.2.2.2.1).up hu, below_up (h.2.2.2.2) hu⟩) (Or.inl ⟨by rfl, fun w' _ => yu_value ?_⟩) ?_
        rotate_left
        · (go_simp; (try exact rfl))
        try simp only [Act.put, pu1, pu2, pu3]
        refine wpAnyU_take (i := 6) (d := (some 16)) (v := _) rfl rfl (by kernel_rfl) (fun _ _ _ h => h) (fun _ _ h hu => ⟨(h.1).up hu, (h.2.1).up hu, (h.2.2.1).up hu, (h.2.2.2.1).up hu, below_up (h.2.2.2.2) hu⟩) hSS (Or.inl ⟨by rfl, fun w' hSw => yu_value (run_ld undW infoW _ rfl _ rfl hSw.2.2.2.1)⟩) ?_
        try simp only [Act.put, pu1, pu2, pu3]
        refine wpAnyU_take (i := 7) (d := (some 17)) (v := _) rfl rfl (by kernel_rfl) (fun _ _ _ h => h) (fun _ _ h hu => ⟨(h.1).up hu, (h.2.1).up hu, (h.2.2.1).up hu, (h.2.2.2.1).up hu, below_up (h.2.2.2.2) hu⟩) hSS (Or.inl ⟨by rfl, fun w' hSw => yu_call ?_ (HM.out _)⟩) ?_
        · go_simp
        try simp only [Act.put, pu1, pu2, pu3]
        refine wpAnyU_take (i := 8) (d := (some 18)) (v := _) rfl rfl (by kernel_rfl) (fun _ _ _ h => h) (fun _ _ h hu => ⟨(h.1).up hu, (h.2.1).up hu, (h.2.2.1).up hu, (h.2.2.2.1).up hu, below_up (h.2.2.2.2) hu⟩) hSS (Or.inl ⟨by rfl, fun w' hSw => yu_value (run_ld undW infoW _ rfl _ rfl hSw.1)⟩) ?_
        try simp only [Act.put, pu1, pu2, pu3]
        refine wpAnyU_take (i := 9) (d := (some 19)) (v := _) rfl rfl (by kernel_rfl) (fun _ _ _ h => h) (fun _ _ h hu => ⟨(h.1).up hu, (h.2.1).up hu, (h.2.2.1).up hu, (h.2.2.2.1).up hu, below_up (h.2.2.2.2) hu⟩) hSS (Or.inl ⟨by rfl, fun w' hSw => yu_call ?_ (HA.out _)⟩) ?_
        · go_simp
        try simp only [Act.put, pu1, pu2, pu3]
        refine wpAnyU_pure (i := 10) (d := (some 20)) (v := ?_) rfl rfl (by kernel_rfl) (fun _ _ _ h => h) (fun _ _ h hu => ⟨(h.1).up hu, (h.2.1).up hu, (h.2.2.1).up hu, (h.2.2.2.1).up hu, below_up (h.2.2.2.2) hu⟩) (Or.inl ⟨by rfl, fun w' _ => yu_value ?_⟩) ?_
        rotate_left
        · (go_simp; (try exact rfl))
        try simp only [Act.put, pu1, pu2, pu3]
        refine wpAnyU_pure (i := 11) (d := (some 21)) (v := ?_) rfl rfl (by kernel_rfl) (fun _ _ _ h => h) (fun _ _ h hu => ⟨(h.1).up hu, (h.2.1).up hu, (h.2.2.1).up hu, (h.2.2.2.1).up hu, below_up (h.2.2.2.2) hu⟩) (Or.inl ⟨by rfl, fun w' _ => yu_value ?_⟩) ?_
        rotate_left
        · (go_simp; (try exact rfl))
        try simp only [Act.put, pu1, pu2, pu3]
        refine wpAnyU_done (by kernel_rfl) (fun wE huE => ?_) _
        have ⟨hS1, hS2, hS3, hS4, hSB⟩ := ((fun _ _ h hu => ⟨(h.1).up hu, (h.2.1).up hu, (h.2.2.1).up hu, (h.2.2.2.1).up hu, below_up (h.2.2.2.2) hu⟩) : ∀ w1 w2 : World, (fun wq => Row wq w.heap.size 54 16 (limb (enc a)) ∧ Row wq (w.heap.size + 1) 54 16 (limb (enc b)) ∧ Row wq (w.heap.size + 1 + 1) 54 16 (fun _ => 0) ∧ Row wq w'.heap.size 54 16 (limb (enc (a - b))) ∧ Below w.heap.size w wq) w1 → Up w1 w2 → (fun wq => Row wq w.heap.size 54 16 (limb (enc a)) ∧ Row wq (w.heap.size + 1) 54 16 (limb (enc b)) ∧ Row wq (w.heap.size + 1 + 1) 54 16 (fun _ => 0) ∧ Row wq w'.heap.size 54 16 (limb (enc (a - b))) ∧ Below w.heap.size w wq) w2) _ _ hSS huE
        clear huE hSS
        go_wp2_with (first | ((with_reducible apply ld_rowP undW infoW); exact rfl; exact rfl; focus (repeat (first | assumption | ((with_reducible apply row_newc); (focus (first | rfl | (simp; done)))) | ((with_reducible apply row_newz); (focus (first | rfl | (simp; done)))) | (with_reducible apply row_same) | ((with_reducible apply row_else); (focus (first | (simp; done) | (simp; omega) | omega))) | (with_reducible apply row_alloc) | (with_reducible apply row_drew) | (with_reducible apply row_drewN) | ((with_reducible apply row_up); assumption)))) | ((with_reducible apply st_rowP infoW); exact rfl; exact rfl; focus (repeat (first | assumption | ((with_reducible apply row_newc); (focus (first | rfl | (simp; done)))) | ((with_reducible apply row_newz); (focus (first | rfl | (simp; done)))) | (with_reducible apply row_same) | ((with_reducible apply row_else); (focus (first | (simp; done) | (simp; omega) | omega))) | (with_reducible apply row_alloc) | (with_reducible apply row_drew) | (with_reducible apply row_drewN) | ((with_reducible apply row_up); assumption)))) | ((with_reducible apply st_rowZ infoW); exact rfl; exact rfl; focus (repeat (first | assumption | ((with_reducible apply row_newc); (focus (first | rfl | (simp; done)))) | ((with_reducible apply row_newz); (focus (first | rfl | (simp; done)))) | (with_reducible apply row_same) | ((with_reducible apply row_else); (focus (first | (simp; done) | (simp; omega) | omega))) | (with_reducible apply row_alloc) | (with_reducible apply row_drew) | (with_reducible apply row_drewN) | ((with_reducible apply row_up); assumption)))))
        exact bodyPost_ret (res2 rfl undW infoW _ _ rfl (by (repeat (first | assumption | ((with_reducible apply row_newc); (focus (first | rfl | (simp; done)))) | ((with_reducible apply row_newz); (focus (first | rfl | (simp; done)))) | (with_reducible apply row_same) | ((with_reducible apply row_else); (focus (first | (simp; done) | (simp; omega) | omega))) | (with_reducible apply row_alloc) | (with_reducible apply row_drew) | (with_reducible apply row_drewN) | ((with_reducible apply row_up); assumption))))) rfl ⟨rfl, (by repeat (first | assumption | (with_reducible apply Up.of) | (with_reducible exact Below.refl _ _) | (with_reducible exact Up.refl _) | ((with_reducible apply bl_setRow); (focus (first | exact Nat.le_refl _ | (simp; done) | (simp; omega) | omega))) | (with_reducible apply below_drewN) | (with_reducible apply Below.drew) | ((with_reducible apply bl_alloc); (focus (first | exact Nat.le_refl _ | (simp; done) | (simp; omega) | omega))) | ((with_reducible apply bl_setCell); (focus (first | exact Nat.le_refl _ | (simp; done) | (simp; omega) | omega))) | ((with_reducible apply up_tr); assumption)))⟩
  · have hd : decide (a < 0) = false := by simpa using a0
    rw [hd] at HA hk1
    by_cases b0 : b < 0
    · have hd2 : decide (b < 0) = true := by simpa using b0
      rw [hd2] at HB
      have hk := hk1 (by simp [a0, b0])
      by_cases hs : hb ≤ enc (a - b)
      · have hd3 : decide (hb ≤ enc (a - b)) = true := by simpa using hs
        rw [hd3] at HM hk
        rw [opt_no fun h => by simpa using hk.2 h]
        clear hk1 hk2 hk hs hd hd2 hd3 a0 b0
        unfold wideV at *
        go_enter Tryz.func110, Tryz.ntmps110
        go_wp2_with (first | ((with_reducible apply ld_rowP undW infoW); exact rfl; exact rfl; focus (repeat (first | assumption | ((with_reducible apply row_newc); (focus (first | rfl | (simp; done)))) | ((with_reducible apply row_newz); (focus (first | rfl | (simp; done)))) | (with_reducible apply row_same) | ((with_reducible apply row_else); (focus (first | (simp; done) | (simp; omega) | omega))) | (with_reducible apply row_alloc) | (with_reducible apply row_drew) | (with_reducible apply row_drewN) | ((with_reducible apply row_up); assumption)))) | ((with_reducible apply st_rowP infoW); exact rfl; exact rfl; focus (repeat (first | assumption | ((with_reducible apply row_newc); (focus (first | rfl | (simp; done)))) | ((with_reducible apply row_newz); (focus (first | rfl | (simp; done)))) | (with_reducible apply row_same) | ((with_reducible apply row_else); (focus (first | (simp; done) | (simp; omega) | omega))) | (with_reducible apply row_alloc) | (with_reducible apply row_drew) | (with_reducible apply row_drewN) | ((with_reducible apply row_up); assumption)))) | ((with_reducible apply st_rowZ infoW); exact rfl; exact rfl; focus (repeat (first | assumption | ((with_reducible apply row_newc); (focus (first | rfl | (simp; done)))) | ((with_reducible apply row_newz); (focus (first | rfl | (simp; done)))) | (with_reducible apply row_same) | ((with_reducible apply row_else); (focus (first | (simp; done) | (simp; omega) | omega))) | (with_reducible apply row_alloc) | (with_reducible apply row_drew) | (with_reducible apply row_drewN) | ((with_reducible apply row_up); assumption)))) | (go_at_call 117; refine (HP.out _).mono ?_; rintro e w' ⟨rfl, hu⟩; have hsz := hu.size; simp at hsz))
        refine wp_region_upS (S := (fun wq => Row wq w.heap.size 54 16 (limb (enc a)) ∧ Row wq (w.heap.size + 1) 54 16 (limb (enc b)) ∧ Row wq (w.heap.size + 1 + 1) 54 16 (fun _ => 0) ∧ Row wq w'.heap.size 54 16 (limb (enc (a - b))) ∧ Below w.heap.size w wq)) (req := (fun _ => true)) (by kernel_rfl) (fun _ _ h hu => ⟨(h.1).up hu, (h.2.1).up hu, (h.2.2.1).up hu, (h.2.2.2.1).up hu, below_up (h.2.2.2.2) hu⟩) ⟨(by (repeat (first | assumption | ((with_reducible apply row_newc); (focus (first | rfl | (simp; done)))) | ((with_reducible apply row_newz); (focus (first | rfl | (simp; done)))) | (with_reducible apply row_same) | ((with_reducible apply row_else); (focus (first | (simp; done) | (simp; omega) | omega))) | (with_reducible apply row_alloc) | (with_reducible apply row_drew) | (with_reducible apply row_drewN) | ((with_reducible apply row_up); assumption)))), (by (repeat (first | assumption | ((with_reducible apply row_newc); (focus (first | rfl | (simp; done)))) | ((with_reducible apply row_newz); (focus (first | rfl | (simp; done)))) | (with_reducible apply row_same) | ((with_reducible apply row_else); (focus (first | (simp; done) | (simp; omega) | omega))) | (with_reducible apply row_alloc) | (with_reducible apply row_drew) | (with_reducible apply row_drewN) | ((with_reducible apply row_up); assumption)))), (by (repeat (first | assumption | ((with_reducible apply row_newc); (focus (first | rfl | (simp; done)))) | ((with_reducible apply row_newz); (focus (first | rfl | (simp; done)))) | (with_reducible apply row_same) | ((with_reducible apply row_else); (focus (first | (simp; done) | (simp; omega) | omega))) | (with_reducible apply row_alloc) | (with_reducible apply row_drew) | (with_reducible apply row_drewN) | ((with_reducible apply row_up); assumption)))), (by (repeat (first | assumption | ((with_reducible apply row_newc); (focus (first | rfl | (simp; done)))) | ((with_reducible apply row_newz); (focus (first | rfl | (simp; done)))) | (with_reducible apply row_same) | ((with_reducible apply row_else); (focus (first | (simp; done) | (simp; omega) | omega))) | (with_reducible apply row_alloc) | (with_reducible apply row_drew) | (with_reducible apply row_drewN) | ((with_reducible apply row_up); assumption)))), (by repeat (first | assumption | (with_reducible apply Up.of) | (with_reducible exact Below.refl _ _) | (with_reducible exact Up.refl _) | ((with_reducible apply bl_setRow); (focus (first | exact Nat.le_refl _ | (simp; done) | (simp; omega) | omega))) | (with_reducible apply below_drewN) | (with_reducible apply Below.drew) | ((with_reducible apply bl_alloc); (focus (first | exact Nat.le_refl _ | (simp; done) | (simp; omega) | omega))) | ((with_reducible apply bl_setCell); (focus (first | exact Nat.le_refl _ | (simp; done) | (simp; omega) | omega))) | ((with_reducible apply up_tr); assumption)))⟩ (fun wS hSS => ?_)
        have ⟨hS1, hS2, hS3, hS4, hSB⟩ := hSS
        clear hu
        refine wpAnyU_take (i := 0) (d := (some 10)) (v := _) rfl rfl (by kernel_rfl) (fun _ _ _ h => h) (fun _ _ h hu => ⟨(h.1).up hu, (h.2.1).up hu, (h.2.2.1).up hu, (h.2.2.2.1).up hu, below_up (h.2.2.2.2) hu⟩) hSS (Or.inl ⟨by rfl, fun w' hSw => yu_value (run_ld undW infoW _ rfl _ rfl hSw.1)⟩) ?_
        try simp only [Act.put, pu1, pu2, pu3]
        refine wpAnyU_take (i := 1) (d := (some 11)) (v := _) rfl rfl (by kernel_rfl) (fun _ _ _ h => h) (fun _ _ h hu => ⟨(h.1).up hu, (h.2.1).up hu, (h.2.2.1).up hu, (h.2.2.2.1).up hu, below_up (h.2.2.2.2) hu⟩) hSS (Or.inl ⟨by rfl, fun w' hSw => yu_call ?_ (HA.out _)⟩) ?_
        · go_simp
        try simp only [Act.put, pu1, pu2, pu3]
        refine wpAnyU_take (i := 2) (d := (some 12)) (v := _) rfl rfl (by kernel_rfl) (fun _ _ _ h => h) (fun _ _ h hu => ⟨(h.1).up hu, (h.2.1).up hu, (h.2.2.1).up hu, (h.2.2.2.1).up hu, below_up (h.2.2.2.2) hu⟩) hSS (Or.inl ⟨by rfl, fun w' hSw => yu_value (run_ld undW infoW _ rfl _ rfl hSw.2.1)⟩) ?_
        try simp only [Act.put, pu1, pu2, pu3]
        refine wpAnyU_take (i := 3) (d := (some 13)) (v := _) rfl rfl (by kernel_rfl) (fun _ _ _ h => h) (fun _ _ h hu => ⟨(h.1).up hu, (h.2.1).up hu, (h.2.2.1).up hu, (h.2.2.2.1).up hu, below_up (h.2.2.2.2) hu⟩) hSS (Or.inl ⟨by rfl, fun w' hSw => yu_call ?_ (HB.out _)⟩) ?_
        · go_simp
        try simp only [Act.put, pu1, pu2, pu3]
        refine wpAnyU_pure (i := 4) (d := (some 14)) (v := ?_) rfl rfl (by kernel_rfl) (fun _ _ _ h => h) (fun _ _ h hu => ⟨(h.1).up hu, (h.2.1).up hu, (h.2.2.1).up hu, (h.2.2.2.1).up hu, below_up (h.2.2.2.2) hu⟩) (Or.inl ⟨by rfl, fun w' _ => yu_value ?_⟩) ?_
        rotate_left
        · (go_simp; (try exact rfl))
        try simp only [Act.put, pu1, pu2, pu3]
        refine wpAnyU_pure (i := 5) (d := (some 15)) (v := ?_) rfl rfl (by kernel_rfl) (fun _ _ _ h => h) (fun _ _ h hu => ⟨(h.1).up hu, (h.2.1).up hu, (h.2.2.1).up hu, (h.2.2.2.1).up hu, below_up (h.2.2.2.2) hu⟩) (Or.inl ⟨by rfl, fun w' _ => yu_value ?_⟩) ?_
        rotate_left
        · (go_simp; (try exact rfl))
        try simp only [Act.put, pu1, pu2, pu3]
        refine wpAnyU_take (i := 6) (d := (some 16)) (v := _) rfl rfl (by kernel_rfl) (fun _ _ _ h => h) (fun _ _ h hu => ⟨(h.1).up hu, (h.2.1).up hu, (h.2.2.1).up hu, (h.2.2.2.1).up hu, below_up (h.2.2.2.2) hu⟩) hSS (Or.inl ⟨by rfl, fun w' hSw => yu_value (run_ld undW infoW _ rfl _ rfl hSw.2.2.2.1)⟩) ?_
        try simp only [Act.put, pu1, pu2, pu3]
        refine wpAnyU_take (i := 7) (d := (some 17)) (v := _) rfl rfl (by kernel_rfl) (fun _ _ _ h => h) (fun _ _ h hu => ⟨(h.1).up hu, (h.2.1).up hu, (h.2.2.1).up hu, (h.2.2.2.1).up hu, below_up (h.2.2.2.2) hu⟩) hSS (Or.inl ⟨by rfl, fun w' hSw => yu_call ?_ (HM.out _)⟩) ?_
        · go_simp
        try simp only [Act.put, pu1, pu2, pu3]
        refine wpAnyU_take (i := 8) (d := (some 18)) (v := _) rfl rfl (by kernel_rfl) (fun _ _ _ h => h) (fun _ _ h hu => ⟨(h.1).up hu, (h.2.1).up hu, (h.2.2.1).up hu, (h.2.2.2.1).up hu, below_up (h.2.2.2.2) hu⟩) hSS (Or.inl ⟨by rfl, fun w' hSw => yu_value (run_ld undW infoW _ rfl _ rfl hSw.1)⟩) ?_
        try simp only [Act.put, pu1, pu2, pu3]
        refine wpAnyU_take (i := 9) (d := (some 19)) (v := _) rfl rfl (by kernel_rfl) (fun _ _ _ h => h) (fun _ _ h hu => ⟨(h.1).up hu, (h.2.1).up hu, (h.2.2.1).up hu, (h.2.2.2.1).up hu, below_up (h.2.2.2.2) hu⟩) hSS (Or.inl ⟨by rfl, fun w' hSw => yu_call ?_ (HA.out _)⟩) ?_
        · go_simp
        try simp only [Act.put, pu1, pu2, pu3]
        refine wpAnyU_pure (i := 10) (d := (some 20)) (v := ?_) rfl rfl (by kernel_rfl) (fun _ _ _ h => h) (fun _ _ h hu => ⟨(h.1).up hu, (h.2.1).up hu, (h.2.2.1).up hu, (h.2.2.2.1).up hu, below_up (h.2.2.2.2) hu⟩) (Or.inl ⟨by rfl, fun w' _ => yu_value ?_⟩) ?_
        rotate_left
        · (go_simp; (try exact rfl))
        try simp only [Act.put, pu1, pu2, pu3]
        refine wpAnyU_pure (i := 11) (d := (some 21)) (v := ?_) rfl rfl (by kernel_rfl) (fun _ _ _ h => h) (fun _ _ h hu => ⟨(h.1).up hu, (h.2.1).up hu, (h.2.2.1).up hu, (h.2.2.2.1).up hu, below_up (h.2.2.2.2) hu⟩) (Or.inl ⟨by rfl, fun w' _ => yu_value ?_⟩) ?_
        rotate_left
        · (go_simp; (try exact rfl))
        try simp only [Act.put, pu1, pu2, pu3]
        refine wpAnyU_done (by kernel_rfl) (fun wE huE => ?_) _
        have ⟨hS1, hS2, hS3, hS4, hSB⟩ := ((fun _ _ h hu => ⟨(h.1).up hu, (h.2.1).up hu, (h.2.2.1).up hu, (h.2.2.2.1).up hu, below_up (h.2.2.2.2) hu⟩) : ∀ w1 w2 : World, (fun wq => Row wq w.heap.size 54 16 (limb (enc a)) ∧ Row wq (w.heap.size + 1) 54 16 (limb (enc b)) ∧ Row wq (w.heap.size + 1 + 1) 54 16 (fun _ => 0) ∧ Row wq w'.heap.size 54 16 (limb (enc (a - b))) ∧ Below w.heap.size w wq) w1 → Up w1 w2 → (fun wq => Row wq w.heap.size 54 16 (limb (enc a)) ∧ Row wq (w.heap.size + 1) 54 16 (limb (enc b)) ∧ Row wq (w.heap.size + 1 + 1) 54 16 (fun _ => 0) ∧ Row wq w'.heap.size 54 16 (limb (enc (a - b))) ∧ Below w.heap.size w wq) w2) _ _ hSS huE
        clear huE hSS
        go_wp2_with (first | ((with_reducible apply ld_rowP undW infoW); exact rfl; exact rfl; focus (repeat (first | assumption | ((with_reducible apply row_newc); (focus (first | rfl | (simp; done)))) | ((with_reducible apply row_newz); (focus (first | rfl | (simp; done)))) | (with_reducible apply row_same) | ((with_reducible apply row_else); (focus (first | (simp; done) | (simp; omega) | omega))) | (with_reducible apply row_alloc) | (with_reducible apply row_drew) | (with_reducible apply row_drewN) | ((with_reducible apply row_up); assumption)))) | ((with_reducible apply st_rowP infoW); exact rfl; exact rfl; focus (repeat (first | assumption | ((with_reducible apply row_newc); (focus (first | rfl | (simp; done)))) | ((with_reducible apply row_newz); (focus (first | rfl | (simp; done)))) | (with_reducible apply row_same) | ((with_reducible apply row_else); (focus (first | (simp; done) | (simp; omega) | omega))) | (with_reducible apply row_alloc) | (with_reducible apply row_drew) | (with_reducible apply row_drewN) | ((with_reducible apply row_up); assumption)))) | ((with_reducible apply st_rowZ infoW); exact rfl; exact rfl; focus (repeat (first | assumption | ((with_reducible apply row_newc); (focus (first | rfl | (simp; done)))) | ((with_reducible apply row_newz); (focus (first | rfl | (simp; done)))) | (with_reducible apply row_same) | ((with_reducible apply row_else); (focus (first | (simp; done) | (simp; omega) | omega))) | (with_reducible apply row_alloc) | (with_reducible apply row_drew) | (with_reducible apply row_drewN) | ((with_reducible apply row_up); assumption)))))
        exact bodyPost_ret (res2 rfl undW infoW _ _ rfl (by (repeat (first | assumption | ((with_reducible apply row_newc); (focus (first | rfl | (simp; done)))) | ((with_reducible apply row_newz); (focus (first | rfl | (simp; done)))) | (with_reducible apply row_same) | ((with_reducible apply row_else); (focus (first | (simp; done) | (simp; omega) | omega))) | (with_reducible apply row_alloc) | (with_reducible apply row_drew) | (with_reducible apply row_drewN) | ((with_reducible apply row_up); assumption))))) rfl ⟨rfl, (by repeat (first | assumption | (with_reducible apply Up.of) | (with_reducible exact Below.refl _ _) | (with_reducible exact Up.refl _) | ((with_reducible apply bl_setRow); (focus (first | exact Nat.le_refl _ | (simp; done) | (simp; omega) | omega))) | (with_reducible apply below_drewN) | (with_reducible apply Below.drew) | ((with_reducible apply bl_alloc); (focus (first | exact Nat.le_refl _ | (simp; done) | (simp; omega) | omega))) | ((with_reducible apply bl_setCell); (focus (first | exact Nat.le_refl _ | (simp; done) | (simp; omega) | omega))) | ((with_reducible apply up_tr); assumption)))⟩
      · have hd3 : decide (hb ≤ enc (a - b)) = false := by simpa using hs
        rw [hd3] at HM hk
        rw [opt_yes (hk.1 rfl)]
        clear hk1 hk2 hk hs hd hd2 hd3 a0 b0
        unfold wideV at *
        go_enter Tryz.func110, Tryz.ntmps110
        go_wp2_with (first | ((with_reducible apply ld_rowP undW infoW); exact rfl; exact rfl; focus (repeat (first | assumption | ((with_reducible apply row_newc); (focus (first | rfl | (simp; done)))) | ((with_reducible apply row_newz); (focus (first | rfl | (simp; done)))) | (with_reducible apply row_same) | ((with_reducible apply row_else); (focus (first | (simp; done) | (simp; omega) | omega))) | (with_reducible apply row_alloc) | (with_reducible apply row_drew) | (with_reducible apply row_drewN) | ((with_reducible apply row_up); assumption)))) | ((with_reducible apply st_rowP infoW); exact rfl; exact rfl; focus (repeat (first | assumption | ((with_reducible apply row_newc); (focus (first | rfl | (simp; done)))) | ((with_reducible apply row_newz); (focus (first | rfl | (simp; done)))) | (with_reducible apply row_same) | ((with_reducible apply row_else); (focus (first | (simp; done) | (simp; omega) | omega))) | (with_reducible apply row_alloc) | (with_reducible apply row_drew) | (with_reducible apply row_drewN) | ((with_reducible apply row_up); assumption)))) | ((with_reducible apply st_rowZ infoW); exact rfl; exact rfl; focus (repeat (first | assumption | ((with_reducible apply row_newc); (focus (first | rfl | (simp; done)))) | ((with_reducible apply row_newz); (focus (first | rfl | (simp; done)))) | (with_reducible apply row_same) | ((with_reducible apply row_else); (focus (first | (simp; done) | (simp; omega) | omega))) | (with_reducible apply row_alloc) | (with_reducible apply row_drew) | (with_reducible apply row_drewN) | ((with_reducible apply row_up); assumption)))) | (go_at_call 117; refine (HP.out _).mono ?_; rintro e w' ⟨rfl, hu⟩; have hsz := hu.size; simp at hsz))
        refine wp_region_upS (S := (fun wq => Row wq w.heap.size 54 16 (limb (enc a)) ∧ Row wq (w.heap.size + 1) 54 16 (limb (enc b)) ∧ Row wq (w.heap.size + 1 + 1) 54 16 (fun _ => 0) ∧ Row wq w'.heap.size 54 16 (limb (enc (a - b))) ∧ Below w.heap.size w wq)) (req := (fun _ => true)) (by kernel_rfl) (fun _ _ h hu => ⟨(h.1).up hu, (h.2.1).up hu, (h.2.2.1).up hu, (h.2.2.2.1).up hu, below_up (h.2.2.2.2) hu⟩) ⟨(by (repeat (first | assumption | ((with_reducible apply row_newc); (focus (first | rfl | (simp; done)))) | ((with_reducible apply row_newz); (focus (first | rfl | (simp; done)))) | (with_reducible apply row_same) | ((with_reducible apply row_else); (focus (first | (simp; done) | (simp; omega) | omega))) | (with_reducible apply row_alloc) | (with_reducible apply row_drew) | (with_reducible apply row_drewN) | ((with_reducible apply row_up); assumption)))), (by (repeat (first | assumption | ((with_reducible apply row_newc); (focus (first | rfl | (simp; done)))) | ((with_reducible apply row_newz); (focus (first | rfl | (simp; done)))) | (with_reducible apply row_same) | ((with_reducible apply row_else); (focus (first | (simp; done) | (simp; omega) | omega))) | (with_reducible apply row_alloc) | (with_reducible apply row_drew) | (with_reducible apply row_drewN) | ((with_reducible apply row_up); assumption)))), (by (repeat (first | assumption | ((with_reducible apply row_newc); (focus (first | rfl | (simp; done)))) | ((with_reducible apply row_newz); (focus (first | rfl | (simp; done)))) | (with_reducible apply row_same) | ((with_reducible apply row_else); (focus (first | (simp; done) | (simp; omega) | omega))) | (with_reducible apply row_alloc) | (with_reducible apply row_drew) | (with_reducible apply row_drewN) | ((with_reducible apply row_up); assumption)))), (by (repeat (first | assumption | ((with_reducible apply row_newc); (focus (first | rfl | (simp; done)))) | ((with_reducible apply row_newz); (focus (first | rfl | (simp; done)))) | (with_reducible apply row_same) | ((with_reducible apply row_else); (focus (first | (simp; done) | (simp; omega) | omega))) | (with_reducible apply row_alloc) | (with_reducible apply row_drew) | (with_reducible apply row_drewN) | ((with_reducible apply row_up); assumption)))), (by repeat (first | assumption | (with_reducible apply Up.of) | (with_reducible exact Below.refl _ _) | (with_reducible exact Up.refl _) | ((with_reducible apply bl_setRow); (focus (first | exact Nat.le_refl _ | (simp; done) | (simp; omega) | omega))) | (with_reducible apply below_drewN) | (with_reducible apply Below.drew) | ((with_reducible apply bl_alloc); (focus (first | exact Nat.le_refl _ | (simp; done) | (simp; omega) | omega))) | ((with_reducible apply bl_setCell); (focus (first | exact Nat.le_refl _ | (simp; done) | (simp; omega) | omega))) | ((with_reducible apply up_tr); assumption)))⟩ (fun wS hSS => ?_)
        have ⟨hS1, hS2, hS3, hS4, hSB⟩ := hSS
        clear hu
        refine wpAnyU_take (i := 0) (d := (some 10)) (v := _) rfl rfl (by kernel_rfl) (fun _ _ _ h => h) (fun _ _ h hu => ⟨(h.1).up hu, (h.2.1).up hu, (h.2.2.1).up hu, (h.2.2.2.1).up hu, below_up (h.2.2.2.2) hu⟩) hSS (Or.inl ⟨by rfl, fun w' hSw => yu_value (run_ld undW infoW _ rfl _ rfl hSw.1)⟩) ?_
        try simp only [Act.put, pu1, pu2, pu3]
        refine wpAnyU_take (i := 1) (d := (some 11)) (v := _) rfl rfl (by kernel_rfl) (fun _ _ _ h => h) (fun _ _ h hu => ⟨(h.1).up hu, (h.2.1).up hu, (h.2.2.1).up hu, (h.2.2.2.1).up hu, below_up (h.2.2.2.2) hu⟩) hSS (Or.inl ⟨by rfl, fun w' hSw => yu_call ?_ (HA.out _)⟩) ?_
        · go_simp
        try simp only [Act.put, pu1, pu2, pu3]
        refine wpAnyU_take (i := 2) (d := (some 12)) (v := _) rfl rfl (by kernel_rfl) (fun _ _ _ h => h) (fun _ _ h hu => ⟨(h.1).up hu, (h.2.1).up hu, (h.2.2.1).up hu, (h.2.2.2.1).up hu, below_up (h.2.2.2.2) hu⟩) hSS (Or.inl ⟨by rfl, fun w' hSw => yu_value (run_ld undW infoW _ rfl _ rfl hSw.2.1)⟩) ?_
        try simp only [Act.put, pu1, pu2, pu3]
        refine wpAnyU_take (i := 3) (d := (some 13)) (v := _) rfl rfl (by kernel_rfl) (fun _ _ _ h => h) (fun _ _ h hu => ⟨(h.1).up hu, (h.2.1).up hu, (h.2.2.1).up hu, (h.2.2.2.1).up hu, below_up (h.2.2.2.2) hu⟩) hSS (Or.inl ⟨by rfl, fun w' hSw => yu_call ?_ (HB.out _)⟩) ?_
        · go_simp
        try simp only [Act.put, pu1, pu2, pu3]
        refine wpAnyU_pure (i := 4) (d := (some 14)) (v := ?_) rfl rfl (by kernel_rfl) (fun _ _ _ h => h) (fun _ _ h hu => ⟨(h.1).up hu, (h.2.1).up hu, (h.2.2.1).up hu, (h.2.2.2.1).up hu, below_up (h.2.2.2.2) hu⟩) (Or.inl ⟨by rfl, fun w' _ => yu_value ?_⟩) ?_
        rotate_left
        · (go_simp; (try exact rfl))
        try simp only [Act.put, pu1, pu2, pu3]
        refine wpAnyU_pure (i := 5) (d := (some 15)) (v := ?_) rfl rfl (by kernel_rfl) (fun _ _ _ h => h) (fun _ _ h hu => ⟨(h.1).up hu, (h.2.1).up hu, (h.2.2.1).up hu, (h.2.2.2.1).up hu, below_up (h.2.2.2.2) hu⟩) (Or.inl ⟨by rfl, fun w' _ => yu_value ?_⟩) ?_
        rotate_left
        · (go_simp; (try exact rfl))
        try simp only [Act.put, pu1, pu2, pu3]
        refine wpAnyU_take (i := 6) (d := (some 16)) (v := _) rfl rfl (by kernel_rfl) (fun _ _ _ h => h) (fun _ _ h hu => ⟨(h.1).up hu, (h.2.1).up hu, (h.2.2.1).up hu, (h.2.2.2.1).up hu, below_up (h.2.2.2.2) hu⟩) hSS (Or.inl ⟨by rfl, fun w' hSw => yu_value (run_ld undW infoW _ rfl _ rfl hSw.2.2.2.1)⟩) ?_
        try simp only [Act.put, pu1, pu2, pu3]
        refine wpAnyU_take (i := 7) (d := (some 17)) (v := _) rfl rfl (by kernel_rfl) (fun _ _ _ h => h) (fun _ _ h hu => ⟨(h.1).up hu, (h.2.1).up hu, (h.2.2.1).up hu, (h.2.2.2.1).up hu, below_up (h.2.2.2.2) hu⟩) hSS (Or.inl ⟨by rfl, fun w' hSw => yu_call ?_ (HM.out _)⟩) ?_
        · go_simp
        try simp only [Act.put, pu1, pu2, pu3]
        refine wpAnyU_take (i := 8) (d := (some 18)) (v := _) rfl rfl (by kernel_rfl) (fun _ _ _ h => h) (fun _ _ h hu => ⟨(h.1).up hu, (h.2.1).up hu, (h.2.2.1).up hu, (h.2.2.2.1).up hu, below_up (h.2.2.2.2) hu⟩) hSS (Or.inl ⟨by rfl, fun w' hSw => yu_value (run_ld undW infoW _ rfl _ rfl hSw.1)⟩) ?_
        try simp only [Act.put, pu1, pu2, pu3]
        refine wpAnyU_take (i := 9) (d := (some 19)) (v := _) rfl rfl (by kernel_rfl) (fun _ _ _ h => h) (fun _ _ h hu => ⟨(h.1).up hu, (h.2.1).up hu, (h.2.2.1).up hu, (h.2.2.2.1).up hu, below_up (h.2.2.2.2) hu⟩) hSS (Or.inl ⟨by rfl, fun w' hSw => yu_call ?_ (HA.out _)⟩) ?_
        · go_simp
        try simp only [Act.put, pu1, pu2, pu3]
        refine wpAnyU_pure (i := 10) (d := (some 20)) (v := ?_) rfl rfl (by kernel_rfl) (fun _ _ _ h => h) (fun _ _ h hu => ⟨(h.1).up hu, (h.2.1).up hu, (h.2.2.1).up hu, (h.2.2.2.1).up hu, below_up (h.2.2.2.2) hu⟩) (Or.inl ⟨by rfl, fun w' _ => yu_value ?_⟩) ?_
        rotate_left
        · (go_simp; (try exact rfl))
        try simp only [Act.put, pu1, pu2, pu3]
        refine wpAnyU_pure (i := 11) (d := (some 21)) (v := ?_) rfl rfl (by kernel_rfl) (fun _ _ _ h => h) (fun _ _ h hu => ⟨(h.1).up hu, (h.2.1).up hu, (h.2.2.1).up hu, (h.2.2.2.1).up hu, below_up (h.2.2.2.2) hu⟩) (Or.inl ⟨by rfl, fun w' _ => yu_value ?_⟩) ?_
        rotate_left
        · (go_simp; (try exact rfl))
        try simp only [Act.put, pu1, pu2, pu3]
        refine wpAnyU_done (by kernel_rfl) (fun wE huE => ?_) _
        have ⟨hS1, hS2, hS3, hS4, hSB⟩ := ((fun _ _ h hu => ⟨(h.1).up hu, (h.2.1).up hu, (h.2.2.1).up hu, (h.2.2.2.1).up hu, below_up (h.2.2.2.2) hu⟩) : ∀ w1 w2 : World, (fun wq => Row wq w.heap.size 54 16 (limb (enc a)) ∧ Row wq (w.heap.size + 1) 54 16 (limb (enc b)) ∧ Row wq (w.heap.size + 1 + 1) 54 16 (fun _ => 0) ∧ Row wq w'.heap.size 54 16 (limb (enc (a - b))) ∧ Below w.heap.size w wq) w1 → Up w1 w2 → (fun wq => Row wq w.heap.size 54 16 (limb (enc a)) ∧ Row wq (w.heap.size + 1) 54 16 (limb (enc b)) ∧ Row wq (w.heap.size + 1 + 1) 54 16 (fun _ => 0) ∧ Row wq w'.heap.size 54 16 (limb (enc (a - b))) ∧ Below w.heap.size w wq) w2) _ _ hSS huE
        clear huE hSS
        go_wp2_with (first | ((with_reducible apply ld_rowP undW infoW); exact rfl; exact rfl; focus (repeat (first | assumption | ((with_reducible apply row_newc); (focus (first | rfl | (simp; done)))) | ((with_reducible apply row_newz); (focus (first | rfl | (simp; done)))) | (with_reducible apply row_same) | ((with_reducible apply row_else); (focus (first | (simp; done) | (simp; omega) | omega))) | (with_reducible apply row_alloc) | (with_reducible apply row_drew) | (with_reducible apply row_drewN) | ((with_reducible apply row_up); assumption)))) | ((with_reducible apply st_rowP infoW); exact rfl; exact rfl; focus (repeat (first | assumption | ((with_reducible apply row_newc); (focus (first | rfl | (simp; done)))) | ((with_reducible apply row_newz); (focus (first | rfl | (simp; done)))) | (with_reducible apply row_same) | ((with_reducible apply row_else); (focus (first | (simp; done) | (simp; omega) | omega))) | (with_reducible apply row_alloc) | (with_reducible apply row_drew) | (with_reducible apply row_drewN) | ((with_reducible apply row_up); assumption)))) | ((with_reducible apply st_rowZ infoW); exact rfl; exact rfl; focus (repeat (first | assumption | ((with_reducible apply row_newc); (focus (first | rfl | (simp; done)))) | ((with_reducible apply row_newz); (focus (first | rfl | (simp; done)))) | (with_reducible apply row_same) | ((with_reducible apply row_else); (focus (first | (simp; done) | (simp; omega) | omega))) | (with_reducible apply row_alloc) | (with_reducible apply row_drew) | (with_reducible apply row_drewN) | ((with_reducible apply row_up); assumption)))))
        exact bodyPost_ret (res2 rfl undW infoW _ _ rfl (by (repeat (first | assumption | ((with_reducible apply row_newc); (focus (first | rfl | (simp; done)))) | ((with_reducible apply row_newz); (focus (first | rfl | (simp; done)))) | (with_reducible apply row_same) | ((with_reducible apply row_else); (focus (first | (simp; done) | (simp; omega) | omega))) | (with_reducible apply row_alloc) | (with_reducible apply row_drew) | (with_reducible apply row_drewN) | ((with_reducible apply row_up); assumption))))) rfl ⟨rfl, (by repeat (first | assumption | (with_reducible apply Up.of) | (with_reducible exact Below.refl _ _) | (with_reducible exact Up.refl _) | ((with_reducible apply bl_setRow); (focus (first | exact Nat.le_refl _ | (simp; done) | (simp; omega) | omega))) | (with_reducible apply below_drewN) | (with_reducible apply Below.drew) | ((with_reducible apply bl_alloc); (focus (first | exact Nat.le_refl _ | (simp; done) | (simp; omega) | omega))) | ((with_reducible apply bl_setCell); (focus (first | exact Nat.le_refl _ | (simp; done) | (simp; omega) | omega))) | ((with_reducible apply up_tr); assumption)))⟩
    · have hd2 : decide (b < 0) = false := by simpa using b0
      rw [hd2] at HB
      rw [opt_yes (hk2 (by simp [a0, b0]))]
      clear hk1 hk2 hd hd2 a0 b0
      unfold wideV at *
      go_enter Tryz.func110, Tryz.ntmps110
      go_wp2_with (first | ((with_reducible apply ld_rowP undW infoW); exact rfl; exact rfl; focus (repeat (first | assumption | ((with_reducible apply row_newc); (focus (first | rfl | (simp; done)))) | ((with_reducible apply row_newz); (focus (first | rfl | (simp; done)))) | (with_reducible apply row_same) | ((with_reducible apply row_else); (focus (first | (simp; done) | (simp; omega) | omega))) | (with_reducible apply row_alloc) | (with_reducible apply row_drew) | (with_reducible apply row_drewN) | ((with_reducible apply row_up); assumption)))) | ((with_reducible apply st_rowP infoW); exact rfl; exact rfl; focus (repeat (first | assumption | ((with_reducible apply row_newc); (focus (first | rfl | (simp; done)))) | ((with_reducible apply row_newz); (focus (first | rfl | (simp; done)))) | (with_reducible apply row_same) | ((with_reducible apply row_else); (focus (first | (simp; done) | (simp; omega) | omega))) | (with_reducible apply row_alloc) | (with_reducible apply row_drew) | (with_reducible apply row_drewN) | ((with_reducible apply row_up); assumption)))) | ((with_reducible apply st_rowZ infoW); exact rfl; exact rfl; focus (repeat (first | assumption | ((with_reducible apply row_newc); (focus (first | rfl | (simp; done)))) | ((with_reducible apply row_newz); (focus (first | rfl | (simp; done)))) | (with_reducible apply row_same) | ((with_reducible apply row_else); (focus (first | (simp; done) | (simp; omega) | omega))) | (with_reducible apply row_alloc) | (with_reducible apply row_drew) | (with_reducible apply row_drewN) | ((with_reducible apply row_up); assumption)))) | (go_at_call 117; refine (HP.out _).mono ?_; rintro e w' ⟨rfl, hu⟩; have hsz := hu.size; simp at hsz))
      refine wp_region_upS (S := (fun wq => Row wq w.heap.size 54 16 (limb (enc a)) ∧ Row wq (w.heap.size + 1) 54 16 (limb (enc b)) ∧ Row wq (w.heap.size + 1 + 1) 54 16 (fun _ => 0) ∧ Row wq w'.heap.size 54 16 (limb (enc (a - b))) ∧ Below w.heap.size w wq)) (req := (fun _ => true)) (by kernel_rfl) (fun _ _ h hu => ⟨(h.1).up hu, (h.2.1).up hu, (h.2.2.1).up hu, (h.2.2.2.1).up hu, below_up (h.2.2.2.2) hu⟩) ⟨(by (repeat (first | assumption | ((with_reducible apply row_newc); (focus (first | rfl | (simp; done)))) | ((with_reducible apply row_newz); (focus (first | rfl | (simp; done)))) | (with_reducible apply row_same) | ((with_reducible apply row_else); (focus (first | (simp; done) | (simp; omega) | omega))) | (with_reducible apply row_alloc) | (with_reducible apply row_drew) | (with_reducible apply row_drewN) | ((with_reducible apply row_up); assumption)))), (by (repeat (first | assumption | ((with_reducible apply row_newc); (focus (first | rfl | (simp; done)))) | ((with_reducible apply row_newz); (focus (first | rfl | (simp; done)))) | (with_reducible apply row_same) | ((with_reducible apply row_else); (focus (first | (simp; done) | (simp; omega) | omega))) | (with_reducible apply row_alloc) | (with_reducible apply row_drew) | (with_reducible apply row_drewN) | ((with_reducible apply row_up); assumption)))), (by (repeat (first | assumption | ((with_reducible apply row_newc); (focus (first | rfl | (simp; done)))) | ((with_reducible apply row_newz); (focus (first | rfl | (simp; done)))) | (with_reducible apply row_same) | ((with_reducible apply row_else); (focus (first | (simp; done) | (simp; omega) | omega))) | (with_reducible apply row_alloc) | (with_reducible apply row_drew) | (with_reducible apply row_drewN) | ((with_reducible apply row_up); assumption)))), (by (repeat (first | assumption | ((with_reducible apply row_newc); (focus (first | rfl | (simp; done)))) | ((with_reducible apply row_newz); (focus (first | rfl | (simp; done)))) | (with_reducible apply row_same) | ((with_reducible apply row_else); (focus (first | (simp; done) | (simp; omega) | omega))) | (with_reducible apply row_alloc) | (with_reducible apply row_drew) | (with_reducible apply row_drewN) | ((with_reducible apply row_up); assumption)))), (by repeat (first | assumption | (with_reducible apply Up.of) | (with_reducible exact Below.refl _ _) | (with_reducible exact Up.refl _) | ((with_reducible apply bl_setRow); (focus (first | exact Nat.le_refl _ | (simp; done) | (simp; omega) | omega))) | (with_reducible apply below_drewN) | (with_reducible apply Below.drew) | ((with_reducible apply bl_alloc); (focus (first | exact Nat.le_refl _ | (simp; done) | (simp; omega) | omega))) | ((with_reducible apply bl_setCell); (focus (first | exact Nat.le_refl _ | (simp; done) | (simp; omega) | omega))) | ((with_reducible apply up_tr); assumption)))⟩ (fun wS hSS => ?_)
      have ⟨hS1, hS2, hS3, hS4, hSB⟩ := hSS
      clear hu
      refine wpAnyU_take (i := 0) (d := (some 10)) (v := _) rfl rfl (by kernel_rfl) (fun _ _ _ h => h) (fun _ _ h hu => ⟨(h.1).up hu, (h.2.1).up hu, (h.2.2.1).up hu, (h.2.2.2.1).up hu, below_up (h.2.2.2.2) hu⟩) hSS (Or.inl ⟨by rfl, fun w' hSw => yu_value (run_ld undW infoW _ rfl _ rfl hSw.1)⟩) ?_
      try simp only [Act.put, pu1, pu2, pu3]
      refine wpAnyU_take (i := 1) (d := (some 11)) (v := _) rfl rfl (by kernel_rfl) (fun _ _ _ h => h) (fun _ _ h hu => ⟨(h.1).up hu, (h.2.1).up hu, (h.2.2.1).up hu, (h.2.2.2.1).up hu, below_up (h.2.2.2.2) hu⟩) hSS (Or.inl ⟨by rfl, fun w' hSw => yu_call ?_ (HA.out _)⟩) ?_
      · go_simp
      try simp only [Act.put, pu1, pu2, pu3]
      refine wpAnyU_take (i := 2) (d := (some 12)) (v := _) rfl rfl (by kernel_rfl) (fun _ _ _ h => h) (fun _ _ h hu => ⟨(h.1).up hu, (h.2.1).up hu, (h.2.2.1).up hu, (h.2.2.2.1).up hu, below_up (h.2.2.2.2) hu⟩) hSS (Or.inl ⟨by rfl, fun w' hSw => yu_value (run_ld undW infoW _ rfl _ rfl hSw.2.1)⟩) ?_
      try simp only [Act.put, pu1, pu2, pu3]
      refine wpAnyU_take (i := 3) (d := (some 13)) (v := _) rfl rfl (by kernel_rfl) (fun _ _ _ h => h) (fun _ _ h hu => ⟨(h.1).up hu, (h.2.1).up hu, (h.2.2.1).up hu, (h.2.2.2.1).up hu, below_up (h.2.2.2.2) hu⟩) hSS (Or.inl ⟨by rfl, fun w' hSw => yu_call ?_ (HB.out _)⟩) ?_
      · go_simp
      try simp only [Act.put, pu1, pu2, pu3]
      refine wpAnyU_pure (i := 4) (d := (some 14)) (v := ?_) rfl rfl (by kernel_rfl) (fun _ _ _ h => h) (fun _ _ h hu => ⟨(h.1).up hu, (h.2.1).up hu, (h.2.2.1).up hu, (h.2.2.2.1).up hu, below_up (h.2.2.2.2) hu⟩) (Or.inl ⟨by rfl, fun w' _ => yu_value ?_⟩) ?_
      rotate_left
      · (go_simp; (try exact rfl))
      try simp only [Act.put, pu1, pu2, pu3]
      refine wpAnyU_pure (i := 5) (d := (some 15)) (v := ?_) rfl rfl (by kernel_rfl) (fun _ _ _ h => h) (fun _ _ h hu => ⟨(h.1).up hu, (h.2.1).up hu, (h.2.2.1).up hu, (h.2.2.2.1).up hu, below_up (h.2.2.2.2) hu⟩) (Or.inl ⟨by rfl, fun w' _ => yu_value ?_⟩) ?_
      rotate_left
      · (go_simp; (try exact rfl))
      try simp only [Act.put, pu1, pu2, pu3]
      refine wpAnyU_pure (i := 6) (d := (some 16)) (v := undef) rfl rfl (by kernel_rfl) (fun _ _ _ h => h) (fun _ _ h hu => ⟨(h.1).up hu, (h.2.1).up hu, (h.2.2.1).up hu, (h.2.2.2.1).up hu, below_up (h.2.2.2.2) hu⟩) (Or.inr ⟨by rfl, rfl⟩) ?_
      try simp only [Act.put, pu1, pu2, pu3]
      refine wpAnyU_pure (i := 7) (d := (some 17)) (v := undef) rfl rfl (by kernel_rfl) (fun _ _ _ h => h) (fun _ _ h hu => ⟨(h.1).up hu, (h.2.1).up hu, (h.2.2.1).up hu, (h.2.2.2.1).up hu, below_up (h.2.2.2.2) hu⟩) (Or.inr ⟨by rfl, rfl⟩) ?_
      try simp only [Act.put, pu1, pu2, pu3]
      refine wpAnyU_pure (i := 8) (d := (some 18)) (v := undef) rfl rfl (by kernel_rfl) (fun _ _ _ h => h) (fun _ _ h hu => ⟨(h.1).up hu, (h.2.1).up hu, (h.2.2.1).up hu, (h.2.2.2.1).up hu, below_up (h.2.2.2.2) hu⟩) (Or.inr ⟨by rfl, rfl⟩) ?_
      try simp only [Act.put, pu1, pu2, pu3]
      refine wpAnyU_pure (i := 9) (d := (some 19)) (v := undef) rfl rfl (by kernel_rfl) (fun _ _ _ h => h) (fun _ _ h hu => ⟨(h.1).up hu, (h.2.1).up hu, (h.2.2.1).up hu, (h.2.2.2.1).up hu, below_up (h.2.2.2.2) hu⟩) (Or.inr ⟨by rfl, rfl⟩) ?_
      try simp only [Act.put, pu1, pu2, pu3]
      refine wpAnyU_pure (i := 10) (d := (some 20)) (v := undef) rfl rfl (by kernel_rfl) (fun _ _ _ h => h) (fun _ _ h hu => ⟨(h.1).up hu, (h.2.1).up hu, (h.2.2.1).up hu, (h.2.2.2.1).up hu, below_up (h.2.2.2.2) hu⟩) (Or.inr ⟨by rfl, rfl⟩) ?_
      try simp only [Act.put, pu1, pu2, pu3]
      refine wpAnyU_pure (i := 11) (d := (some 21)) (v := ?_) rfl rfl (by kernel_rfl) (fun _ _ _ h => h) (fun _ _ h hu => ⟨(h.1).up hu, (h.2.1).up hu, (h.2.2.1).up hu, (h.2.2.2.1).up hu, below_up (h.2.2.2.2) hu⟩) (Or.inl ⟨by rfl, fun w' _ => yu_value ?_⟩) ?_
      rotate_left
      · (go_simp; (try exact rfl))
      try simp only [Act.put, pu1, pu2, pu3]
      refine wpAnyU_done (by kernel_rfl) (fun wE huE => ?_) _
      have ⟨hS1, hS2, hS3, hS4, hSB⟩ := ((fun _ _ h hu => ⟨(h.1).up hu, (h.2.1).up hu, (h.2.2.1).up hu, (h.2.2.2.1).up hu, below_up (h.2.2.2.2) hu⟩) : ∀ w1 w2 : World, (fun wq => Row wq w.heap.size 54 16 (limb (enc a)) ∧ Row wq (w.heap.size + 1) 54 16 (limb (enc b)) ∧ Row wq (w.heap.size + 1 + 1) 54 16 (fun _ => 0) ∧ Row wq w'.heap.size 54 16 (limb (enc (a - b))) ∧ Below w.heap.size w wq) w1 → Up w1 w2 → (fun wq => Row wq w.heap.size 54 16 (limb (enc a)) ∧ Row wq (w.heap.size + 1) 54 16 (limb (enc b)) ∧ Row wq (w.heap.size + 1 + 1) 54 16 (fun _ => 0) ∧ Row wq w'.heap.size 54 16 (limb (enc (a - b))) ∧ Below w.heap.size w wq) w2) _ _ hSS huE
      clear huE hSS
      go_wp2_with (first | ((with_reducible apply ld_rowP undW infoW); exact rfl; exact rfl; focus (repeat (first | assumption | ((with_reducible apply row_newc); (focus (first | rfl | (simp; done)))) | ((with_reducible apply row_newz); (focus (first | rfl | (simp; done)))) | (with_reducible apply row_same) | ((with_reducible apply row_else); (focus (first | (simp; done) | (simp; omega) | omega))) | (with_reducible apply row_alloc) | (with_reducible apply row_drew) | (with_reducible apply row_drewN) | ((with_reducible apply row_up); assumption)))) | ((with_reducible apply st_rowP infoW); exact rfl; exact rfl; focus (repeat (first | assumption | ((with_reducible apply row_newc); (focus (first | rfl | (simp; done)))) | ((with_reducible apply row_newz); (focus (first | rfl | (simp; done)))) | (with_reducible apply row_same) | ((with_reducible apply row_else); (focus (first | (simp; done) | (simp; omega) | omega))) | (with_reducible apply row_alloc) | (with_reducible apply row_drew) | (with_reducible apply row_drewN) | ((with_reducible apply row_up); assumption)))) | ((with_reducible apply st_rowZ infoW); exact rfl; exact rfl; focus (repeat (first | assumption | ((with_reducible apply row_newc); (focus (first | rfl | (simp; done)))) | ((with_reducible apply row_newz); (focus (first | rfl | (simp; done)))) | (with_reducible apply row_same) | ((with_reducible apply row_else); (focus (first | (simp; done) | (simp; omega) | omega))) | (with_reducible apply row_alloc) | (with_reducible apply row_drew) | (with_reducible apply row_drewN) | ((with_reducible apply row_up); assumption)))))
      exact bodyPost_ret (res2 rfl undW infoW _ _ rfl (by (repeat (first | assumption | ((with_reducible apply row_newc); (focus (first | rfl | (simp; done)))) | ((with_reducible apply row_newz); (focus (first | rfl | (simp; done)))) | (with_reducible apply row_same) | ((with_reducible apply row_else); (focus (first | (simp; done) | (simp; omega) | omega))) | (with_reducible apply row_alloc) | (with_reducible apply row_drew) | (with_reducible apply row_drewN) | ((with_reducible apply row_up); assumption))))) rfl ⟨rfl, (by repeat (first | assumption | (with_reducible apply Up.of) | (with_reducible exact Below.refl _ _) | (with_reducible exact Up.refl _) | ((with_reducible apply bl_setRow); (focus (first | exact Nat.le_refl _ | (simp; done) | (simp; omega) | omega))) | (with_reducible apply below_drewN) | (with_reducible apply Below.drew) | ((with_reducible apply bl_alloc); (focus (first | exact Nat.le_refl _ | (simp; done) | (simp; omega) | omega))) | ((with_reducible apply bl_setCell); (focus (first | exact Nat.le_refl _ | (simp; done) | (simp; omega) | omega))) | ((with_reducible apply up_tr); assumption)))⟩
theorem step_arith {x y a b h l r1 c1 r2 c2 : Nat} (hx : x < 18446744073709551616) (hy : y < 18446744073709551616) (ha : a < 18446744073709551616) (hb' : b < 18446744073709551616)
    (eh : h = x * y / 18446744073709551616) (el : l = x * y % 18446744073709551616) (e1 : r1 = (l + a + 0) % 18446744073709551616) (f1 : c1 = (l + a + 0) / 18446744073709551616)
    (e2 : r2 = (r1 + b + 0) % 18446744073709551616) (f2 : c2 = (r1 + b + 0) / 18446744073709551616) :
    h + c1 + c2 < 18446744073709551616 ∧ r2 = (x * y + a + b) % 18446744073709551616 ∧ h + c1 + c2 = (x * y + a + b) / 18446744073709551616 := by
  have h1 : x * y ≤ 18446744073709551615 * 18446744073709551615 := Nat.mul_le_mul (by omega) (by omega)
  generalize x * y = p at *
  omega
set_option maxHeartbeats 400000 in
theorem step_any (x y a b : Nat) (hx : x < 18446744073709551616) (hy : y < 18446744073709551616) (ha : a < 18446744073709551616) (hb' : b < 18446744073709551616) (w : World) :
    Calls Tryz.prog 115 #[.int .u64 x, .int .u64 y, .int .u64 a, .int .u64 b] w
      fun e w' => e = .returned (.tuple #[.int .u64 ((x * y + a + b) % 18446744073709551616 : Nat), .int .u64 ((x * y + a + b) / 18446744073709551616 : Nat)]) ∧ w' = w := by
  obtain ⟨h, l, HM, eh, el⟩ : ∃ h l : Nat, Hid (∀ w, Calls Tryz.prog 96 #[.int .u64 x, .int .u64 y] w fun e w' => e = .returned (.tuple #[.int .u64 (h : Nat), .int .u64 (l : Nat)]) ∧ w' = w) ∧
      h = x * y / 18446744073709551616 ∧ l = x * y % 18446744073709551616 := ⟨_, _, hid (Tryz.bits_Mul64 x y hx hy), rfl, rfl⟩
  obtain ⟨r1, c1, HA, e1, f1⟩ : ∃ r c : Nat, (∀ w, (callFunc 93 #[.int .u64 (l : Nat), .int .u64 (a : Nat), .int .u64 0]).run Tryz.prog w = .ok (.value (.tuple #[.int .u64 (r : Nat), .int .u64 (c : Nat)])) w) ∧
      r = (l + a + 0) % 18446744073709551616 ∧ c = (l + a + 0) / 18446744073709551616 := ⟨_, _, run_add l a 0 (by omega), rfl, rfl⟩
  obtain ⟨r2, c2, HA2, e2, f2⟩ : ∃ r c : Nat, (∀ w, (callFunc 93 #[.int .u64 (r1 : Nat), .int .u64 (b : Nat), .int .u64 0]).run Tryz.prog w = .ok (.value (.tuple #[.int .u64 (r : Nat), .int .u64 (c : Nat)])) w) ∧
      r = (r1 + b + 0) % 18446744073709551616 ∧ c = (r1 + b + 0) / 18446744073709551616 := ⟨_, _, run_add r1 b 0 (by omega), rfl, rfl⟩
  obtain ⟨g1, g2, g3⟩ := step_arith hx hy ha hb' eh el e1 f1 e2 f2
  rw [← g2, ← g3]
  clear g2 g3 eh el e1 f1 e2 f2
  go_enter Tryz.func115, Tryz.ntmps115
  go_wp2_with (go_at_call 96; refine (HM.out _).mono ?_; rintro e w' ⟨rfl, rfl⟩)
  go_ret2
  exact ⟨rfl, rfl⟩
theorem i64V_yes {z : Int} (h : -9223372036854775808 ≤ z ∧ z < 9223372036854775808) : i64V z = .tuple #[.int .i64 z, .bool true] := by
  unfold i64V
  rw [if_pos h, decide_eq_true h]
theorem i64V_no {z : Int} (h : ¬ (-9223372036854775808 ≤ z ∧ z < 9223372036854775808)) : i64V z = .tuple #[.int .i64 0, .bool false] := by
  unfold i64V
  rw [if_neg h, decide_eq_false h]
theorem fx_size (v : Int) (h1 : -9223372036854775808 ≤ v) (h2 : v < 9223372036854775808) (w : World) :
    Calls Tryz.prog 102 #[.int .i64 v] w fun e w' => e = .returned (.int .u64 ((v.natAbs : Nat) : Int)) ∧ Up w w' := by
  by_cases h : v < 0
  · have hd : decide (v < 0) = true := decide_eq_true h
    have e : IntKind.u64.wrap (-IntKind.u64.wrap v) = ((v.natAbs : Nat) : Int) := by
      rw [IntKind.wrap_u64, IntKind.wrap_u64]; omega
    go_enter Tryz.func102, Tryz.ntmps102
    go_wp2
    go_ret
    exact ⟨rfl, (by repeat (first | assumption | (with_reducible apply Up.of) | (with_reducible exact Below.refl _ _) | (with_reducible exact Up.refl _) | ((with_reducible apply bl_setRow); (focus (first | exact Nat.le_refl _ | (simp; done) | (simp; omega) | omega))) | (with_reducible apply below_drewN) | (with_reducible apply Below.drew) | ((with_reducible apply bl_alloc); (focus (first | exact Nat.le_refl _ | (simp; done) | (simp; omega) | omega))) | ((with_reducible apply bl_setCell); (focus (first | exact Nat.le_refl _ | (simp; done) | (simp; omega) | omega))) | ((with_reducible apply up_tr); assumption)))⟩
  · have hd : decide (v < 0) = false := decide_eq_false h
    have e : IntKind.u64.wrap v = ((v.natAbs : Nat) : Int) := by
      rw [IntKind.wrap_u64]; omega
    go_enter Tryz.func102, Tryz.ntmps102
    go_wp2
    go_ret
    exact ⟨rfl, (by repeat (first | assumption | (with_reducible apply Up.of) | (with_reducible exact Below.refl _ _) | (with_reducible exact Up.refl _) | ((with_reducible apply bl_setRow); (focus (first | exact Nat.le_refl _ | (simp; done) | (simp; omega) | omega))) | (with_reducible apply below_drewN) | (with_reducible apply Below.drew) | ((with_reducible apply bl_alloc); (focus (first | exact Nat.le_refl _ | (simp; done) | (simp; omega) | omega))) | ((with_reducible apply bl_setCell); (focus (first | exact Nat.le_refl _ | (simp; done) | (simp; omega) | omega))) | ((with_reducible apply up_tr); assumption)))⟩
theorem fx_signed (n : Nat) (hn : n < 18446744073709551616) (neg : Bool) (w : World) :
    Calls Tryz.prog 101 #[.int .u64 n, .bool neg] w fun e w' => e = .returned (i64V (pm neg n)) ∧ Up w w' := by
  cases neg with
  | false =>
    by_cases h : n < 9223372036854775808
    · rw [show i64V (pm false n) = .tuple #[.int .i64 n, .bool true] from i64V_yes (by simp only [pm, Bool.false_eq_true, if_false]; omega)]
      have hc : IntKind.i64.wrap (n : Int) = n := IntWalk.i64_in _ (by omega)
      have hd : decide ((n : Int) < 0) = false := decide_eq_false (by omega)
      go_enter Tryz.func101, Tryz.ntmps101
      go_wp2
      go_ret2
      exact ⟨rfl, (by repeat (first | assumption | (with_reducible apply Up.of) | (with_reducible exact Below.refl _ _) | (with_reducible exact Up.refl _) | ((with_reducible apply bl_setRow); (focus (first | exact Nat.le_refl _ | (simp; done) | (simp; omega) | omega))) | (with_reducible apply below_drewN) | (with_reducible apply Below.drew) | ((with_reducible apply bl_alloc); (focus (first | exact Nat.le_refl _ | (simp; done) | (simp; omega) | omega))) | ((with_reducible apply bl_setCell); (focus (first | exact Nat.le_refl _ | (simp; done) | (simp; omega) | omega))) | ((with_reducible apply up_tr); assumption)))⟩
    · rw [show i64V (pm false n) = .tuple #[.int .i64 0, .bool false] from i64V_no (by simp only [pm, Bool.false_eq_true, if_false]; omega)]
      obtain ⟨u, hu⟩ : ∃ u : Int, u = (n : Int) - 18446744073709551616 := ⟨_, rfl⟩
      have hc : IntKind.i64.wrap (n : Int) = u := by rw [IntKind.wrap_i64]; omega
      have hd : decide (u < 0) = true := decide_eq_true (by omega)
      have h0 : ((n : Int) != 0) = true := by simp; omega
      clear hu h hn
      go_enter Tryz.func101, Tryz.ntmps101
      go_wp2
      go_ret2
      exact ⟨rfl, (by repeat (first | assumption | (with_reducible apply Up.of) | (with_reducible exact Below.refl _ _) | (with_reducible exact Up.refl _) | ((with_reducible apply bl_setRow); (focus (first | exact Nat.le_refl _ | (simp; done) | (simp; omega) | omega))) | (with_reducible apply below_drewN) | (with_reducible apply Below.drew) | ((with_reducible apply bl_alloc); (focus (first | exact Nat.le_refl _ | (simp; done) | (simp; omega) | omega))) | ((with_reducible apply bl_setCell); (focus (first | exact Nat.le_refl _ | (simp; done) | (simp; omega) | omega))) | ((with_reducible apply up_tr); assumption)))⟩
  | true =>
    by_cases h : n ≤ 9223372036854775808
    · rw [show i64V (pm true n) = .tuple #[.int .i64 (-(n : Int)), .bool true] from i64V_yes (by simp only [pm, if_true]; omega)]
      obtain ⟨u, hu⟩ : ∃ u : Int, u = if (n : Int) < 9223372036854775808 then (n : Int) else -9223372036854775808 := ⟨_, rfl⟩
      have hc : IntKind.i64.wrap (n : Int) = u := by rw [IntKind.wrap_i64]; split at hu <;> omega
      obtain ⟨v, hv⟩ : ∃ v : Int, v = -(n : Int) := ⟨_, rfl⟩
      have hc2 : IntKind.i64.wrap (-u) = v := by rw [IntKind.wrap_i64]; split at hu <;> omega
      by_cases h0 : n = 0
      · have h00 : ((n : Int) != 0) = false := by simp; omega
        have hd : decide (v < 0) = false := decide_eq_false (by omega)
        rw [← hv]
        clear hu hv h hn h0
        go_enter Tryz.func101, Tryz.ntmps101
        go_wp2
        go_ret2
        exact ⟨rfl, (by repeat (first | assumption | (with_reducible apply Up.of) | (with_reducible exact Below.refl _ _) | (with_reducible exact Up.refl _) | ((with_reducible apply bl_setRow); (focus (first | exact Nat.le_refl _ | (simp; done) | (simp; omega) | omega))) | (with_reducible apply below_drewN) | (with_reducible apply Below.drew) | ((with_reducible apply bl_alloc); (focus (first | exact Nat.le_refl _ | (simp; done) | (simp; omega) | omega))) | ((with_reducible apply bl_setCell); (focus (first | exact Nat.le_refl _ | (simp; done) | (simp; omega) | omega))) | ((with_reducible apply up_tr); assumption)))⟩
      · have hd : decide (v < 0) = true := decide_eq_true (by omega)
        rw [← hv]
        clear hu hv h hn h0
        go_enter Tryz.func101, Tryz.ntmps101
        go_wp2
        go_ret2
        exact ⟨rfl, (by repeat (first | assumption | (with_reducible apply Up.of) | (with_reducible exact Below.refl _ _) | (with_reducible exact Up.refl _) | ((with_reducible apply bl_setRow); (focus (first | exact Nat.le_refl _ | (simp; done) | (simp; omega) | omega))) | (with_reducible apply below_drewN) | (with_reducible apply Below.drew) | ((with_reducible apply bl_alloc); (focus (first | exact Nat.le_refl _ | (simp; done) | (simp; omega) | omega))) | ((with_reducible apply bl_setCell); (focus (first | exact Nat.le_refl _ | (simp; done) | (simp; omega) | omega))) | ((with_reducible apply up_tr); assumption)))⟩
    · rw [show i64V (pm true n) = .tuple #[.int .i64 0, .bool false] from i64V_no (by simp only [pm, if_true]; omega)]
      obtain ⟨u, hu⟩ : ∃ u : Int, u = (n : Int) - 18446744073709551616 := ⟨_, rfl⟩
      have hc : IntKind.i64.wrap (n : Int) = u := by rw [IntKind.wrap_i64]; omega
      obtain ⟨v, hv⟩ : ∃ v : Int, v = -u := ⟨_, rfl⟩
      have hc2 : IntKind.i64.wrap (-u) = v := by rw [IntKind.wrap_i64]; omega
      have hd : decide (v < 0) = false := decide_eq_false (by omega)
      have h0 : ((n : Int) != 0) = true := by simp; omega
      clear hu hv h hn
      go_enter Tryz.func101, Tryz.ntmps101
      go_wp2
      go_ret2
      exact ⟨rfl, (by repeat (first | assumption | (with_reducible apply Up.of) | (with_reducible exact Below.refl _ _) | (with_reducible exact Up.refl _) | ((with_reducible apply bl_setRow); (focus (first | exact Nat.le_refl _ | (simp; done) | (simp; omega) | omega))) | (with_reducible apply below_drewN) | (with_reducible apply Below.drew) | ((with_reducible apply bl_alloc); (focus (first | exact Nat.le_refl _ | (simp; done) | (simp; omega) | omega))) | ((with_reducible apply bl_setCell); (focus (first | exact Nat.le_refl _ | (simp; done) | (simp; omega) | omega))) | ((with_reducible apply up_tr); assumption)))⟩
theorem fx_amount (v : Int) (h1 : -9223372036854775808 ≤ v) (h2 : v < 9223372036854775808) (w : World) :
    Calls Tryz.prog 78 #[.int .i64 v] w fun e w' => e = .returned (i64V (v.natAbs : Nat)) ∧ Up w w' := by
  have HS := hid (fun w => fx_size v h1 h2 w)
  have HG := hid (fun w => fx_signed v.natAbs (by omega) false w)
  rw [show pm false v.natAbs = ((v.natAbs : Nat) : Int) from rfl] at HG
  generalize v.natAbs = n at *
  obtain ⟨x, ok, hx⟩ : ∃ x ok, i64V (n : Int) = .tuple #[.int .i64 x, .bool ok] := ⟨_, _, rfl⟩
  rw [hx] at HG ⊢
  clear hx
  go_enter Tryz.func78, Tryz.ntmps78
  go_wp2_with (first | (go_at_call 102; refine (HS.out _).mono ?_; rintro e w' ⟨rfl, hu⟩) | (go_at_call 101; refine (HG.out _).mono ?_; rintro e w' ⟨rfl, hu⟩))
  go_ret2
  exact ⟨rfl, (by repeat (first | assumption | (with_reducible apply Up.of) | (with_reducible exact Below.refl _ _) | (with_reducible exact Up.refl _) | ((with_reducible apply bl_setRow); (focus (first | exact Nat.le_refl _ | (simp; done) | (simp; omega) | omega))) | (with_reducible apply below_drewN) | (with_reducible apply Below.drew) | ((with_reducible apply bl_alloc); (focus (first | exact Nat.le_refl _ | (simp; done) | (simp; omega) | omega))) | ((with_reducible apply bl_setCell); (focus (first | exact Nat.le_refl _ | (simp; done) | (simp; omega) | omega))) | ((with_reducible apply up_tr); assumption)))⟩
inductive Er where
  | num (n : Int)
  | nilf (op : ByteArray)
  | flt (op : ByteArray) (e : Er)
def IsEr (w : World) : Value → Er → Prop
  | v, .num n => v = .iface 80 (.int .i64 n)
  | v, .nilf op => ∃ b, v = .iface 122 (.pointer (some ⟨b, 0, none⟩)) ∧ Blk w b 125 #[.string op, .nilIface]
  | v, .flt op e => ∃ b u, v = .iface 122 (.pointer (some ⟨b, 0, none⟩)) ∧ Blk w b 125 #[.string op, u] ∧ IsEr w u e
theorem IsEr.up {w w' : World} (hu : Up w w') {v : Value} {e : Er} (h : IsEr w v e) : IsEr w' v e := by
  induction e generalizing v with
  | num n => exact h
  | nilf op => obtain ⟨b, h1, h2⟩ := h; exact ⟨b, h1, h2.up hu⟩
  | flt op e ih => obtain ⟨b, u, h1, h2, h3⟩ := h; exact ⟨b, u, h1, h2.up hu, ih h3⟩
theorem IsEr.iface {w : World} {v : Value} {e : Er} (h : IsEr w v e) : ∃ t u, v = .iface t u := by
  cases e with
  | num n => exact ⟨_, _, h⟩
  | nilf op => obtain ⟨b, h1, _⟩ := h; exact ⟨_, _, h1⟩
  | flt op e => obtain ⟨b, u, h1, _⟩ := h; exact ⟨_, _, h1⟩
def Er.has (n : Int) : Er → Bool
  | .num m => m == n
  | .nilf _ => false
  | .flt _ e => e.has n
def Er.first : Er → Option Int
  | .num m => some m
  | .nilf _ => none
  | .flt _ e => e.first
def Er.ops : Er → List ByteArray
  | .num _ => []
  | .nilf op => [op]
  | .flt op e => op :: e.ops
theorem wrap_any {op : ByteArray} {v : Value} {e : Er} {w : World} (h : IsEr w v e) :
    Calls Tryz.prog 75 #[.string op, v] w fun r w' => ∃ u, r = .returned u ∧ Up w w' ∧ IsEr w' u (.flt op e) := by
  obtain ⟨t, u, rfl⟩ := h.iface
  have H := hid h
  clear h
  go_enter Tryz.func75, Tryz.ntmps75
  go_wp2
  go_ret
  exact ⟨_, rfl, Up.alloc _ _, _, _, rfl, Blk.new _ _ rfl, H.out.up (Up.alloc _ _)⟩
end Go.Proofs.YtdcpoamjmoceiaaGreatDoor
namespace Go.Proofs.YtdcpoamjmoceiaaGreatDoor
open Go Go.RowKit Go.Extern.Stop Go.Stop Go.Extern
set_option maxRecDepth 100000
theorem noUnN (v : Value) (xT : TypeId) (w : World) : (Instr.typeAssert (.iface 80 v) xT 179 true).run Tryz.prog w = .ok (.tuple #[.nilIface, .bool false]) w := run_typeAssert_lacksB Tryz.underlying179 (by kernel_rfl) (by kernel_rfl) v xT w
theorem noUsN (v : Value) (xT : TypeId) (w : World) : (Instr.typeAssert (.iface 80 v) xT 165 true).run Tryz.prog w = .ok (.tuple #[.nilIface, .bool false]) w := run_typeAssert_lacksB Tryz.underlying165 (by kernel_rfl) (by kernel_rfl) v xT w
theorem hasUnF (v : Value) (xT : TypeId) (w : World) : (Instr.typeAssert (.iface 122 v) xT 179 true).run Tryz.prog w = .ok (.tuple #[.iface 122 v, .bool true]) w := run_typeAssert_hasB Tryz.underlying179 (by kernel_rfl) v xT w
theorem unwrap_flt {b : Nat} {op : ByteArray} {u : Value} {w : World} (h : Blk w b 125 #[.string op, u]) :
    Calls Tryz.prog 152 #[.pointer (some ⟨b, 0, none⟩)] w fun r w' => r = .returned u ∧ w' = w := by
  have hc := h.cell 1 rfl
  go_enter Tryz.func152, Tryz.ntmps152
  go_wp2
  go_ret
  exact ⟨rfl, rfl⟩
theorem mUnF (v : Value) (w : World) : (Go.method 322 122 v "Unwrap").run Tryz.prog w = .ok (152, v) w := by kernel_rfl
def Er.size : Er → Nat
  | .num _ => 1
  | .nilf _ => 1
  | .flt _ e => e.size + 1
end Go.Proofs.YtdcpoamjmoceiaaGreatDoor
