import Derived.Test.YtjoenldfjggciaaGreatDoorPa
import Derived.Test.YtjoenldfjggciaaGreatDoorProg
import Derived.WalkKit
import Derived.LaidEql
import Derived.WideLaws
import Derived.Stop.Asserts
import Derived.Defers
import Derived.Recover
import Derived.Deep.LoopGhost
import Derived.RowKitTokens
namespace Go.Proofs.YtjoenldfjggciaaGreatDoor
open Go Go.RowKit
set_option maxRecDepth 100000
theorem of_sum (v : Int) (h1 : -9223372036854775808 ≤ v) (h2 : v < 9223372036854775808) :
    sumL (upd (fun _ => if v < 0 then 18446744073709551615 else 0) 0 (v % 18446744073709551616).toNat) 16 = enc v := by
  have hs : ∀ (A V n : Nat), 1 ≤ n → sumL (upd (fun _ => A) 0 V) n * 18446744073709551615 = V * 18446744073709551615 + A * (bp n - 18446744073709551616) := by
    intro A V n hn
    obtain ⟨k, rfl⟩ : ∃ k, n = k + 1 := ⟨n - 1, by omega⟩
    clear hn
    induction k with
    | zero => rw [sumL_succ, sumL_zero, bp_zero, upd_same, bp_succ, bp_zero]; simp
    | succ k ih =>
      have h : 18446744073709551616 ≤ bp (k + 1) := by rw [bp_succ]; have := bp_pos k; omega
      have e : bp (k + 1 + 1) - 18446744073709551616 = (bp (k + 1) - 18446744073709551616) + bp (k + 1) * 18446744073709551615 := by rw [bp_succ (k + 1)]; omega
      rw [sumL_succ, Nat.add_mul, ih, upd_other _ _ _ (by omega), e, Nat.mul_add, Nat.mul_assoc, Nat.add_assoc]
  have h3 := bp16
  have hb6 : 18446744073709551616 ≤ bp 16 := by rw [bp_succ]; have := bp_pos 15; omega
  have hbb : 9223372036854775808 ≤ hb := by omega
  by_cases h0 : v < 0
  · have e := enc_neg (z := v) (InR.mk' (by omega)) h0
    rw [if_pos h0, e.1]
    have e2 : (v % 18446744073709551616).toNat = 18446744073709551616 - v.natAbs := by omega
    rw [e2]
    have h : sumL (upd (fun _ => 18446744073709551615) 0 (18446744073709551616 - v.natAbs)) 16 * 18446744073709551615 = (18446744073709551616 - v.natAbs) * 18446744073709551615 + 18446744073709551615 * (bp 16 - 18446744073709551616) := hs _ _ 16 (by decide)
    generalize sumL _ 16 = S at *
    omega
  · have e := enc_nn (z := v) (InR.mk' (by omega)) (by omega)
    rw [if_neg h0, e.1]
    have h : sumL (upd (fun _ => 0) 0 (v % 18446744073709551616).toNat) 16 * 18446744073709551615 = (v % 18446744073709551616).toNat * 18446744073709551615 + 0 * (bp 16 - 18446744073709551616) := hs _ _ 16 (by decide)
    generalize sumL _ 16 = S at *
    omega
set_option maxHeartbeats 400000 in
theorem of_any (v : Int) (h1 : -9223372036854775808 ≤ v) (h2 : v < 9223372036854775808) (w : World) :
    Calls Tryz.prog 54 #[.int .i64 v] w fun e w' => e = .returned (wideV (enc v)) ∧ Up w w' := by
  have hsum := of_sum v h1 h2
  obtain ⟨A, eA, hA, HA⟩ : ∃ A : Nat, IntKind.u64.wrap (v / 9223372036854775808) = (A : Int) ∧ A < 18446744073709551616 ∧ A = if v < 0 then 18446744073709551615 else 0 := by
    refine ⟨_, ?_, ?_, rfl⟩
    · rw [IntKind.wrap_u64]; split <;> omega
    · split <;> omega
  obtain ⟨V, eV, hV, HV⟩ : ∃ V : Nat, IntKind.u64.wrap v = (V : Int) ∧ V < 18446744073709551616 ∧ V = (v % 18446744073709551616).toNat := by
    refine ⟨_, ?_, ?_, rfl⟩
    · rw [IntKind.wrap_u64]; omega
    · omega
  rw [← HA, ← HV] at hsum
  have HS := hid hsum
  clear hsum HA HV
  generalize enc v = E at *
  go_enter Tryz.func54, Tryz.ntmps54
  go_wp2
  go_loopw [9] (fun i wr => ∃ k : Nat, k ≤ 16 ∧ i = .int .i64 k ∧ Row wr w.heap.size 33 16 (fun _ => 0) ∧ Row wr (w.heap.size + 1) 33 16 (fun i => if i < k then A else 0) ∧ Below w.heap.size w wr)
    (fun i _ => 16 - (intOf i).toNat)
  case atStart => exact ⟨0, by omega, rfl, (by (repeat (first | assumption | ((with_reducible apply row_newc); (focus (first | rfl | (simp; done)))) | ((with_reducible apply row_newz); (focus (first | rfl | (simp; done)))) | (with_reducible apply row_same) | ((with_reducible apply row_else); (focus (first | (simp; done) | (simp; omega) | omega))) | (with_reducible apply row_alloc) | (with_reducible apply row_drew) | (with_reducible apply row_drewN) | ((with_reducible apply row_up); assumption)))), Row.congr (f := fun _ => 0) (by (repeat (first | assumption | ((with_reducible apply row_newc); (focus (first | rfl | (simp; done)))) | ((with_reducible apply row_newz); (focus (first | rfl | (simp; done)))) | (with_reducible apply row_same) | ((with_reducible apply row_else); (focus (first | (simp; done) | (simp; omega) | omega))) | (with_reducible apply row_alloc) | (with_reducible apply row_drew) | (with_reducible apply row_drewN) | ((with_reducible apply row_up); assumption)))) (by simp), (by repeat (first | assumption | (with_reducible apply Up.of) | (with_reducible exact Below.refl _ _) | (with_reducible exact Up.refl _) | ((with_reducible apply bl_setRow); (focus (first | exact Nat.le_refl _ | (simp; done) | (simp; omega) | omega))) | (with_reducible apply below_drewN) | (with_reducible apply Below.drew) | ((with_reducible apply bl_alloc); (focus (first | exact Nat.le_refl _ | (simp; done) | (simp; omega) | omega))) | ((with_reducible apply bl_setCell); (focus (first | exact Nat.le_refl _ | (simp; done) | (simp; omega) | omega))) | ((with_reducible apply up_tr); assumption)))⟩
  case round =>
    obtain ⟨k, hk, rfl, hR, hX, hB⟩ := hrel
    by_cases hlt : k < 16
    · have hc := hX.cell k hlt
      have hf := hX.frozen k
      have hX2 := hX.set k A
      have hR2 := hR.other ⟨w.heap.size + 1, k, none⟩ (.int .u64 (A : Nat)) (by simp)
      have hB2 := hB.setCell (p := ⟨w.heap.size + 1, k, none⟩) (by simp) (.int .u64 (A : Nat))
      go_wp2
      go_roundw
      case rel =>
        refine ⟨k + 1, by omega, by go_num, hR2, Row.congr hX2 fun i hi => ?_, hB2⟩
        unfold upd
        split
        · exact (if_pos (by omega)).symm
        · show (if i < k then A else 0) = if i < k + 1 then A else 0
          split
          · rw [if_pos (by omega)]
          · rw [if_neg (by omega)]
      case measure => simp [intOf] <;> omega
    · obtain rfl : k = 16 := by omega
      have hc := hX.cell 0 (by omega)
      have hf := hX.frozen 0
      have hX2 : Row (wr.setCell ⟨w.heap.size + 1, 0, none⟩ (.int .u64 (V : Nat))) (w.heap.size + 1) 33 16 (upd (fun _ => A) 0 V) := Row.congr (hX.set 0 V) fun i hi => by
        unfold upd
        split
        · rfl
        · exact if_pos hi
      have hR2 := hR.other ⟨w.heap.size + 1, 0, none⟩ (.int .u64 (V : Nat)) (by simp)
      have hB2 := hB.setCell (p := ⟨w.heap.size + 1, 0, none⟩) (by simp) (.int .u64 (V : Nat))
      go_wp2_with (first | ((with_reducible apply ld_rowP undW infoW); exact rfl; exact rfl; focus (repeat (first | assumption | ((with_reducible apply row_newc); (focus (first | rfl | (simp; done)))) | ((with_reducible apply row_newz); (focus (first | rfl | (simp; done)))) | (with_reducible apply row_same) | ((with_reducible apply row_else); (focus (first | (simp; done) | (simp; omega) | omega))) | (with_reducible apply row_alloc) | (with_reducible apply row_drew) | (with_reducible apply row_drewN) | ((with_reducible apply row_up); assumption)))) | ((with_reducible apply st_rowP infoW); exact rfl; exact rfl; focus (repeat (first | assumption | ((with_reducible apply row_newc); (focus (first | rfl | (simp; done)))) | ((with_reducible apply row_newz); (focus (first | rfl | (simp; done)))) | (with_reducible apply row_same) | ((with_reducible apply row_else); (focus (first | (simp; done) | (simp; omega) | omega))) | (with_reducible apply row_alloc) | (with_reducible apply row_drew) | (with_reducible apply row_drewN) | ((with_reducible apply row_up); assumption)))) | ((with_reducible apply st_rowZ infoW); exact rfl; exact rfl; focus (repeat (first | assumption | ((with_reducible apply row_newc); (focus (first | rfl | (simp; done)))) | ((with_reducible apply row_newz); (focus (first | rfl | (simp; done)))) | (with_reducible apply row_same) | ((with_reducible apply row_else); (focus (first | (simp; done) | (simp; omega) | omega))) | (with_reducible apply row_alloc) | (with_reducible apply row_drew) | (with_reducible apply row_drewN) | ((with_reducible apply row_up); assumption)))))
      exact bodyPost_ret (res1 rfl undW infoW _ _ rfl (by (repeat (first | assumption | ((with_reducible apply row_newc); (focus (first | rfl | (simp; done)))) | ((with_reducible apply row_newz); (focus (first | rfl | (simp; done)))) | (with_reducible apply row_same) | ((with_reducible apply row_else); (focus (first | (simp; done) | (simp; omega) | omega))) | (with_reducible apply row_alloc) | (with_reducible apply row_drew) | (with_reducible apply row_drewN) | ((with_reducible apply row_up); assumption))))) rfl ⟨by
        rw [wide_of (upd_lt (fun _ _ => hA) hV), HS.out], (by repeat (first | assumption | (with_reducible apply Up.of) | (with_reducible exact Below.refl _ _) | (with_reducible exact Up.refl _) | ((with_reducible apply bl_setRow); (focus (first | exact Nat.le_refl _ | (simp; done) | (simp; omega) | omega))) | (with_reducible apply below_drewN) | (with_reducible apply Below.drew) | ((with_reducible apply bl_alloc); (focus (first | exact Nat.le_refl _ | (simp; done) | (simp; omega) | omega))) | ((with_reducible apply bl_setCell); (focus (first | exact Nat.le_refl _ | (simp; done) | (simp; omega) | omega))) | ((with_reducible apply up_tr); assumption)))⟩
def i64V (z : Int) : Value := .tuple #[.int .i64 (if -9223372036854775808 ≤ z ∧ z < 9223372036854775808 then z else 0), .bool (decide (-9223372036854775808 ≤ z ∧ z < 9223372036854775808))]
theorem limb0 (x : Nat) : limb x 0 = x % 18446744073709551616 := by unfold limb; rw [bp_zero, Nat.div_one]
theorem plus_ok {a b : Int} (ha : InR a) (hb' : InR b) : ((a < 0 ↔ b < 0) → ((decide (hb ≤ enc (a + b)) = decide (a < 0)) ↔ InR (a + b))) ∧ (¬ (a < 0 ↔ b < 0) → InR (a + b)) := by
  have h1 := ha.out
  have h2 := hb'.out
  have h3 := bp16
  have h4 := hb_pos
  constructor
  · intro h
    by_cases a0 : a < 0
    · have e : enc (a + b) = if a + b = -(bp 16 : Int) then 0 else (a + b + bp 16).toNat := by
        unfold enc
        split
        · rename_i e; rw [e, Int.neg_emod_self]; rfl
        · rw [← Int.add_emod_right, Int.emod_eq_of_lt (by omega) (by omega)]
      rw [e, decide_eq_true a0, decide_eq_true_iff]
      constructor
      · intro h5
        refine InR.mk' ?_
        split at h5 <;> omega
      · intro h5
        have := h5.out
        split <;> omega
    · have e : enc (a + b) = (a + b).toNat := by
        unfold enc
        rw [Int.emod_eq_of_lt (by omega) (by omega)]
      rw [e, decide_eq_false a0, decide_eq_false_iff_not]
      constructor
      · intro h5; exact InR.mk' (by omega)
      · intro h5; have := h5.out; omega
  · intro h
    exact InR.mk' (by omega)
set_option maxHeartbeats 1000000 in
theorem add_z {a b : Int} (ha : InR a) (hb' : InR b) (w : World) :
    Calls Tryz.prog 114 #[wideV (enc a), wideV (enc b)] w fun e w' => e = .returned (opt (a + b)) ∧ Up w w' := by
  have HA := hid (fun w => minus_z ha w)
  have HB := hid (fun w => minus_z hb' w)
  have HM := hid (fun w => minus_e (a + b) w)
  have HP := hid (fun w => plus_z a b w)
  obtain ⟨hk1, hk2⟩ := plus_ok ha hb'
  by_cases a0 : a < 0
  · have hd : decide (a < 0) = true := by simpa using a0
    rw [hd] at HA hk1
    by_cases b0 : b < 0
    · have hd2 : decide (b < 0) = true := by simpa using b0
      rw [hd2] at HB
      have hk := hk1 (by simp [a0, b0])
      by_cases hs : hb ≤ enc (a + b)
      · have hd3 : decide (hb ≤ enc (a + b)) = true := by simpa using hs
        rw [hd3] at HM hk
        rw [opt_yes (hk.1 rfl)]
        clear hk1 hk2 hk hs hd hd2 hd3 a0 b0
        unfold wideV at *
        go_enter Tryz.func114, Tryz.ntmps114
        go_wp2_with (first | ((with_reducible apply ld_rowP undW infoW); exact rfl; exact rfl; focus (repeat (first | assumption | ((with_reducible apply row_newc); (focus (first | rfl | (simp; done)))) | ((with_reducible apply row_newz); (focus (first | rfl | (simp; done)))) | (with_reducible apply row_same) | ((with_reducible apply row_else); (focus (first | (simp; done) | (simp; omega) | omega))) | (with_reducible apply row_alloc) | (with_reducible apply row_drew) | (with_reducible apply row_drewN) | ((with_reducible apply row_up); assumption)))) | ((with_reducible apply st_rowP infoW); exact rfl; exact rfl; focus (repeat (first | assumption | ((with_reducible apply row_newc); (focus (first | rfl | (simp; done)))) | ((with_reducible apply row_newz); (focus (first | rfl | (simp; done)))) | (with_reducible apply row_same) | ((with_reducible apply row_else); (focus (first | (simp; done) | (simp; omega) | omega))) | (with_reducible apply row_alloc) | (with_reducible apply row_drew) | (with_reducible apply row_drewN) | ((with_reducible apply row_up); assumption)))) | ((with_reducible apply st_rowZ infoW); exact rfl; exact rfl; focus (repeat (first | assumption | ((with_reducible apply row_newc); (focus (first | rfl | (simp; done)))) | ((with_reducible apply row_newz); (focus (first | rfl | (simp; done)))) | (with_reducible apply row_same) | ((with_reducible apply row_else); (focus (first | (simp; done) | (simp; omega) | omega))) | (with_reducible apply row_alloc) | (with_reducible apply row_drew) | (with_reducible apply row_drewN) | ((with_reducible apply row_up); assumption)))) | (go_at_call 136; refine (HP.out _).mono ?_; rintro e w' ⟨rfl, hu⟩; have hsz := hu.size; simp at hsz))
        refine wp_region_upH (S := (fun wq => Row wq w.heap.size 33 16 (limb (enc a)) ∧ Row wq (w.heap.size + 1) 33 16 (limb (enc b)) ∧ Row wq (w.heap.size + 1 + 1) 33 16 (fun _ => 0) ∧ Row wq w'.heap.size 33 16 (limb (enc (a + b))) ∧ Below w.heap.size w wq)) (req := (fun _ => true)) (by kernel_rfl) (fun _ _ h hu => ⟨(h.1).up hu, (h.2.1).up hu, (h.2.2.1).up hu, (h.2.2.2.1).up hu, below_up (h.2.2.2.2) hu⟩) ⟨(by (repeat (first | assumption | ((with_reducible apply row_newc); (focus (first | rfl | (simp; done)))) | ((with_reducible apply row_newz); (focus (first | rfl | (simp; done)))) | (with_reducible apply row_same) | ((with_reducible apply row_else); (focus (first | (simp; done) | (simp; omega) | omega))) | (with_reducible apply row_alloc) | (with_reducible apply row_drew) | (with_reducible apply row_drewN) | ((with_reducible apply row_up); assumption)))), (by (repeat (first | assumption | ((with_reducible apply row_newc); (focus (first | rfl | (simp; done)))) | ((with_reducible apply row_newz); (focus (first | rfl | (simp; done)))) | (with_reducible apply row_same) | ((with_reducible apply row_else); (focus (first | (simp; done) | (simp; omega) | omega))) | (with_reducible apply row_alloc) | (with_reducible apply row_drew) | (with_reducible apply row_drewN) | ((with_reducible apply row_up); assumption)))), (by (repeat (first | assumption | ((with_reducible apply row_newc); (focus (first | rfl | (simp; done)))) | ((with_reducible apply row_newz); (focus (first | rfl | (simp; done)))) | (with_reducible apply row_same) | ((with_reducible apply row_else); (focus (first | (simp; done) | (simp; omega) | omega))) | (with_reducible apply row_alloc) | (with_reducible apply row_drew) | (with_reducible apply row_drewN) | ((with_reducible apply row_up); assumption)))), (by (repeat (first | assumption | ((with_reducible apply row_newc); (focus (first | rfl | (simp; done)))) | ((with_reducible apply row_newz); (focus (first | rfl | (simp; done)))) | (with_reducible apply row_same) | ((with_reducible apply row_else); (focus (first | (simp; done) | (simp; omega) | omega))) | (with_reducible apply row_alloc) | (with_reducible apply row_drew) | (with_reducible apply row_drewN) | ((with_reducible apply row_up); assumption)))), (by repeat (first | assumption | (with_reducible apply Up.of) | (with_reducible exact Below.refl _ _) | (with_reducible exact Up.refl _) | ((with_reducible apply bl_setRow); (focus (first | exact Nat.le_refl _ | (simp; done) | (simp; omega) | omega))) | (with_reducible apply below_drewN) | (with_reducible apply Below.drew) | ((with_reducible apply bl_alloc); (focus (first | exact Nat.le_refl _ | (simp; done) | (simp; omega) | omega))) | ((with_reducible apply bl_setCell); (focus (first | exact Nat.le_refl _ | (simp; done) | (simp; omega) | omega))) | ((with_reducible apply up_tr); assumption)))⟩ (fun wS hSS hSu => ?_)
        have ⟨hS1, hS2, hS3, hS4, hSB⟩ := hSS
        clear hu
        refine wpAnyU_take (i := 0) (d := (some 10)) (v := _) rfl rfl (by kernel_rfl) (fun _ _ _ h => h) hSu.out hSS (Or.inl ⟨by rfl, fun w' hSw => yu_value (run_ld undW infoW _ rfl _ rfl hSw.1)⟩) ?_
        try simp only [Act.put, pu1, pu2, pu3]
        refine wpAnyU_take (i := 1) (d := (some 11)) (v := _) rfl rfl (by kernel_rfl) (fun _ _ _ h => h) hSu.out hSS (Or.inl ⟨by rfl, fun w' hSw => yu_call ?_ (HA.out _)⟩) ?_
        · go_simp
        try simp only [Act.put, pu1, pu2, pu3]
        refine wpAnyU_take (i := 2) (d := (some 12)) (v := _) rfl rfl (by kernel_rfl) (fun _ _ _ h => h) hSu.out hSS (Or.inl ⟨by rfl, fun w' hSw => yu_value (run_ld undW infoW _ rfl _ rfl hSw.2.1)⟩) ?_
        try simp only [Act.put, pu1, pu2, pu3]
        refine wpAnyU_take (i := 3) (d := (some 13)) (v := _) rfl rfl (by kernel_rfl) (fun _ _ _ h => h) hSu.out hSS (Or.inl ⟨by rfl, fun w' hSw => yu_call ?_ (HB.out _)⟩) ?_
        · go_simp
        try simp only [Act.put, pu1, pu2, pu3]
        refine wpAnyU_pure (i := 4) (d := (some 14)) (v := ?_) rfl rfl (by kernel_rfl) (fun _ _ _ h => h) hSu.out (Or.inl ⟨by rfl, fun w' _ => yu_value ?_⟩) ?_
        rotate_left
        · (go_simp; (try exact rfl))
        try simp only [Act.put, pu1, pu2, pu3]
        refine wpAnyU_pure (i := 5) (d := (some 15)) (v := ?_) rfl rfl (by kernel_rfl) (fun _ _ _ h => h) hSu.out (Or.inl ⟨by rfl, fun w' _ => yu_value ?_⟩) ?_
        rotate_left
        · (go_simp; (try exact rfl))
        try simp only [Act.put, pu1, pu2, pu3]
        refine wpAnyU_take (i := 6) (d := (some 16)) (v := _) rfl rfl (by kernel_rfl) (fun _ _ _ h => h) hSu.out hSS (Or.inl ⟨by rfl, fun w' hSw => yu_value (run_ld undW infoW _ rfl _ rfl hSw.2.2.2.1)⟩) ?_
        try simp only [Act.put, pu1, pu2, pu3]
        refine wpAnyU_take (i := 7) (d := (some 17)) (v := _) rfl rfl (by kernel_rfl) (fun _ _ _ h => h) hSu.out hSS (Or.inl ⟨by rfl, fun w' hSw => yu_call ?_ (HM.out _)⟩) ?_
        · go_simp
        try simp only [Act.put, pu1, pu2, pu3]
        refine wpAnyU_take (i := 8) (d := (some 18)) (v := _) rfl rfl (by kernel_rfl) (fun _ _ _ h => h) hSu.out hSS (Or.inl ⟨by rfl, fun w' hSw => yu_value (run_ld undW infoW _ rfl _ rfl hSw.1)⟩) ?_
        try simp only [Act.put, pu1, pu2, pu3]
        refine wpAnyU_take (i := 9) (d := (some 19)) (v := _) rfl rfl (by kernel_rfl) (fun _ _ _ h => h) hSu.out hSS (Or.inl ⟨by rfl, fun w' hSw => yu_call ?_ (HA.out _)⟩) ?_
        · go_simp
        try simp only [Act.put, pu1, pu2, pu3]
        refine wpAnyU_pure (i := 10) (d := (some 20)) (v := ?_) rfl rfl (by kernel_rfl) (fun _ _ _ h => h) hSu.out (Or.inl ⟨by rfl, fun w' _ => yu_value ?_⟩) ?_
        rotate_left
        · (go_simp; (try exact rfl))
        try simp only [Act.put, pu1, pu2, pu3]
        refine wpAnyU_pure (i := 11) (d := (some 21)) (v := ?_) rfl rfl (by kernel_rfl) (fun _ _ _ h => h) hSu.out (Or.inl ⟨by rfl, fun w' _ => yu_value ?_⟩) ?_
        rotate_left
        · (go_simp; (try exact rfl))
        try simp only [Act.put, pu1, pu2, pu3]
        refine wpAnyU_done (by kernel_rfl) (fun wE huE => ?_) _
        have ⟨hS1, hS2, hS3, hS4, hSB⟩ := hSu.out _ _ hSS huE
        clear huE hSS
        go_wp2_with (first | ((with_reducible apply ld_rowP undW infoW); exact rfl; exact rfl; focus (repeat (first | assumption | ((with_reducible apply row_newc); (focus (first | rfl | (simp; done)))) | ((with_reducible apply row_newz); (focus (first | rfl | (simp; done)))) | (with_reducible apply row_same) | ((with_reducible apply row_else); (focus (first | (simp; done) | (simp; omega) | omega))) | (with_reducible apply row_alloc) | (with_reducible apply row_drew) | (with_reducible apply row_drewN) | ((with_reducible apply row_up); assumption)))) | ((with_reducible apply st_rowP infoW); exact rfl; exact rfl; focus (repeat (first | assumption | ((with_reducible apply row_newc); (focus (first | rfl | (simp; done)))) | ((with_reducible apply row_newz); (focus (first | rfl | (simp; done)))) | (with_reducible apply row_same) | ((with_reducible apply row_else); (focus (first | (simp; done) | (simp; omega) | omega))) | (with_reducible apply row_alloc) | (with_reducible apply row_drew) | (with_reducible apply row_drewN) | ((with_reducible apply row_up); assumption)))) | ((with_reducible apply st_rowZ infoW); exact rfl; exact rfl; focus (repeat (first | assumption | ((with_reducible apply row_newc); (focus (first | rfl | (simp; done)))) | ((with_reducible apply row_newz); (focus (first | rfl | (simp; done)))) | (with_reducible apply row_same) | ((with_reducible apply row_else); (focus (first | (simp; done) | (simp; omega) | omega))) | (with_reducible apply row_alloc) | (with_reducible apply row_drew) | (with_reducible apply row_drewN) | ((with_reducible apply row_up); assumption)))))
        exact bodyPost_ret (res2 rfl undW infoW _ _ rfl (by (repeat (first | assumption | ((with_reducible apply row_newc); (focus (first | rfl | (simp; done)))) | ((with_reducible apply row_newz); (focus (first | rfl | (simp; done)))) | (with_reducible apply row_same) | ((with_reducible apply row_else); (focus (first | (simp; done) | (simp; omega) | omega))) | (with_reducible apply row_alloc) | (with_reducible apply row_drew) | (with_reducible apply row_drewN) | ((with_reducible apply row_up); assumption))))) rfl ⟨rfl, (by repeat (first | assumption | (with_reducible apply Up.of) | (with_reducible exact Below.refl _ _) | (with_reducible exact Up.refl _) | ((with_reducible apply bl_setRow); (focus (first | exact Nat.le_refl _ | (simp; done) | (simp; omega) | omega))) | (with_reducible apply below_drewN) | (with_reducible apply Below.drew) | ((with_reducible apply bl_alloc); (focus (first | exact Nat.le_refl _ | (simp; done) | (simp; omega) | omega))) | ((with_reducible apply bl_setCell); (focus (first | exact Nat.le_refl _ | (simp; done) | (simp; omega) | omega))) | ((with_reducible apply up_tr); assumption)))⟩
      · have hd3 : decide (hb ≤ enc (a + b)) = false := by simpa using hs
        rw [hd3] at HM hk
        rw [opt_no fun h => by simpa using hk.2 h]
        clear hk1 hk2 hk hs hd hd2 hd3 a0 b0
        unfold wideV at *
        go_enter Tryz.func114, Tryz.ntmps114
        go_wp2_with (first | ((with_reducible apply ld_rowP undW infoW); exact rfl; exact rfl; focus (repeat (first | assumption | ((with_reducible apply row_newc); (focus (first | rfl | (simp; done)))) | ((with_reducible apply row_newz); (focus (first | rfl | (simp; done)))) | (with_reducible apply row_same) | ((with_reducible apply row_else); (focus (first | (simp; done) | (simp; omega) | omega))) | (with_reducible apply row_alloc) | (with_reducible apply row_drew) | (with_reducible apply row_drewN) | ((with_reducible apply row_up); assumption)))) | ((with_reducible apply st_rowP infoW); exact rfl; exact rfl; focus (repeat (first | assumption | ((with_reducible apply row_newc); (focus (first | rfl | (simp; done)))) | ((with_reducible apply row_newz); (focus (first | rfl | (simp; done)))) | (with_reducible apply row_same) | ((with_reducible apply row_else); (focus (first | (simp; done) | (simp; omega) | omega))) | (with_reducible apply row_alloc) | (with_reducible apply row_drew) | (with_reducible apply row_drewN) | ((with_reducible apply row_up); assumption)))) | ((with_reducible apply st_rowZ infoW); exact rfl; exact rfl; focus (repeat (first | assumption | ((with_reducible apply row_newc); (focus (first | rfl | (simp; done)))) | ((with_reducible apply row_newz); (focus (first | rfl | (simp; done)))) | (with_reducible apply row_same) | ((with_reducible apply row_else); (focus (first | (simp; done) | (simp; omega) | omega))) | (with_reducible apply row_alloc) | (with_reducible apply row_drew) | (with_reducible apply row_drewN) | ((with_reducible apply row_up); assumption)))) | (go_at_call 136; refine (HP.out _).mono ?_; rintro e w' ⟨rfl, hu⟩; have hsz := hu.size; simp at hsz))
        refine wp_region_upH (S := (fun wq => Row wq w.heap.size 33 16 (limb (enc a)) ∧ Row wq (w.heap.size + 1) 33 16 (limb (enc b)) ∧ Row wq (w.heap.size + 1 + 1) 33 16 (fun _ => 0) ∧ Row wq w'.heap.size 33 16 (limb (enc (a + b))) ∧ Below w.heap.size w wq)) (req := (fun _ => true)) (by kernel_rfl) (fun _ _ h hu => ⟨(h.1).up hu, (h.2.1).up hu, (h.2.2.1).up hu, (h.2.2.2.1).up hu, below_up (h.2.2.2.2) hu⟩) ⟨(by (repeat (first | assumption | ((with_reducible apply row_newc); (focus (first | rfl | (simp; done)))) | ((with_reducible apply row_newz); (focus (first | rfl | (simp; done)))) | (with_reducible apply row_same) | ((with_reducible apply row_else); (focus (first | (simp; done) | (simp; omega) | omega))) | (with_reducible apply row_alloc) | (with_reducible apply row_drew) | (with_reducible apply row_drewN) | ((with_reducible apply row_up); assumption)))), (by (repeat (first | assumption | ((with_reducible apply row_newc); (focus (first | rfl | (simp; done)))) | ((with_reducible apply row_newz); (focus (first | rfl | (simp; done)))) | (with_reducible apply row_same) | ((with_reducible apply row_else); (focus (first | (simp; done) | (simp; omega) | omega))) | (with_reducible apply row_alloc) | (with_reducible apply row_drew) | (with_reducible apply row_drewN) | ((with_reducible apply row_up); assumption)))), (by (repeat (first | assumption | ((with_reducible apply row_newc); (focus (first | rfl | (simp; done)))) | ((with_reducible apply row_newz); (focus (first | rfl | (simp; done)))) | (with_reducible apply row_same) | ((with_reducible apply row_else); (focus (first | (simp; done) | (simp; omega) | omega))) | (with_reducible apply row_alloc) | (with_reducible apply row_drew) | (with_reducible apply row_drewN) | ((with_reducible apply row_up); assumption)))), (by (repeat (first | assumption | ((with_reducible apply row_newc); (focus (first | rfl | (simp; done)))) | ((with_reducible apply row_newz); (focus (first | rfl | (simp; done)))) | (with_reducible apply row_same) | ((with_reducible apply row_else); (focus (first | (simp; done) | (simp; omega) | omega))) | (with_reducible apply row_alloc) | (with_reducible apply row_drew) | (with_reducible apply row_drewN) | ((with_reducible apply row_up); assumption)))), (by repeat (first | assumption | (with_reducible apply Up.of) | (with_reducible exact Below.refl _ _) | (with_reducible exact Up.refl _) | ((with_reducible apply bl_setRow); (focus (first | exact Nat.le_refl _ | (simp; done) | (simp; omega) | omega))) | (with_reducible apply below_drewN) | (with_reducible apply Below.drew) | ((with_reducible apply bl_alloc); (focus (first | exact Nat.le_refl _ | (simp; done) | (simp; omega) | omega))) | ((with_reducible apply bl_setCell); (focus (first | exact Nat.le_refl _ | (simp; done) | (simp; omega) | omega))) | ((with_reducible apply up_tr); assumption)))⟩ (fun wS hSS hSu => ?_)
        have ⟨hS1, hS2, hS3, hS4, hSB⟩ := hSS
        clear hu
        refine wpAnyU_take (i := 0) (d := (some 10)) (v := _) rfl rfl (by kernel_rfl) (fun _ _ _ h => h) hSu.out hSS (Or.inl ⟨by rfl, fun w' hSw => yu_value (run_ld undW infoW _ rfl _ rfl hSw.1)⟩) ?_
        try simp only [Act.put, pu1, pu2, pu3]
        refine wpAnyU_take (i := 1) (d := (some 11)) (v := _) rfl rfl (by kernel_rfl) (fun _ _ _ h => h) hSu.out hSS (Or.inl ⟨by rfl, fun w' hSw => yu_call ?_ (HA.out _)⟩) ?_
        · go_simp
        try simp only [Act.put, pu1, pu2, pu3]
        refine wpAnyU_take (i := 2) (d := (some 12)) (v := _) rfl rfl (by kernel_rfl) (fun _ _ _ h => h) hSu.out hSS (Or.inl ⟨by rfl, fun w' hSw => yu_value (run_ld undW infoW _ rfl _ rfl hSw.2.1)⟩) ?_
        try simp only [Act.put, pu1, pu2, pu3]
        refine wpAnyU_take (i := 3) (d := (some 13)) (v := _) rfl rfl (by kernel_rfl) (fun _ _ _ h => h) hSu.out hSS (Or.inl ⟨by rfl, fun w' hSw => yu_call ?_ (HB.out _)⟩) ?_
        · go_simp
        try simp only [Act.put, pu1, pu2, pu3]
        refine wpAnyU_pure (i := 4) (d := (some 14)) (v := ?_) rfl rfl (by kernel_rfl) (fun _ _ _ h => h) hSu.out (Or.inl ⟨by rfl, fun w' _ => yu_value ?_⟩) ?_
        rotate_left
        · (go_simp; (try exact rfl))
        try simp only [Act.put, pu1, pu2, pu3]
        refine wpAnyU_pure (i := 5) (d := (some 15)) (v := ?_) rfl rfl (by kernel_rfl) (fun _ _ _ h => h) hSu.out (Or.inl ⟨by rfl, fun w' _ => yu_value ?_⟩) ?_
        rotate_left
        · (go_simp; (try exact rfl))
        try simp only [Act.put, pu1, pu2, pu3]
        refine wpAnyU_take (i := 6) (d := (some 16)) (v := _) rfl rfl (by kernel_rfl) (fun _ _ _ h => h) hSu.out hSS (Or.inl ⟨by rfl, fun w' hSw => yu_value (run_ld undW infoW _ rfl _ rfl hSw.2.2.2.1)⟩) ?_
        try simp only [Act.put, pu1, pu2, pu3]
        refine wpAnyU_take (i := 7) (d := (some 17)) (v := _) rfl rfl (by kernel_rfl) (fun _ _ _ h => h) hSu.out hSS (Or.inl ⟨by rfl, fun w' hSw => yu_call ?_ (HM.out _)⟩) ?_
        · go_simp
        try simp only [Act.put, pu1, pu2, pu3]
        refine wpAnyU_take (i := 8) (d := (some 18)) (v := _) rfl rfl (by kernel_rfl) (fun _ _ _ h => h) hSu.out hSS (Or.inl ⟨by rfl, fun w' hSw => yu_value (run_ld undW infoW _ rfl _ rfl hSw.1)⟩) ?_
        try simp only [Act.put, pu1, pu2, pu3]
        refine wpAnyU_take (i := 9) (d := (some 19)) (v := _) rfl rfl (by kernel_rfl) (fun _ _ _ h => h) hSu.out hSS (Or.inl ⟨by rfl, fun w' hSw => yu_call ?_ (HA.out _)⟩) ?_
        · go_simp
        try simp only [Act.put, pu1, pu2, pu3]
        refine wpAnyU_pure (i := 10) (d := (some 20)) (v := ?_) rfl rfl (by kernel_rfl) (fun _ _ _ h => h) hSu.out (Or.inl ⟨by rfl, fun w' _ => yu_value ?_⟩) ?_
        rotate_left
        · (go_simp; (try exact rfl))
        try simp only [Act.put, pu1, pu2, pu3]
        refine wpAnyU_pure (i := 11) (d := (some 21)) (v := ?_) rfl rfl (by kernel_rfl) (fun _ _ _ h => h) hSu.out (Or.inl ⟨by rfl, fun w' _ => yu_value ?_⟩) ?_
        rotate_left
        · (go_simp; (try exact rfl))
        try simp only [Act.put, pu1, pu2, pu3]
        refine wpAnyU_done (by kernel_rfl) (fun wE huE => ?_) _
        have ⟨hS1, hS2, hS3, hS4, hSB⟩ := hSu.out _ _ hSS huE
        clear huE hSS
        go_wp2_with (first | ((with_reducible apply ld_rowP undW infoW); exact rfl; exact rfl; focus (repeat (first | assumption | ((with_reducible apply row_newc); (focus (first | rfl | (simp; done)))) | ((with_reducible apply row_newz); (focus (first | rfl | (simp; done)))) | (with_reducible apply row_same) | ((with_reducible apply row_else); (focus (first | (simp; done) | (simp; omega) | omega))) | (with_reducible apply row_alloc) | (with_reducible apply row_drew) | (with_reducible apply row_drewN) | ((with_reducible apply row_up); assumption)))) | ((with_reducible apply st_rowP infoW); exact rfl; exact rfl; focus (repeat (first | assumption | ((with_reducible apply row_newc); (focus (first | rfl | (simp; done)))) | ((with_reducible apply row_newz); (focus (first | rfl | (simp; done)))) | (with_reducible apply row_same) | ((with_reducible apply row_else); (focus (first | (simp; done) | (simp; omega) | omega))) | (with_reducible apply row_alloc) | (with_reducible apply row_drew) | (with_reducible apply row_drewN) | ((with_reducible apply row_up); assumption)))) | ((with_reducible apply st_rowZ infoW); exact rfl; exact rfl; focus (repeat (first | assumption | ((with_reducible apply row_newc); (focus (first | rfl | (simp; done)))) | ((with_reducible apply row_newz); (focus (first | rfl | (simp; done)))) | (with_reducible apply row_same) | ((with_reducible apply row_else); (focus (first | (simp; done) | (simp; omega) | omega))) | (with_reducible apply row_alloc) | (with_reducible apply row_drew) | (with_reducible apply row_drewN) | ((with_reducible apply row_up); assumption)))))
        exact bodyPost_ret (res2 rfl undW infoW _ _ rfl (by (repeat (first | assumption | ((with_reducible apply row_newc); (focus (first | rfl | (simp; done)))) | ((with_reducible apply row_newz); (focus (first | rfl | (simp; done)))) | (with_reducible apply row_same) | ((with_reducible apply row_else); (focus (first | (simp; done) | (simp; omega) | omega))) | (with_reducible apply row_alloc) | (with_reducible apply row_drew) | (with_reducible apply row_drewN) | ((with_reducible apply row_up); assumption))))) rfl ⟨rfl, (by repeat (first | assumption | (with_reducible apply Up.of) | (with_reducible exact Below.refl _ _) | (with_reducible exact Up.refl _) | ((with_reducible apply bl_setRow); (focus (first | exact Nat.le_refl _ | (simp; done) | (simp; omega) | omega))) | (with_reducible apply below_drewN) | (with_reducible apply Below.drew) | ((with_reducible apply bl_alloc); (focus (first | exact Nat.le_refl _ | (simp; done) | (simp; omega) | omega))) | ((with_reducible apply bl_setCell); (focus (first | exact Nat.le_refl _ | (simp; done) | (simp; omega) | omega))) | ((with_reducible apply up_tr); assumption)))⟩
    · have hd2 : decide (b < 0) = false := by simpa using b0
      rw [hd2] at HB
      rw [opt_yes (hk2 (by simp [a0, b0]))]
      clear hk1 hk2 hd hd2 a0 b0
      unfold wideV at *
      go_enter Tryz.func114, Tryz.ntmps114
      go_wp2_with (first | ((with_reducible apply ld_rowP undW infoW); exact rfl; exact rfl; focus (repeat (first | assumption | ((with_reducible apply row_newc); (focus (first | rfl | (simp; done)))) | ((with_reducible apply row_newz); (focus (first | rfl | (simp; done)))) | (with_reducible apply row_same) | ((with_reducible apply row_else); (focus (first | (simp; done) | (simp; omega) | omega))) | (with_reducible apply row_alloc) | (with_reducible apply row_drew) | (with_reducible apply row_drewN) | ((with_reducible apply row_up); assumption)))) | ((with_reducible apply st_rowP infoW); exact rfl; exact rfl; focus (repeat (first | assumption | ((with_reducible apply row_newc); (focus (first | rfl | (simp; done)))) | ((with_reducible apply row_newz); (focus (first | rfl | (simp; done)))) | (with_reducible apply row_same) | ((with_reducible apply row_else); (focus (first | (simp; done) | (simp; omega) | omega))) | (with_reducible apply row_alloc) | (with_reducible apply row_drew) | (with_reducible apply row_drewN) | ((with_reducible apply row_up); assumption)))) | ((with_reducible apply st_rowZ infoW); exact rfl; exact rfl; focus (repeat (first | assumption | ((with_reducible apply row_newc); (focus (first | rfl | (simp; done)))) | ((with_reducible apply row_newz); (focus (first | rfl | (simp; done)))) | (with_reducible apply row_same) | ((with_reducible apply row_else); (focus (first | (simp; done) | (simp; omega) | omega))) | (with_reducible apply row_alloc) | (with_reducible apply row_drew) | (with_reducible apply row_drewN) | ((with_reducible apply row_up); assumption)))) | (go_at_call 136; refine (HP.out _).mono ?_; rintro e w' ⟨rfl, hu⟩; have hsz := hu.size; simp at hsz))
      refine wp_region_upH (S := (fun wq => Row wq w.heap.size 33 16 (limb (enc a)) ∧ Row wq (w.heap.size + 1) 33 16 (limb (enc b)) ∧ Row wq (w.heap.size + 1 + 1) 33 16 (fun _ => 0) ∧ Row wq w'.heap.size 33 16 (limb (enc (a + b))) ∧ Below w.heap.size w wq)) (req := (fun _ => true)) (by kernel_rfl) (fun _ _ h hu => ⟨(h.1).up hu, (h.2.1).up hu, (h.2.2.1).up hu, (h.2.2.2.1).up hu, below_up (h.2.2.2.2) hu⟩) ⟨(by (repeat (first | assumption | ((with_reducible apply row_newc); (focus (first | rfl | (simp; done)))) | ((with_reducible apply row_newz); (focus (first | rfl | (simp; done)))) | (with_reducible apply row_same) | ((with_reducible apply row_else); (focus (first | (simp; done) | (simp; omega) | omega))) | (with_reducible apply row_alloc) | (with_reducible apply row_drew) | (with_reducible apply row_drewN) | ((with_reducible apply row_up); assumption)))), (by (repeat (first | assumption | ((with_reducible apply row_newc); (focus (first | rfl | (simp; done)))) | ((with_reducible apply row_newz); (focus (first | rfl | (simp; done)))) | (with_reducible apply row_same) | ((with_reducible apply row_else); (focus (first | (simp; done) | (simp; omega) | omega))) | (with_reducible apply row_alloc) | (with_reducible apply row_drew) | (with_reducible apply row_drewN) | ((with_reducible apply row_up); assumption)))), (by (repeat (first | assumption | ((with_reducible apply row_newc); (focus (first | rfl | (simp; done)))) | ((with_reducible apply row_newz); (focus (first | rfl | (simp; done)))) | (with_reducible apply row_same) | ((with_reducible apply row_else); (focus (first | (simp; done) | (simp; omega) | omega))) | (with_reducible apply row_alloc) | (with_reducible apply row_drew) | (with_reducible apply row_drewN) | ((with_reducible apply row_up); assumption)))), (by (repeat (first | assumption | ((with_reducible apply row_newc); (focus (first | rfl | (simp; done)))) | ((with_reducible apply row_newz); (focus (first | rfl | (simp; done)))) | (with_reducible apply row_same) | ((with_reducible apply row_else); (focus (first | (simp; done) | (simp; omega) | omega))) | (with_reducible apply row_alloc) | (with_reducible apply row_drew) | (with_reducible apply row_drewN) | ((with_reducible apply row_up); assumption)))), (by repeat (first | assumption | (with_reducible apply Up.of) | (with_reducible exact Below.refl _ _) | (with_reducible exact Up.refl _) | ((with_reducible apply bl_setRow); (focus (first | exact Nat.le_refl _ | (simp; done) | (simp; omega) | omega))) | (with_reducible apply below_drewN) | (with_reducible apply Below.drew) | ((with_reducible apply bl_alloc); (focus (first | exact Nat.le_refl _ | (simp; done) | (simp; omega) | omega))) | ((with_reducible apply bl_setCell); (focus (first | exact Nat.le_refl _ | (simp; done) | (simp; omega) | omega))) | ((with_reducible apply up_tr); assumption)))⟩ (fun wS hSS hSu => ?_)
      have ⟨hS1, hS2, hS3, hS4, hSB⟩ := hSS
      clear hu
      refine wpAnyU_take (i := 0) (d := (some 10)) (v := _) rfl rfl (by kernel_rfl) (fun _ _ _ h => h) hSu.out hSS (Or.inl ⟨by rfl, fun w' hSw => yu_value (run_ld undW infoW _ rfl _ rfl hSw.1)⟩) ?_
      try simp only [Act.put, pu1, pu2, pu3]
      refine wpAnyU_take (i := 1) (d := (some 11)) (v := _) rfl rfl (by kernel_rfl) (fun _ _ _ h => h) hSu.out hSS (Or.inl ⟨by rfl, fun w' hSw => yu_call ?_ (HA.out _)⟩) ?_
      · go_simp
      try simp only [Act.put, pu1, pu2, pu3]
      refine wpAnyU_take (i := 2) (d := (some 12)) (v := _) rfl rfl (by kernel_rfl) (fun _ _ _ h => h) hSu.out hSS (Or.inl ⟨by rfl, fun w' hSw => yu_value (run_ld undW infoW _ rfl _ rfl hSw.2.1)⟩) ?_
      try simp only [Act.put, pu1, pu2, pu3]
      refine wpAnyU_take (i := 3) (d := (some 13)) (v := _) rfl rfl (by kernel_rfl) (fun _ _ _ h => h) hSu.out hSS (Or.inl ⟨by rfl, fun w' hSw => yu_call ?_ (HB.out _)⟩) ?_
      · go_simp
      try simp only [Act.put, pu1, pu2, pu3]
      refine wpAnyU_pure (i := 4) (d := (some 14)) (v := ?_) rfl rfl (by kernel_rfl) (fun _ _ _ h => h) hSu.out (Or.inl ⟨by rfl, fun w' _ => yu_value ?_⟩) ?_
      rotate_left
      · (go_simp; (try exact rfl))
      try simp only [Act.put, pu1, pu2, pu3]
      refine wpAnyU_pure (i := 5) (d := (some 15)) (v := ?_) rfl rfl (by kernel_rfl) (fun _ _ _ h => h) hSu.out (Or.inl ⟨by rfl, fun w' _ => yu_value ?_⟩) ?_
      rotate_left
      · (go_simp; (try exact rfl))
      try simp only [Act.put, pu1, pu2, pu3]
      refine wpAnyU_pure (i := 6) (d := (some 16)) (v := undef) rfl rfl (by kernel_rfl) (fun _ _ _ h => h) hSu.out (Or.inr ⟨by rfl, rfl⟩) ?_
      try simp only [Act.put, pu1, pu2, pu3]
      refine wpAnyU_pure (i := 7) (d := (some 17)) (v := undef) rfl rfl (by kernel_rfl) (fun _ _ _ h => h) hSu.out (Or.inr ⟨by rfl, rfl⟩) ?_
      try simp only [Act.put, pu1, pu2, pu3]
      refine wpAnyU_pure (i := 8) (d := (some 18)) (v := undef) rfl rfl (by kernel_rfl) (fun _ _ _ h => h) hSu.out (Or.inr ⟨by rfl, rfl⟩) ?_
      try simp only [Act.put, pu1, pu2, pu3]
      refine wpAnyU_pure (i := 9) (d := (some 19)) (v := undef) rfl rfl (by kernel_rfl) (fun _ _ _ h => h) hSu.out (Or.inr ⟨by rfl, rfl⟩) ?_
      try simp only [Act.put, pu1, pu2, pu3]
      refine wpAnyU_pure (i := 10) (d := (some 20)) (v := undef) rfl rfl (by kernel_rfl) (fun _ _ _ h => h) hSu.out (Or.inr ⟨by rfl, rfl⟩) ?_
      try simp only [Act.put, pu1, pu2, pu3]
      refine wpAnyU_pure (i := 11) (d := (some 21)) (v := ?_) rfl rfl (by kernel_rfl) (fun _ _ _ h => h) hSu.out (Or.inl ⟨by rfl, fun w' _ => yu_value ?_⟩) ?_
      rotate_left
      · (go_simp; (try exact rfl))
      try simp only [Act.put, pu1, pu2, pu3]
      refine wpAnyU_done (by kernel_rfl) (fun wE huE => ?_) _
      have ⟨hS1, hS2, hS3, hS4, hSB⟩ := hSu.out _ _ hSS huE
      clear huE hSS
      go_wp2_with (first | ((with_reducible apply ld_rowP undW infoW); exact rfl; exact rfl; focus (repeat (first | assumption | ((with_reducible apply row_newc); (focus (first | rfl | (simp; done)))) | ((with_reducible apply row_newz); (focus (first | rfl | (simp; done)))) | (with_reducible apply row_same) | ((with_reducible apply row_else); (focus (first | (simp; done) | (simp; omega) | omega))) | (with_reducible apply row_alloc) | (with_reducible apply row_drew) | (with_reducible apply row_drewN) | ((with_reducible apply row_up); assumption)))) | ((with_reducible apply st_rowP infoW); exact rfl; exact rfl; focus (repeat (first | assumption | ((with_reducible apply row_newc); (focus (first | rfl | (simp; done)))) | ((with_reducible apply row_newz); (focus (first | rfl | (simp; done)))) | (with_reducible apply row_same) | ((with_reducible apply row_else); (focus (first | (simp; done) | (simp; omega) | omega))) | (with_reducible apply row_alloc) | (with_reducible apply row_drew) | (with_reducible apply row_drewN) | ((with_reducible apply row_up); assumption)))) | ((with_reducible apply st_rowZ infoW); exact rfl; exact rfl; focus (repeat (first | assumption | ((with_reducible apply row_newc); (focus (first | rfl | (simp; done)))) | ((with_reducible apply row_newz); (focus (first | rfl | (simp; done)))) | (with_reducible apply row_same) | ((with_reducible apply row_else); (focus (first | (simp; done) | (simp; omega) | omega))) | (with_reducible apply row_alloc) | (with_reducible apply row_drew) | (with_reducible apply row_drewN) | ((with_reducible apply row_up); assumption)))))
      exact bodyPost_ret (res2 rfl undW infoW _ _ rfl (by (repeat (first | assumption | ((with_reducible apply row_newc); (focus (first | rfl | (simp; done)))) | ((with_reducible apply row_newz); (focus (first | rfl | (simp; done)))) | (with_reducible apply row_same) | ((with_reducible apply row_else); (focus (first | (simp; done) | (simp; omega) | omega))) | (with_reducible apply row_alloc) | (with_reducible apply row_drew) | (with_reducible apply row_drewN) | ((with_reducible apply row_up); assumption))))) rfl ⟨rfl, (by repeat (first | assumption | (with_reducible apply Up.of) | (with_reducible exact Below.refl _ _) | (with_reducible exact Up.refl _) | ((with_reducible apply bl_setRow); (focus (first | exact Nat.le_refl _ | (simp; done) | (simp; omega) | omega))) | (with_reducible apply below_drewN) | (with_reducible apply Below.drew) | ((with_reducible apply bl_alloc); (focus (first | exact Nat.le_refl _ | (simp; done) | (simp; omega) | omega))) | ((with_reducible apply bl_setCell); (focus (first | exact Nat.le_refl _ | (simp; done) | (simp; omega) | omega))) | ((with_reducible apply up_tr); assumption)))⟩
  · have hd : decide (a < 0) = false := by simpa using a0
    rw [hd] at HA hk1
    by_cases b0 : b < 0
    · have hd2 : decide (b < 0) = true := by simpa using b0
      rw [hd2] at HB
      rw [opt_yes (hk2 (by simp [a0, b0]))]
      clear hk1 hk2 hd hd2 a0 b0
      unfold wideV at *
      go_enter Tryz.func114, Tryz.ntmps114
      go_wp2_with (first | ((with_reducible apply ld_rowP undW infoW); exact rfl; exact rfl; focus (repeat (first | assumption | ((with_reducible apply row_newc); (focus (first | rfl | (simp; done)))) | ((with_reducible apply row_newz); (focus (first | rfl | (simp; done)))) | (with_reducible apply row_same) | ((with_reducible apply row_else); (focus (first | (simp; done) | (simp; omega) | omega))) | (with_reducible apply row_alloc) | (with_reducible apply row_drew) | (with_reducible apply row_drewN) | ((with_reducible apply row_up); assumption)))) | ((with_reducible apply st_rowP infoW); exact rfl; exact rfl; focus (repeat (first | assumption | ((with_reducible apply row_newc); (focus (first | rfl | (simp; done)))) | ((with_reducible apply row_newz); (focus (first | rfl | (simp; done)))) | (with_reducible apply row_same) | ((with_reducible apply row_else); (focus (first | (simp; done) | (simp; omega) | omega))) | (with_reducible apply row_alloc) | (with_reducible apply row_drew) | (with_reducible apply row_drewN) | ((with_reducible apply row_up); assumption)))) | ((with_reducible apply st_rowZ infoW); exact rfl; exact rfl; focus (repeat (first | assumption | ((with_reducible apply row_newc); (focus (first | rfl | (simp; done)))) | ((with_reducible apply row_newz); (focus (first | rfl | (simp; done)))) | (with_reducible apply row_same) | ((with_reducible apply row_else); (focus (first | (simp; done) | (simp; omega) | omega))) | (with_reducible apply row_alloc) | (with_reducible apply row_drew) | (with_reducible apply row_drewN) | ((with_reducible apply row_up); assumption)))) | (go_at_call 136; refine (HP.out _).mono ?_; rintro e w' ⟨rfl, hu⟩; have hsz := hu.size; simp at hsz))
      refine wp_region_upH (S := (fun wq => Row wq w.heap.size 33 16 (limb (enc a)) ∧ Row wq (w.heap.size + 1) 33 16 (limb (enc b)) ∧ Row wq (w.heap.size + 1 + 1) 33 16 (fun _ => 0) ∧ Row wq w'.heap.size 33 16 (limb (enc (a + b))) ∧ Below w.heap.size w wq)) (req := (fun _ => true)) (by kernel_rfl) (fun _ _ h hu => ⟨(h.1).up hu, (h.2.1).up hu, (h.2.2.1).up hu, (h.2.2.2.1).up hu, below_up (h.2.2.2.2) hu⟩) ⟨(by (repeat (first | assumption | ((with_reducible apply row_newc); (focus (first | rfl | (simp; done)))) | ((with_reducible apply row_newz); (focus (first | rfl | (simp; done)))) | (with_reducible apply row_same) | ((with_reducible apply row_else); (focus (first | (simp; done) | (simp; omega) | omega))) | (with_reducible apply row_alloc) | (with_reducible apply row_drew) | (with_reducible apply row_drewN) | ((with_reducible apply row_up); assumption)))), (by (repeat (first | assumption | ((with_reducible apply row_newc); (focus (first | rfl | (simp; done)))) | ((with_reducible apply row_newz); (focus (first | rfl | (simp; done)))) | (with_reducible apply row_same) | ((with_reducible apply row_else); (focus (first | (simp; done) | (simp; omega) | omega))) | (with_reducible apply row_alloc) | (with_reducible apply row_drew) | (with_reducible apply row_drewN) | ((with_reducible apply row_up); assumption)))), (by (repeat (first | assumption | ((with_reducible apply row_newc); (focus (first | rfl | (simp; done)))) | ((with_reducible apply row_newz); (focus (first | rfl | (simp; done)))) | (with_reducible apply row_same) | ((with_reducible apply row_else); (focus (first | (simp; done) | (simp; omega) | omega))) | (with_reducible apply row_alloc) | (with_reducible apply row_drew) | (with_reducible apply row_drewN) | ((with_reducible apply row_up); assumption)))), (by (repeat (first | assumption | ((with_reducible apply row_newc); (focus (first | rfl | (simp; done)))) | ((with_reducible apply row_newz); (focus (first | rfl | (simp; done)))) | (with_reducible apply row_same) | ((with_reducible apply row_else); (focus (first | (simp; done) | (simp; omega) | omega))) | (with_reducible apply row_alloc) | (with_reducible apply row_drew) | (with_reducible apply row_drewN) | ((with_reducible apply row_up); assumption)))), (by repeat (first | assumption | (with_reducible apply Up.of) | (with_reducible exact Below.refl _ _) | (with_reducible exact Up.refl _) | ((with_reducible apply bl_setRow); (focus (first | exact Nat.le_refl _ | (simp; done) | (simp; omega) | omega))) | (with_reducible apply below_drewN) | (with_reducible apply Below.drew) | ((with_reducible apply bl_alloc); (focus (first | exact Nat.le_refl _ | (simp; done) | (simp; omega) | omega))) | ((with_reducible apply bl_setCell); (focus (first | exact Nat.le_refl _ | (simp; done) | (simp; omega) | omega))) | ((with_reducible apply up_tr); assumption)))⟩ (fun wS hSS hSu => ?_)
      have ⟨hS1, hS2, hS3, hS4, hSB⟩ := hSS
      clear hu
      refine wpAnyU_take (i := 0) (d := (some 10)) (v := _) rfl rfl (by kernel_rfl) (fun _ _ _ h => h) hSu.out hSS (Or.inl ⟨by rfl, fun w' hSw => yu_value (run_ld undW infoW _ rfl _ rfl hSw.1)⟩) ?_
      try simp only [Act.put, pu1, pu2, pu3]
      refine wpAnyU_take (i := 1) (d := (some 11)) (v := _) rfl rfl (by kernel_rfl) (fun _ _ _ h => h) hSu.out hSS (Or.inl ⟨by rfl, fun w' hSw => yu_call ?_ (HA.out _)⟩) ?_
      · go_simp
      try simp only [Act.put, pu1, pu2, pu3]
      refine wpAnyU_take (i := 2) (d := (some 12)) (v := _) rfl rfl (by kernel_rfl) (fun _ _ _ h => h) hSu.out hSS (Or.inl ⟨by rfl, fun w' hSw => yu_value (run_ld undW infoW _ rfl _ rfl hSw.2.1)⟩) ?_
      try simp only [Act.put, pu1, pu2, pu3]
      refine wpAnyU_take (i := 3) (d := (some 13)) (v := _) rfl rfl (by kernel_rfl) (fun _ _ _ h => h) hSu.out hSS (Or.inl ⟨by rfl, fun w' hSw => yu_call ?_ (HB.out _)⟩) ?_
      · go_simp
      try simp only [Act.put, pu1, pu2, pu3]
      refine wpAnyU_pure (i := 4) (d := (some 14)) (v := ?_) rfl rfl (by kernel_rfl) (fun _ _ _ h => h) hSu.out (Or.inl ⟨by rfl, fun w' _ => yu_value ?_⟩) ?_
      rotate_left
      · (go_simp; (try exact rfl))
      try simp only [Act.put, pu1, pu2, pu3]
      refine wpAnyU_pure (i := 5) (d := (some 15)) (v := ?_) rfl rfl (by kernel_rfl) (fun _ _ _ h => h) hSu.out (Or.inl ⟨by rfl, fun w' _ => yu_value ?_⟩) ?_
      rotate_left
      · (go_simp; (try exact rfl))
      try simp only [Act.put, pu1, pu2, pu3]
      refine wpAnyU_pure (i := 6) (d := (some 16)) (v := undef) rfl rfl (by kernel_rfl) (fun _ _ _ h => h) hSu.out (Or.inr ⟨by rfl, rfl⟩) ?_
      try simp only [Act.put, pu1, pu2, pu3]
      refine wpAnyU_pure (i := 7) (d := (some 17)) (v := undef) rfl rfl (by kernel_rfl) (fun _ _ _ h => h) hSu.out (Or.inr ⟨by rfl, rfl⟩) ?_
      try simp only [Act.put, pu1, pu2, pu3]
      refine wpAnyU_pure (i := 8) (d := (some 18)) (v := undef) rfl rfl (by kernel_rfl) (fun _ _ _ h => h) hSu.out (Or.inr ⟨by rfl, rfl⟩) ?_
      try simp only [Act.put, pu1, pu2, pu3]
      refine wpAnyU_pure (i := 9) (d := (some 19)) (v := undef) rfl rfl (by kernel_rfl) (fun _ _ _ h => h) hSu.out (Or.inr ⟨by rfl, rfl⟩) ?_
      try simp only [Act.put, pu1, pu2, pu3]
      refine wpAnyU_pure (i := 10) (d := (some 20)) (v := undef) rfl rfl (by kernel_rfl) (fun _ _ _ h => h) hSu.out (Or.inr ⟨by rfl, rfl⟩) ?_
      try simp only [Act.put, pu1, pu2, pu3]
      refine wpAnyU_pure (i := 11) (d := (some 21)) (v := ?_) rfl rfl (by kernel_rfl) (fun _ _ _ h => h) hSu.out (Or.inl ⟨by rfl, fun w' _ => yu_value ?_⟩) ?_
      rotate_left
      · (go_simp; (try exact rfl))
      try simp only [Act.put, pu1, pu2, pu3]
      refine wpAnyU_done (by kernel_rfl) (fun wE huE => ?_) _
      have ⟨hS1, hS2, hS3, hS4, hSB⟩ := hSu.out _ _ hSS huE
      clear huE hSS
      go_wp2_with (first | ((with_reducible apply ld_rowP undW infoW); exact rfl; exact rfl; focus (repeat (first | assumption | ((with_reducible apply row_newc); (focus (first | rfl | (simp; done)))) | ((with_reducible apply row_newz); (focus (first | rfl | (simp; done)))) | (with_reducible apply row_same) | ((with_reducible apply row_else); (focus (first | (simp; done) | (simp; omega) | omega))) | (with_reducible apply row_alloc) | (with_reducible apply row_drew) | (with_reducible apply row_drewN) | ((with_reducible apply row_up); assumption)))) | ((with_reducible apply st_rowP infoW); exact rfl; exact rfl; focus (repeat (first | assumption | ((with_reducible apply row_newc); (focus (first | rfl | (simp; done)))) | ((with_reducible apply row_newz); (focus (first | rfl | (simp; done)))) | (with_reducible apply row_same) | ((with_reducible apply row_else); (focus (first | (simp; done) | (simp; omega) | omega))) | (with_reducible apply row_alloc) | (with_reducible apply row_drew) | (with_reducible apply row_drewN) | ((with_reducible apply row_up); assumption)))) | ((with_reducible apply st_rowZ infoW); exact rfl; exact rfl; focus (repeat (first | assumption | ((with_reducible apply row_newc); (focus (first | rfl | (simp; done)))) | ((with_reducible apply row_newz); (focus (first | rfl | (simp; done)))) | (with_reducible apply row_same) | ((with_reducible apply row_else); (focus (first | (simp; done) | (simp; omega) | omega))) | (with_reducible apply row_alloc) | (with_reducible apply row_drew) | (with_reducible apply row_drewN) | ((with_reducible apply row_up); assumption)))))
      exact bodyPost_ret (res2 rfl undW infoW _ _ rfl (by (repeat (first | assumption | ((with_reducible apply row_newc); (focus (first | rfl | (simp; done)))) | ((with_reducible apply row_newz); (focus (first | rfl | (simp; done)))) | (with_reducible apply row_same) | ((with_reducible apply row_else); (focus (first | (simp; done) | (simp; omega) | omega))) | (with_reducible apply row_alloc) | (with_reducible apply row_drew) | (with_reducible apply row_drewN) | ((with_reducible apply row_up); assumption))))) rfl ⟨rfl, (by repeat (first | assumption | (with_reducible apply Up.of) | (with_reducible exact Below.refl _ _) | (with_reducible exact Up.refl _) | ((with_reducible apply bl_setRow); (focus (first | exact Nat.le_refl _ | (simp; done) | (simp; omega) | omega))) | (with_reducible apply below_drewN) | (with_reducible apply Below.drew) | ((with_reducible apply bl_alloc); (focus (first | exact Nat.le_refl _ | (simp; done) | (simp; omega) | omega))) | ((with_reducible apply bl_setCell); (focus (first | exact Nat.le_refl _ | (simp; done) | (simp; omega) | omega))) | ((with_reducible apply up_tr); assumption)))⟩
    · have hd2 : decide (b < 0) = false := by simpa using b0
      rw [hd2] at HB
      have hk := hk1 (by simp [a0, b0])
      by_cases hs : hb ≤ enc (a + b)
      · have hd3 : decide (hb ≤ enc (a + b)) = true := by simpa using hs
        rw [hd3] at HM hk
        rw [opt_no fun h => by simpa using hk.2 h]
        clear hk1 hk2 hk hs hd hd2 hd3 a0 b0
        unfold wideV at *
        go_enter Tryz.func114, Tryz.ntmps114
        go_wp2_with (first | ((with_reducible apply ld_rowP undW infoW); exact rfl; exact rfl; focus (repeat (first | assumption | ((with_reducible apply row_newc); (focus (first | rfl | (simp; done)))) | ((with_reducible apply row_newz); (focus (first | rfl | (simp; done)))) | (with_reducible apply row_same) | ((with_reducible apply row_else); (focus (first | (simp; done) | (simp; omega) | omega))) | (with_reducible apply row_alloc) | (with_reducible apply row_drew) | (with_reducible apply row_drewN) | ((with_reducible apply row_up); assumption)))) | ((with_reducible apply st_rowP infoW); exact rfl; exact rfl; focus (repeat (first | assumption | ((with_reducible apply row_newc); (focus (first | rfl | (simp; done)))) | ((with_reducible apply row_newz); (focus (first | rfl | (simp; done)))) | (with_reducible apply row_same) | ((with_reducible apply row_else); (focus (first | (simp; done) | (simp; omega) | omega))) | (with_reducible apply row_alloc) | (with_reducible apply row_drew) | (with_reducible apply row_drewN) | ((with_reducible apply row_up); assumption)))) | ((with_reducible apply st_rowZ infoW); exact rfl; exact rfl; focus (repeat (first | assumption | ((with_reducible apply row_newc); (focus (first | rfl | (simp; done)))) | ((with_reducible apply row_newz); (focus (first | rfl | (simp; done)))) | (with_reducible apply row_same) | ((with_reducible apply row_else); (focus (first | (simp; done) | (simp; omega) | omega))) | (with_reducible apply row_alloc) | (with_reducible apply row_drew) | (with_reducible apply row_drewN) | ((with_reducible apply row_up); assumption)))) | (go_at_call 136; refine (HP.out _).mono ?_; rintro e w' ⟨rfl, hu⟩; have hsz := hu.size; simp at hsz))
        refine wp_region_upH (S := (fun wq => Row wq w.heap.size 33 16 (limb (enc a)) ∧ Row wq (w.heap.size + 1) 33 16 (limb (enc b)) ∧ Row wq (w.heap.size + 1 + 1) 33 16 (fun _ => 0) ∧ Row wq w'.heap.size 33 16 (limb (enc (a + b))) ∧ Below w.heap.size w wq)) (req := (fun _ => true)) (by kernel_rfl) (fun _ _ h hu => ⟨(h.1).up hu, (h.2.1).up hu, (h.2.2.1).up hu, (h.2.2.2.1).up hu, below_up (h.2.2.2.2) hu⟩) ⟨(by (repeat (first | assumption | ((with_reducible apply row_newc); (focus (first | rfl | (simp; done)))) | ((with_reducible apply row_newz); (focus (first | rfl | (simp; done)))) | (with_reducible apply row_same) | ((with_reducible apply row_else); (focus (first | (simp; done) | (simp; omega) | omega))) | (with_reducible apply row_alloc) | (with_reducible apply row_drew) | (with_reducible apply row_drewN) | ((with_reducible apply row_up); assumption)))), (by (repeat (first | assumption | ((with_reducible apply row_newc); (focus (first | rfl | (simp; done)))) | ((with_reducible apply row_newz); (focus (first | rfl | (simp; done)))) | (with_reducible apply row_same) | ((with_reducible apply row_else); (focus (first | (simp; done) | (simp; omega) | omega))) | (with_reducible apply row_alloc) | (with_reducible apply row_drew) | (with_reducible apply row_drewN) | ((with_reducible apply row_up); assumption)))), (by (repeat (first | assumption | ((with_reducible apply row_newc); (focus (first | rfl | (simp; done)))) | ((with_reducible apply row_newz); (focus (first | rfl | (simp; done)))) | (with_reducible apply row_same) | ((with_reducible apply row_else); (focus (first | (simp; done) | (simp; omega) | omega))) | (with_reducible apply row_alloc) | (with_reducible apply row_drew) | (with_reducible apply row_drewN) | ((with_reducible apply row_up); assumption)))), (by (repeat (first | assumption | ((with_reducible apply row_newc); (focus (first | rfl | (simp; done)))) | ((with_reducible apply row_newz); (focus (first | rfl | (simp; done)))) | (with_reducible apply row_same) | ((with_reducible apply row_else); (focus (first | (simp; done) | (simp; omega) | omega))) | (with_reducible apply row_alloc) | (with_reducible apply row_drew) | (with_reducible apply row_drewN) | ((with_reducible apply row_up); assumption)))), (by repeat (first | assumption | (with_reducible apply Up.of) | (with_reducible exact Below.refl _ _) | (with_reducible exact Up.refl _) | ((with_reducible apply bl_setRow); (focus (first | exact Nat.le_refl _ | (simp; done) | (simp; omega) | omega))) | (with_reducible apply below_drewN) | (with_reducible apply Below.drew) | ((with_reducible apply bl_alloc); (focus (first | exact Nat.le_refl _ | (simp; done) | (simp; omega) | omega))) | ((with_reducible apply bl_setCell); (focus (first | exact Nat.le_refl _ | (simp; done) | (simp; omega) | omega))) | ((with_reducible apply up_tr); assumption)))⟩ (fun wS hSS hSu => ?_)
        have ⟨hS1, hS2, hS3, hS4, hSB⟩ := hSS
        clear hu
        refine wpAnyU_take (i := 0) (d := (some 10)) (v := _) rfl rfl (by kernel_rfl) (fun _ _ _ h => h) hSu.out hSS (Or.inl ⟨by rfl, fun w' hSw => yu_value (run_ld undW infoW _ rfl _ rfl hSw.1)⟩) ?_
        try simp only [Act.put, pu1, pu2, pu3]
        refine wpAnyU_take (i := 1) (d := (some 11)) (v := _) rfl rfl (by kernel_rfl) (fun _ _ _ h => h) hSu.out hSS (Or.inl ⟨by rfl, fun w' hSw => yu_call ?_ (HA.out _)⟩) ?_
        · go_simp
        try simp only [Act.put, pu1, pu2, pu3]
        refine wpAnyU_take (i := 2) (d := (some 12)) (v := _) rfl rfl (by kernel_rfl) (fun _ _ _ h => h) hSu.out hSS (Or.inl ⟨by rfl, fun w' hSw => yu_value (run_ld undW infoW _ rfl _ rfl hSw.2.1)⟩) ?_
        try simp only [Act.put, pu1, pu2, pu3]
        refine wpAnyU_take (i := 3) (d := (some 13)) (v := _) rfl rfl (by kernel_rfl) (fun _ _ _ h => h) hSu.out hSS (Or.inl ⟨by rfl, fun w' hSw => yu_call ?_ (HB.out _)⟩) ?_
        · go_simp
        try simp only [Act.put, pu1, pu2, pu3]
        refine wpAnyU_pure (i := 4) (d := (some 14)) (v := ?_) rfl rfl (by kernel_rfl) (fun _ _ _ h => h) hSu.out (Or.inl ⟨by rfl, fun w' _ => yu_value ?_⟩) ?_
        rotate_left
        · (go_simp; (try exact rfl))
        try simp only [Act.put, pu1, pu2, pu3]
        refine wpAnyU_pure (i := 5) (d := (some 15)) (v := ?_) rfl rfl (by kernel_rfl) (fun _ _ _ h => h) hSu.out (Or.inl ⟨by rfl, fun w' _ => yu_value ?_⟩) ?_
        rotate_left
        · (go_simp; (try exact rfl))
        try simp only [Act.put, pu1, pu2, pu3]
        refine wpAnyU_take (i := 6) (d := (some 16)) (v := _) rfl rfl (by kernel_rfl) (fun _ _ _ h => h) hSu.out hSS (Or.inl ⟨by rfl, fun w' hSw => yu_value (run_ld undW infoW _ rfl _ rfl hSw.2.2.2.1)⟩) ?_
        try simp only [Act.put, pu1, pu2, pu3]
        refine wpAnyU_take (i := 7) (d := (some 17)) (v := _) rfl rfl (by kernel_rfl) (fun _ _ _ h => h) hSu.out hSS (Or.inl ⟨by rfl, fun w' hSw => yu_call ?_ (HM.out _)⟩) ?_
        · go_simp
        try simp only [Act.put, pu1, pu2, pu3]
        refine wpAnyU_take (i := 8) (d := (some 18)) (v := _) rfl rfl (by kernel_rfl) (fun _ _ _ h => h) hSu.out hSS (Or.inl ⟨by rfl, fun w' hSw => yu_value (run_ld undW infoW _ rfl _ rfl hSw.1)⟩) ?_
        try simp only [Act.put, pu1, pu2, pu3]
        refine wpAnyU_take (i := 9) (d := (some 19)) (v := _) rfl rfl (by kernel_rfl) (fun _ _ _ h => h) hSu.out hSS (Or.inl ⟨by rfl, fun w' hSw => yu_call ?_ (HA.out _)⟩) ?_
        · go_simp
        try simp only [Act.put, pu1, pu2, pu3]
        refine wpAnyU_pure (i := 10) (d := (some 20)) (v := ?_) rfl rfl (by kernel_rfl) (fun _ _ _ h => h) hSu.out (Or.inl ⟨by rfl, fun w' _ => yu_value ?_⟩) ?_
        rotate_left
        · (go_simp; (try exact rfl))
        try simp only [Act.put, pu1, pu2, pu3]
        refine wpAnyU_pure (i := 11) (d := (some 21)) (v := ?_) rfl rfl (by kernel_rfl) (fun _ _ _ h => h) hSu.out (Or.inl ⟨by rfl, fun w' _ => yu_value ?_⟩) ?_
        rotate_left
        · (go_simp; (try exact rfl))
        try simp only [Act.put, pu1, pu2, pu3]
        refine wpAnyU_done (by kernel_rfl) (fun wE huE => ?_) _
        have ⟨hS1, hS2, hS3, hS4, hSB⟩ := hSu.out _ _ hSS huE
        clear huE hSS
        go_wp2_with (first | ((with_reducible apply ld_rowP undW infoW); exact rfl; exact rfl; focus (repeat (first | assumption | ((with_reducible apply row_newc); (focus (first | rfl | (simp; done)))) | ((with_reducible apply row_newz); (focus (first | rfl | (simp; done)))) | (with_reducible apply row_same) | ((with_reducible apply row_else); (focus (first | (simp; done) | (simp; omega) | omega))) | (with_reducible apply row_alloc) | (with_reducible apply row_drew) | (with_reducible apply row_drewN) | ((with_reducible apply row_up); assumption)))) | ((with_reducible apply st_rowP infoW); exact rfl; exact rfl; focus (repeat (first | assumption | ((with_reducible apply row_newc); (focus (first | rfl | (simp; done)))) | ((with_reducible apply row_newz); (focus (first | rfl | (simp; done)))) | (with_reducible apply row_same) | ((with_reducible apply row_else); (focus (first | (simp; done) | (simp; omega) | omega))) | (with_reducible apply row_alloc) | (with_reducible apply row_drew) | (with_reducible apply row_drewN) | ((with_reducible apply row_up); assumption)))) | ((with_reducible apply st_rowZ infoW); exact rfl; exact rfl; focus (repeat (first | assumption | ((with_reducible apply row_newc); (focus (first | rfl | (simp; done)))) | ((with_reducible apply row_newz); (focus (first | rfl | (simp; done)))) | (with_reducible apply row_same) | ((with_reducible apply row_else); (focus (first | (simp; done) | (simp; omega) | omega))) | (with_reducible apply row_alloc) | (with_reducible apply row_drew) | (with_reducible apply row_drewN) | ((with_reducible apply row_up); assumption)))))
        exact bodyPost_ret (res2 rfl undW infoW _ _ rfl (by (repeat (first | assumption | ((with_reducible apply row_newc); (focus (first | rfl | (simp; done)))) | ((with_reducible apply row_newz); (focus (first | rfl | (simp; done)))) | (with_reducible apply row_same) | ((with_reducible apply row_else); (focus (first | (simp; done) | (simp; omega) | omega))) | (with_reducible apply row_alloc) | (with_reducible apply row_drew) | (with_reducible apply row_drewN) | ((with_reducible apply row_up); assumption))))) rfl ⟨rfl, (by repeat (first | assumption | (with_reducible apply Up.of) | (with_reducible exact Below.refl _ _) | (with_reducible exact Up.refl _) | ((with_reducible apply bl_setRow); (focus (first | exact Nat.le_refl _ | (simp; done) | (simp; omega) | omega))) | (with_reducible apply below_drewN) | (with_reducible apply Below.drew) | ((with_reducible apply bl_alloc); (focus (first | exact Nat.le_refl _ | (simp; done) | (simp; omega) | omega))) | ((with_reducible apply bl_setCell); (focus (first | exact Nat.le_refl _ | (simp; done) | (simp; omega) | omega))) | ((with_reducible apply up_tr); assumption)))⟩
      · have hd3 : decide (hb ≤ enc (a + b)) = false := by simpa using hs
        rw [hd3] at HM hk
        rw [opt_yes (hk.1 rfl)]
        clear hk1 hk2 hk hs hd hd2 hd3 a0 b0
        unfold wideV at *
        go_enter Tryz.func114, Tryz.ntmps114
        go_wp2_with (first | ((with_reducible apply ld_rowP undW infoW); exact rfl; exact rfl; focus (repeat (first | assumption | ((with_reducible apply row_newc); (focus (first | rfl | (simp; done)))) | ((with_reducible apply row_newz); (focus (first | rfl | (simp; done)))) | (with_reducible apply row_same) | ((with_reducible apply row_else); (focus (first | (simp; done) | (simp; omega) | omega))) | (with_reducible apply row_alloc) | (with_reducible apply row_drew) | (with_reducible apply row_drewN) | ((with_reducible apply row_up); assumption)))) | ((with_reducible apply st_rowP infoW); exact rfl; exact rfl; focus (repeat (first | assumption | ((with_reducible apply row_newc); (focus (first | rfl | (simp; done)))) | ((with_reducible apply row_newz); (focus (first | rfl | (simp; done)))) | (with_reducible apply row_same) | ((with_reducible apply row_else); (focus (first | (simp; done) | (simp; omega) | omega))) | (with_reducible apply row_alloc) | (with_reducible apply row_drew) | (with_reducible apply row_drewN) | ((with_reducible apply row_up); assumption)))) | ((with_reducible apply st_rowZ infoW); exact rfl; exact rfl; focus (repeat (first | assumption | ((with_reducible apply row_newc); (focus (first | rfl | (simp; done)))) | ((with_reducible apply row_newz); (focus (first | rfl | (simp; done)))) | (with_reducible apply row_same) | ((with_reducible apply row_else); (focus (first | (simp; done) | (simp; omega) | omega))) | (with_reducible apply row_alloc) | (with_reducible apply row_drew) | (with_reducible apply row_drewN) | ((with_reducible apply row_up); assumption)))) | (go_at_call 136; refine (HP.out _).mono ?_; rintro e w' ⟨rfl, hu⟩; have hsz := hu.size; simp at hsz))
        refine wp_region_upH (S := (fun wq => Row wq w.heap.size 33 16 (limb (enc a)) ∧ Row wq (w.heap.size + 1) 33 16 (limb (enc b)) ∧ Row wq (w.heap.size + 1 + 1) 33 16 (fun _ => 0) ∧ Row wq w'.heap.size 33 16 (limb (enc (a + b))) ∧ Below w.heap.size w wq)) (req := (fun _ => true)) (by kernel_rfl) (fun _ _ h hu => ⟨(h.1).up hu, (h.2.1).up hu, (h.2.2.1).up hu, (h.2.2.2.1).up hu, below_up (h.2.2.2.2) hu⟩) ⟨(by (repeat (first | assumption | ((with_reducible apply row_newc); (focus (first | rfl | (simp; done)))) | ((with_reducible apply row_newz); (focus (first | rfl | (simp; done)))) | (with_reducible apply row_same) | ((with_reducible apply row_else); (focus (first | (simp; done) | (simp; omega) | omega))) | (with_reducible apply row_alloc) | (with_reducible apply row_drew) | (with_reducible apply row_drewN) | ((with_reducible apply row_up); assumption)))), (by (repeat (first | assumption | ((with_reducible apply row_newc); (focus (first | rfl | (simp; done)))) | ((with_reducible apply row_newz); (focus (first | rfl | (simp; done)))) | (with_reducible apply row_same) | ((with_reducible apply row_else); (focus (first | (simp; done) | (simp; omega) | omega))) | (with_reducible apply row_alloc) | (with_reducible apply row_drew) | (with_reducible apply row_drewN) | ((with_reducible apply row_up); assumption)))), (by (repeat (first | assumption | ((with_reducible apply row_newc); (focus (first | rfl | (simp; done)))) | ((with_reducible apply row_newz); (focus (first | rfl | (simp; done)))) | (with_reducible apply row_same) | ((with_reducible apply row_else); (focus (first | (simp; done) | (simp; omega) | omega))) | (with_reducible apply row_alloc) | (with_reducible apply row_drew) | (with_reducible apply row_drewN) | ((with_reducible apply row_up); assumption)))), (by (repeat (first | assumption | ((with_reducible apply row_newc); (focus (first | rfl | (simp; done)))) | ((with_reducible apply row_newz); (focus (first | rfl | (simp; done)))) | (with_reducible apply row_same) | ((with_reducible apply row_else); (focus (first | (simp; done) | (simp; omega) | omega))) | (with_reducible apply row_alloc) | (with_reducible apply row_drew) | (with_reducible apply row_drewN) | ((with_reducible apply row_up); assumption)))), (by repeat (first | assumption | (with_reducible apply Up.of) | (with_reducible exact Below.refl _ _) | (with_reducible exact Up.refl _) | ((with_reducible apply bl_setRow); (focus (first | exact Nat.le_refl _ | (simp; done) | (simp; omega) | omega))) | (with_reducible apply below_drewN) | (with_reducible apply Below.drew) | ((with_reducible apply bl_alloc); (focus (first | exact Nat.le_refl _ | (simp; done) | (simp; omega) | omega))) | ((with_reducible apply bl_setCell); (focus (first | exact Nat.le_refl _ | (simp; done) | (simp; omega) | omega))) | ((with_reducible apply up_tr); assumption)))⟩ (fun wS hSS hSu => ?_)
        have ⟨hS1, hS2, hS3, hS4, hSB⟩ := hSS
        clear hu
        refine wpAnyU_take (i := 0) (d := (some 10)) (v := _) rfl rfl (by kernel_rfl) (fun _ _ _ h => h) hSu.out hSS (Or.inl ⟨by rfl, fun w' hSw => yu_value (run_ld undW infoW _ rfl _ rfl hSw.1)⟩) ?_
        try simp only [Act.put, pu1, pu2, pu3]
        refine wpAnyU_take (i := 1) (d := (some 11)) (v := _) rfl rfl (by kernel_rfl) (fun _ _ _ h => h) hSu.out hSS (Or.inl ⟨by rfl, fun w' hSw => yu_call ?_ (HA.out _)⟩) ?_
        · go_simp
        try simp only [Act.put, pu1, pu2, pu3]
        refine wpAnyU_take (i := 2) (d := (some 12)) (v := _) rfl rfl (by kernel_rfl) (fun _ _ _ h => h) hSu.out hSS (Or.inl ⟨by rfl, fun w' hSw => yu_value (run_ld undW infoW _ rfl _ rfl hSw.2.1)⟩) ?_
        try simp only [Act.put, pu1, pu2, pu3]
        refine wpAnyU_take (i := 3) (d := (some 13)) (v := _) rfl rfl (by kernel_rfl) (fun _ _ _ h => h) hSu.out hSS (Or.inl ⟨by rfl, fun w' hSw => yu_call ?_ (HB.out _)⟩) ?_
        · go_simp
        try simp only [Act.put, pu1, pu2, pu3]
        refine wpAnyU_pure (i := 4) (d := (some 14)) (v := ?_) rfl rfl (by kernel_rfl) (fun _ _ _ h => h) hSu.out (Or.inl ⟨by rfl, fun w' _ => yu_value ?_⟩) ?_
        rotate_left
        · (go_simp; (try exact rfl))
        try simp only [Act.put, pu1, pu2, pu3]
        refine wpAnyU_pure (i := 5) (d := (some 15)) (v := ?_) rfl rfl (by kernel_rfl) (fun _ _ _ h => h) hSu.out (Or.inl ⟨by rfl, fun w' _ => yu_value ?_⟩) ?_
        rotate_left
        · (go_simp; (try exact rfl))
        try simp only [Act.put, pu1, pu2, pu3]
        refine wpAnyU_take (i := 6) (d := (some 16)) (v := _) rfl rfl (by kernel_rfl) (fun _ _ _ h => h) hSu.out hSS (Or.inl ⟨by rfl, fun w' hSw => yu_value (run_ld undW infoW _ rfl _ rfl hSw.2.2.2.1)⟩) ?_
        try simp only [Act.put, pu1, pu2, pu3]
        refine wpAnyU_take (i := 7) (d := (some 17)) (v := _) rfl rfl (by kernel_rfl) (fun _ _ _ h => h) hSu.out hSS (Or.inl ⟨by rfl, fun w' hSw => yu_call ?_ (HM.out _)⟩) ?_
        · go_simp
        try simp only [Act.put, pu1, pu2, pu3]
        refine wpAnyU_take (i := 8) (d := (some 18)) (v := _) rfl rfl (by kernel_rfl) (fun _ _ _ h => h) hSu.out hSS (Or.inl ⟨by rfl, fun w' hSw => yu_value (run_ld undW infoW _ rfl _ rfl hSw.1)⟩) ?_
        try simp only [Act.put, pu1, pu2, pu3]
        refine wpAnyU_take (i := 9) (d := (some 19)) (v := _) rfl rfl (by kernel_rfl) (fun _ _ _ h => h) hSu.out hSS (Or.inl ⟨by rfl, fun w' hSw => yu_call ?_ (HA.out _)⟩) ?_
        · go_simp
        try simp only [Act.put, pu1, pu2, pu3]
        refine wpAnyU_pure (i := 10) (d := (some 20)) (v := ?_) rfl rfl (by kernel_rfl) (fun _ _ _ h => h) hSu.out (Or.inl ⟨by rfl, fun w' _ => yu_value ?_⟩) ?_
        rotate_left
        · (go_simp; (try exact rfl))
        try simp only [Act.put, pu1, pu2, pu3]
        refine wpAnyU_pure (i := 11) (d := (some 21)) (v := ?_) rfl rfl (by kernel_rfl) (fun _ _ _ h => h) hSu.out (Or.inl ⟨by rfl, fun w' _ => yu_value ?_⟩) ?_
        rotate_left
        · (go_simp; (try exact rfl))
        try simp only [Act.put, pu1, pu2, pu3]
        refine wpAnyU_done (by kernel_rfl) (fun wE huE => ?_) _
        have ⟨hS1, hS2, hS3, hS4, hSB⟩ := hSu.out _ _ hSS huE
        clear huE hSS
        go_wp2_with (first | ((with_reducible apply ld_rowP undW infoW); exact rfl; exact rfl; focus (repeat (first | assumption | ((with_reducible apply row_newc); (focus (first | rfl | (simp; done)))) | ((with_reducible apply row_newz); (focus (first | rfl | (simp; done)))) | (with_reducible apply row_same) | ((with_reducible apply row_else); (focus (first | (simp; done) | (simp; omega) | omega))) | (with_reducible apply row_alloc) | (with_reducible apply row_drew) | (with_reducible apply row_drewN) | ((with_reducible apply row_up); assumption)))) | ((with_reducible apply st_rowP infoW); exact rfl; exact rfl; focus (repeat (first | assumption | ((with_reducible apply row_newc); (focus (first | rfl | (simp; done)))) | ((with_reducible apply row_newz); (focus (first | rfl | (simp; done)))) | (with_reducible apply row_same) | ((with_reducible apply row_else); (focus (first | (simp; done) | (simp; omega) | omega))) | (with_reducible apply row_alloc) | (with_reducible apply row_drew) | (with_reducible apply row_drewN) | ((with_reducible apply row_up); assumption)))) | ((with_reducible apply st_rowZ infoW); exact rfl; exact rfl; focus (repeat (first | assumption | ((with_reducible apply row_newc); (focus (first | rfl | (simp; done)))) | ((with_reducible apply row_newz); (focus (first | rfl | (simp; done)))) | (with_reducible apply row_same) | ((with_reducible apply row_else); (focus (first | (simp; done) | (simp; omega) | omega))) | (with_reducible apply row_alloc) | (with_reducible apply row_drew) | (with_reducible apply row_drewN) | ((with_reducible apply row_up); assumption)))))
        exact bodyPost_ret (res2 rfl undW infoW _ _ rfl (by (repeat (first | assumption | ((with_reducible apply row_newc); (focus (first | rfl | (simp; done)))) | ((with_reducible apply row_newz); (focus (first | rfl | (simp; done)))) | (with_reducible apply row_same) | ((with_reducible apply row_else); (focus (first | (simp; done) | (simp; omega) | omega))) | (with_reducible apply row_alloc) | (with_reducible apply row_drew) | (with_reducible apply row_drewN) | ((with_reducible apply row_up); assumption))))) rfl ⟨rfl, (by repeat (first | assumption | (with_reducible apply Up.of) | (with_reducible exact Below.refl _ _) | (with_reducible exact Up.refl _) | ((with_reducible apply bl_setRow); (focus (first | exact Nat.le_refl _ | (simp; done) | (simp; omega) | omega))) | (with_reducible apply below_drewN) | (with_reducible apply Below.drew) | ((with_reducible apply bl_alloc); (focus (first | exact Nat.le_refl _ | (simp; done) | (simp; omega) | omega))) | ((with_reducible apply bl_setCell); (focus (first | exact Nat.le_refl _ | (simp; done) | (simp; omega) | omega))) | ((with_reducible apply up_tr); assumption)))⟩
theorem less_ok {a b : Int} (ha : InR a) (hb' : InR b) : ((a < 0 ↔ ¬ b < 0) → ((decide (hb ≤ enc (a - b)) = decide (a < 0)) ↔ InR (a - b))) ∧ (¬ (a < 0 ↔ ¬ b < 0) → InR (a - b)) := by
  have h1 := ha.out
  have h2 := hb'.out
  have h3 := bp16
  have h4 := hb_pos
  constructor
  · intro h
    by_cases a0 : a < 0
    · have e : enc (a - b) = if a - b = -(bp 16 : Int) then 0 else (a - b + bp 16).toNat := by
        unfold enc
        split
        · rename_i e; rw [e, Int.neg_emod_self]; rfl
        · rw [← Int.add_emod_right, Int.emod_eq_of_lt (by omega) (by omega)]
      rw [e, decide_eq_true a0, decide_eq_true_iff]
      constructor
      · intro h5
        refine InR.mk' ?_
        split at h5 <;> omega
      · intro h5
        have := h5.out
        split <;> omega
    · have e : enc (a - b) = (a - b).toNat := by
        unfold enc
        rw [Int.emod_eq_of_lt (by omega) (by omega)]
      rw [e, decide_eq_false a0, decide_eq_false_iff_not]
      constructor
      · intro h5; exact InR.mk' (by omega)
      · intro h5; have := h5.out; omega
  · intro h
    exact InR.mk' (by omega)
set_option maxHeartbeats 1000000 in
theorem sub_z {a b : Int} (ha : InR a) (hb' : InR b) (w : World) :
    Calls Tryz.prog 120 #[wideV (enc a), wideV (enc b)] w fun e w' => e = .returned (opt (a - b)) ∧ Up w w' := by
  have HA := hid (fun w => minus_z ha w)
  have HB := hid (fun w => minus_z hb' w)
  have HM := hid (fun w => minus_e (a - b) w)
  have HP := hid (fun w => less_z a b w)
  obtain ⟨hk1, hk2⟩ := less_ok ha hb'
  by_cases a0 : a < 0
  · have hd : decide (a < 0) = true := by simpa using a0
    rw [hd] at HA hk1
    by_cases b0 : b < 0
    · have hd2 : decide (b < 0) = true := by simpa using b0
      rw [hd2] at HB
      rw [opt_yes (hk2 (by simp [a0, b0]))]
      clear hk1 hk2 hd hd2 a0 b0
      unfold wideV at *
      go_enter Tryz.func120, Tryz.ntmps120
      go_wp2_with (first | ((with_reducible apply ld_rowP undW infoW); exact rfl; exact rfl; focus (repeat (first | assumption | ((with_reducible apply row_newc); (focus (first | rfl | (simp; done)))) | ((with_reducible apply row_newz); (focus (first | rfl | (simp; done)))) | (with_reducible apply row_same) | ((with_reducible apply row_else); (focus (first | (simp; done) | (simp; omega) | omega))) | (with_reducible apply row_alloc) | (with_reducible apply row_drew) | (with_reducible apply row_drewN) | ((with_reducible apply row_up); assumption)))) | ((with_reducible apply st_rowP infoW); exact rfl; exact rfl; focus (repeat (first | assumption | ((with_reducible apply row_newc); (focus (first | rfl | (simp; done)))) | ((with_reducible apply row_newz); (focus (first | rfl | (simp; done)))) | (with_reducible apply row_same) | ((with_reducible apply row_else); (focus (first | (simp; done) | (simp; omega) | omega))) | (with_reducible apply row_alloc) | (with_reducible apply row_drew) | (with_reducible apply row_drewN) | ((with_reducible apply row_up); assumption)))) | ((with_reducible apply st_rowZ infoW); exact rfl; exact rfl; focus (repeat (first | assumption | ((with_reducible apply row_newc); (focus (first | rfl | (simp; done)))) | ((with_reducible apply row_newz); (focus (first | rfl | (simp; done)))) | (with_reducible apply row_same) | ((with_reducible apply row_else); (focus (first | (simp; done) | (simp; omega) | omega))) | (with_reducible apply row_alloc) | (with_reducible apply row_drew) | (with_reducible apply row_drewN) | ((with_reducible apply row_up); assumption)))) | (go_at_call 140; refine (HP.out _).mono ?_; rintro e w' ⟨rfl, hu⟩; have hsz := hu.size; simp at hsz))
      refine wp_region_upH (S := (fun wq => Row wq w.heap.size 33 16 (limb (enc a)) ∧ Row wq (w.heap.size + 1) 33 16 (limb (enc b)) ∧ Row wq (w.heap.size + 1 + 1) 33 16 (fun _ => 0) ∧ Row wq w'.heap.size 33 16 (limb (enc (a - b))) ∧ Below w.heap.size w wq)) (req := (fun _ => true)) (by kernel_rfl) (fun _ _ h hu => ⟨(h.1).up hu, (h.2.1).up hu, (h.2.2.1).up hu, (h.2.2.2.1).up hu, below_up (h.2.2.2.2) hu⟩) ⟨(by (repeat (first | assumption | ((with_reducible apply row_newc); (focus (first | rfl | (simp; done)))) | ((with_reducible apply row_newz); (focus (first | rfl | (simp; done)))) | (with_reducible apply row_same) | ((with_reducible apply row_else); (focus (first | (simp; done) | (simp; omega) | omega))) | (with_reducible apply row_alloc) | (with_reducible apply row_drew) | (with_reducible apply row_drewN) | ((with_reducible apply row_up); assumption)))), (by (repeat (first | assumption | ((with_reducible apply row_newc); (focus (first | rfl | (simp; done)))) | ((with_reducible apply row_newz); (focus (first | rfl | (simp; done)))) | (with_reducible apply row_same) | ((with_reducible apply row_else); (focus (first | (simp; done) | (simp; omega) | omega))) | (with_reducible apply row_alloc) | (with_reducible apply row_drew) | (with_reducible apply row_drewN) | ((with_reducible apply row_up); assumption)))), (by (repeat (first | assumption | ((with_reducible apply row_newc); (focus (first | rfl | (simp; done)))) | ((with_reducible apply row_newz); (focus (first | rfl | (simp; done)))) | (with_reducible apply row_same) | ((with_reducible apply row_else); (focus (first | (simp; done) | (simp; omega) | omega))) | (with_reducible apply row_alloc) | (with_reducible apply row_drew) | (with_reducible apply row_drewN) | ((with_reducible apply row_up); assumption)))), (by (repeat (first | assumption | ((with_reducible apply row_newc); (focus (first | rfl | (simp; done)))) | ((with_reducible apply row_newz); (focus (first | rfl | (simp; done)))) | (with_reducible apply row_same) | ((with_reducible apply row_else); (focus (first | (simp; done) | (simp; omega) | omega))) | (with_reducible apply row_alloc) | (with_reducible apply row_drew) | (with_reducible apply row_drewN) | ((with_reducible apply row_up); assumption)))), (by repeat (first | assumption | (with_reducible apply Up.of) | (with_reducible exact Below.refl _ _) | (with_reducible exact Up.refl _) | ((with_reducible apply bl_setRow); (focus (first | exact Nat.le_refl _ | (simp; done) | (simp; omega) | omega))) | (with_reducible apply below_drewN) | (with_reducible apply Below.drew) | ((with_reducible apply bl_alloc); (focus (first | exact Nat.le_refl _ | (simp; done) | (simp; omega) | omega))) | ((with_reducible apply bl_setCell); (focus (first | exact Nat.le_refl _ | (simp; done) | (simp; omega) | omega))) | ((with_reducible apply up_tr); assumption)))⟩ (fun wS hSS hSu => ?_)
      have ⟨hS1, hS2, hS3, hS4, hSB⟩ := hSS
      clear hu
      refine wpAnyU_take (i := 0) (d := (some 10)) (v := _) rfl rfl (by kernel_rfl) (fun _ _ _ h => h) hSu.out hSS (Or.inl ⟨by rfl, fun w' hSw => yu_value (run_ld undW infoW _ rfl _ rfl hSw.1)⟩) ?_
      try simp only [Act.put, pu1, pu2, pu3]
      refine wpAnyU_take (i := 1) (d := (some 11)) (v := _) rfl rfl (by kernel_rfl) (fun _ _ _ h => h) hSu.out hSS (Or.inl ⟨by rfl, fun w' hSw => yu_call ?_ (HA.out _)⟩) ?_
      · go_simp
      try simp only [Act.put, pu1, pu2, pu3]
      refine wpAnyU_take (i := 2) (d := (some 12)) (v := _) rfl rfl (by kernel_rfl) (fun _ _ _ h => h) hSu.out hSS (Or.inl ⟨by rfl, fun w' hSw => yu_value (run_ld undW infoW _ rfl _ rfl hSw.2.1)⟩) ?_
      try simp only [Act.put, pu1, pu2, pu3]
      refine wpAnyU_take (i := 3) (d := (some 13)) (v := _) rfl rfl (by kernel_rfl) (fun _ _ _ h => h) hSu.out hSS (Or.inl ⟨by rfl, fun w' hSw => yu_call ?_ (HB.out _)⟩) ?_
      · go_simp
      try simp only [Act.put, pu1, pu2, pu3]
      refine wpAnyU_pure (i := 4) (d := (some 14)) (v := ?_) rfl rfl (by kernel_rfl) (fun _ _ _ h => h) hSu.out (Or.inl ⟨by rfl, fun w' _ => yu_value ?_⟩) ?_
      rotate_left
      · (go_simp; (try exact rfl))
      try simp only [Act.put, pu1, pu2, pu3]
      refine wpAnyU_pure (i := 5) (d := (some 15)) (v := ?_) rfl rfl (by kernel_rfl) (fun _ _ _ h => h) hSu.out (Or.inl ⟨by rfl, fun w' _ => yu_value ?_⟩) ?_
      rotate_left
      · (go_simp; (try exact rfl))
      try simp only [Act.put, pu1, pu2, pu3]
      refine wpAnyU_pure (i := 6) (d := (some 16)) (v := undef) rfl rfl (by kernel_rfl) (fun _ _ _ h => h) hSu.out (Or.inr ⟨by rfl, rfl⟩) ?_
      try simp only [Act.put, pu1, pu2, pu3]
      refine wpAnyU_pure (i := 7) (d := (some 17)) (v := undef) rfl rfl (by kernel_rfl) (fun _ _ _ h => h) hSu.out (Or.inr ⟨by rfl, rfl⟩) ?_
      try simp only [Act.put, pu1, pu2, pu3]
      refine wpAnyU_pure (i := 8) (d := (some 18)) (v := undef) rfl rfl (by kernel_rfl) (fun _ _ _ h => h) hSu.out (Or.inr ⟨by rfl, rfl⟩) ?_
      try simp only [Act.put, pu1, pu2, pu3]
      refine wpAnyU_pure (i := 9) (d := (some 19)) (v := undef) rfl rfl (by kernel_rfl) (fun _ _ _ h => h) hSu.out (Or.inr ⟨by rfl, rfl⟩) ?_
      try simp only [Act.put, pu1, pu2, pu3]
      refine wpAnyU_pure (i := 10) (d := (some 20)) (v := undef) rfl rfl (by kernel_rfl) (fun _ _ _ h => h) hSu.out (Or.inr ⟨by rfl, rfl⟩) ?_
      try simp only [Act.put, pu1, pu2, pu3]
      refine wpAnyU_pure (i := 11) (d := (some 21)) (v := ?_) rfl rfl (by kernel_rfl) (fun _ _ _ h => h) hSu.out (Or.inl ⟨by rfl, fun w' _ => yu_value ?_⟩) ?_
      rotate_left
      · (go_simp; (try exact rfl))
      try simp only [Act.put, pu1, pu2, pu3]
      refine wpAnyU_done (by kernel_rfl) (fun wE huE => ?_) _
      have ⟨hS1, hS2, hS3, hS4, hSB⟩ := hSu.out _ _ hSS huE
      clear huE hSS
      go_wp2_with (first | ((with_reducible apply ld_rowP undW infoW); exact rfl; exact rfl; focus (repeat (first | assumption | ((with_reducible apply row_newc); (focus (first | rfl | (simp; done)))) | ((with_reducible apply row_newz); (focus (first | rfl | (simp; done)))) | (with_reducible apply row_same) | ((with_reducible apply row_else); (focus (first | (simp; done) | (simp; omega) | omega))) | (with_reducible apply row_alloc) | (with_reducible apply row_drew) | (with_reducible apply row_drewN) | ((with_reducible apply row_up); assumption)))) | ((with_reducible apply st_rowP infoW); exact rfl; exact rfl; focus (repeat (first | assumption | ((with_reducible apply row_newc); (focus (first | rfl | (simp; done)))) | ((with_reducible apply row_newz); (focus (first | rfl | (simp; done)))) | (with_reducible apply row_same) | ((with_reducible apply row_else); (focus (first | (simp; done) | (simp; omega) | omega))) | (with_reducible apply row_alloc) | (with_reducible apply row_drew) | (with_reducible apply row_drewN) | ((with_reducible apply row_up); assumption)))) | ((with_reducible apply st_rowZ infoW); exact rfl; exact rfl; focus (repeat (first | assumption | ((with_reducible apply row_newc); (focus (first | rfl | (simp; done)))) | ((with_reducible apply row_newz); (focus (first | rfl | (simp; done)))) | (with_reducible apply row_same) | ((with_reducible apply row_else); (focus (first | (simp; done) | (simp; omega) | omega))) | (with_reducible apply row_alloc) | (with_reducible apply row_drew) | (with_reducible apply row_drewN) | ((with_reducible apply row_up); assumption)))))
      exact bodyPost_ret (res2 rfl undW infoW _ _ rfl (by (repeat (first | assumption | ((with_reducible apply row_newc); (focus (first | rfl | (simp; done)))) | ((with_reducible apply row_newz); (focus (first | rfl | (simp; done)))) | (with_reducible apply row_same) | ((with_reducible apply row_else); (focus (first | (simp; done) | (simp; omega) | omega))) | (with_reducible apply row_alloc) | (with_reducible apply row_drew) | (with_reducible apply row_drewN) | ((with_reducible apply row_up); assumption))))) rfl ⟨rfl, (by repeat (first | assumption | (with_reducible apply Up.of) | (with_reducible exact Below.refl _ _) | (with_reducible exact Up.refl _) | ((with_reducible apply bl_setRow); (focus (first | exact Nat.le_refl _ | (simp; done) | (simp; omega) | omega))) | (with_reducible apply below_drewN) | (with_reducible apply Below.drew) | ((with_reducible apply bl_alloc); (focus (first | exact Nat.le_refl _ | (simp; done) | (simp; omega) | omega))) | ((with_reducible apply bl_setCell); (focus (first | exact Nat.le_refl _ | (simp; done) | (simp; omega) | omega))) | ((with_reducible apply up_tr); assumption)))⟩
    · have hd2 : decide (b < 0) = false := by simpa using b0
      rw [hd2] at HB
      have hk := hk1 (by simp [a0, b0])
      by_cases hs : hb ≤ enc (a - b)
      · have hd3 : decide (hb ≤ enc (a - b)) = true := by simpa using hs
        rw [hd3] at HM hk
        rw [opt_yes (hk.1 rfl)]
        clear hk1 hk2 hk hs hd hd2 hd3 a0 b0
        unfold wideV at *
        go_enter Tryz.func120, Tryz.ntmps120
        go_wp2_with (first | ((with_reducible apply ld_rowP undW infoW); exact rfl; exact rfl; focus (repeat (first | assumption | ((with_reducible apply row_newc); (focus (first | rfl | (simp; done)))) | ((with_reducible apply row_newz); (focus (first | rfl | (simp; done)))) | (with_reducible apply row_same) | ((with_reducible apply row_else); (focus (first | (simp; done) | (simp; omega) | omega))) | (with_reducible apply row_alloc) | (with_reducible apply row_drew) | (with_reducible apply row_drewN) | ((with_reducible apply row_up); assumption)))) | ((with_reducible apply st_rowP infoW); exact rfl; exact rfl; focus (repeat (first | assumption | ((with_reducible apply row_newc); (focus (first | rfl | (simp; done)))) | ((with_reducible apply row_newz); (focus (first | rfl | (simp; done)))) | (with_reducible apply row_same) | ((with_reducible apply row_else); (focus (first | (simp; done) | (simp; omega) | omega))) | (with_reducible apply row_alloc) | (with_reducible apply row_drew) | (with_reducible apply row_drewN) | ((with_reducible apply row_up); assumption)))) | ((with_reducible apply st_rowZ infoW); exact rfl; exact rfl; focus (repeat (first | assumption | ((with_reducible apply row_newc); (focus (first | rfl | (simp; done)))) | ((with_reducible apply row_newz); (focus (first | rfl | (simp; done)))) | (with_reducible apply row_same) | ((with_reducible apply row_else); (focus (first | (simp; done) | (simp; omega) | omega))) | (with_reducible apply row_alloc) | (with_reducible apply row_drew) | (with_reducible apply row_drewN) | ((with_reducible apply row_up); assumption)))) | (go_at_call 140; refine (HP.out _).mono ?_; rintro e w' ⟨rfl, hu⟩; have hsz := hu.size; simp at hsz))
        refine wp_region_upH (S := (fun wq => Row wq w.heap.size 33 16 (limb (enc a)) ∧ Row wq (w.heap.size + 1) 33 16 (limb (enc b)) ∧ Row wq (w.heap.size + 1 + 1) 33 16 (fun _ => 0) ∧ Row wq w'.heap.size 33 16 (limb (enc (a - b))) ∧ Below w.heap.size w wq)) (req := (fun _ => true)) (by kernel_rfl) (fun _ _ h hu => ⟨(h.1).up hu, (h.2.1).up hu, (h.2.2.1).up hu, (h.2.2.2.1).up hu, below_up (h.2.2.2.2) hu⟩) ⟨(by (repeat (first | assumption | ((with_reducible apply row_newc); (focus (first | rfl | (simp; done)))) | ((with_reducible apply row_newz); (focus (first | rfl | (simp; done)))) | (with_reducible apply row_same) | ((with_reducible apply row_else); (focus (first | (simp; done) | (simp; omega) | omega))) | (with_reducible apply row_alloc) | (with_reducible apply row_drew) | (with_reducible apply row_drewN) | ((with_reducible apply row_up); assumption)))), (by (repeat (first | assumption | ((with_reducible apply row_newc); (focus (first | rfl | (simp; done)))) | ((with_reducible apply row_newz); (focus (first | rfl | (simp; done)))) | (with_reducible apply row_same) | ((with_reducible apply row_else); (focus (first | (simp; done) | (simp; omega) | omega))) | (with_reducible apply row_alloc) | (with_reducible apply row_drew) | (with_reducible apply row_drewN) | ((with_reducible apply row_up); assumption)))), (by (repeat (first | assumption | ((with_reducible apply row_newc); (focus (first | rfl | (simp; done)))) | ((with_reducible apply row_newz); (focus (first | rfl | (simp; done)))) | (with_reducible apply row_same) | ((with_reducible apply row_else); (focus (first | (simp; done) | (simp; omega) | omega))) | (with_reducible apply row_alloc) | (with_reducible apply row_drew) | (with_reducible apply row_drewN) | ((with_reducible apply row_up); assumption)))), (by (repeat (first | assumption | ((with_reducible apply row_newc); (focus (first | rfl | (simp; done)))) | ((with_reducible apply row_newz); (focus (first | rfl | (simp; done)))) | (with_reducible apply row_same) | ((with_reducible apply row_else); (focus (first | (simp; done) | (simp; omega) | omega))) | (with_reducible apply row_alloc) | (with_reducible apply row_drew) | (with_reducible apply row_drewN) | ((with_reducible apply row_up); assumption)))), (by repeat (first | assumption | (with_reducible apply Up.of) | (with_reducible exact Below.refl _ _) | (with_reducible exact Up.refl _) | ((with_reducible apply bl_setRow); (focus (first | exact Nat.le_refl _ | (simp; done) | (simp; omega) | omega))) | (with_reducible apply below_drewN) | (with_reducible apply Below.drew) | ((with_reducible apply bl_alloc); (focus (first | exact Nat.le_refl _ | (simp; done) | (simp; omega) | omega))) | ((with_reducible apply bl_setCell); (focus (first | exact Nat.le_refl _ | (simp; done) | (simp; omega) | omega))) | ((with_reducible apply up_tr); assumption)))⟩ (fun wS hSS hSu => ?_)
        have ⟨hS1, hS2, hS3, hS4, hSB⟩ := hSS
        clear hu
        refine wpAnyU_take (i := 0) (d := (some 10)) (v := _) rfl rfl (by kernel_rfl) (fun _ _ _ h => h) hSu.out hSS (Or.inl ⟨by rfl, fun w' hSw => yu_value (run_ld undW infoW _ rfl _ rfl hSw.1)⟩) ?_
        try simp only [Act.put, pu1, pu2, pu3]
        refine wpAnyU_take (i := 1) (d := (some 11)) (v := _) rfl rfl (by kernel_rfl) (fun _ _ _ h => h) hSu.out hSS (Or.inl ⟨by rfl, fun w' hSw => yu_call ?_ (HA.out _)⟩) ?_
        · go_simp
        try simp only [Act.put, pu1, pu2, pu3]
        refine wpAnyU_take (i := 2) (d := (some 12)) (v := _) rfl rfl (by kernel_rfl) (fun _ _ _ h => h) hSu.out hSS (Or.inl ⟨by rfl, fun w' hSw => yu_value (run_ld undW infoW _ rfl _ rfl hSw.2.1)⟩) ?_
        try simp only [Act.put, pu1, pu2, pu3]
        refine wpAnyU_take (i := 3) (d := (some 13)) (v := _) rfl rfl (by kernel_rfl) (fun _ _ _ h => h) hSu.out hSS (Or.inl ⟨by rfl, fun w' hSw => yu_call ?_ (HB.out _)⟩) ?_
        · go_simp
        try simp only [Act.put, pu1, pu2, pu3]
        refine wpAnyU_pure (i := 4) (d := (some 14)) (v := ?_) rfl rfl (by kernel_rfl) (fun _ _ _ h => h) hSu.out (Or.inl ⟨by rfl, fun w' _ => yu_value ?_⟩) ?_
        rotate_left
        · (go_simp; (try exact rfl))
        try simp only [Act.put, pu1, pu2, pu3]
        refine wpAnyU_pure (i := 5) (d := (some 15)) (v := ?_) rfl rfl (by kernel_rfl) (fun _ _ _ h => h) hSu.out (Or.inl ⟨by rfl, fun w' _ => yu_value ?_⟩) ?_
        rotate_left
        · (go_simp; (try exact rfl))
        try simp only [Act.put, pu1, pu2, pu3]
        refine wpAnyU_take (i := 6) (d := (some 16)) (v := _) rfl rfl (by kernel_rfl) (fun _ _ _ h => h) hSu.out hSS (Or.inl ⟨by rfl, fun w' hSw => yu_value (run_ld undW infoW _ rfl _ rfl hSw.2.2.2.1)⟩) ?_
        try simp only [Act.put, pu1, pu2, pu3]
        refine wpAnyU_take (i := 7) (d := (some 17)) (v := _) rfl rfl (by kernel_rfl) (fun _ _ _ h => h) hSu.out hSS (Or.inl ⟨by rfl, fun w' hSw => yu_call ?_ (HM.out _)⟩) ?_
        · go_simp
        try simp only [Act.put, pu1, pu2, pu3]
        refine wpAnyU_take (i := 8) (d := (some 18)) (v := _) rfl rfl (by kernel_rfl) (fun _ _ _ h => h) hSu.out hSS (Or.inl ⟨by rfl, fun w' hSw => yu_value (run_ld undW infoW _ rfl _ rfl hSw.1)⟩) ?_
        try simp only [Act.put, pu1, pu2, pu3]
        refine wpAnyU_take (i := 9) (d := (some 19)) (v := _) rfl rfl (by kernel_rfl) (fun _ _ _ h => h) hSu.out hSS (Or.inl ⟨by rfl, fun w' hSw => yu_call ?_ (HA.out _)⟩) ?_
        · go_simp
        try simp only [Act.put, pu1, pu2, pu3]
        refine wpAnyU_pure (i := 10) (d := (some 20)) (v := ?_) rfl rfl (by kernel_rfl) (fun _ _ _ h => h) hSu.out (Or.inl ⟨by rfl, fun w' _ => yu_value ?_⟩) ?_
        rotate_left
        · (go_simp; (try exact rfl))
        try simp only [Act.put, pu1, pu2, pu3]
        refine wpAnyU_pure (i := 11) (d := (some 21)) (v := ?_) rfl rfl (by kernel_rfl) (fun _ _ _ h => h) hSu.out (Or.inl ⟨by rfl, fun w' _ => yu_value ?_⟩) ?_
        rotate_left
        · (go_simp; (try exact rfl))
        try simp only [Act.put, pu1, pu2, pu3]
        refine wpAnyU_done (by kernel_rfl) (fun wE huE => ?_) _
        have ⟨hS1, hS2, hS3, hS4, hSB⟩ := hSu.out _ _ hSS huE
        clear huE hSS
        go_wp2_with (first | ((with_reducible apply ld_rowP undW infoW); exact rfl; exact rfl; focus (repeat (first | assumption | ((with_reducible apply row_newc); (focus (first | rfl | (simp; done)))) | ((with_reducible apply row_newz); (focus (first | rfl | (simp; done)))) | (with_reducible apply row_same) | ((with_reducible apply row_else); (focus (first | (simp; done) | (simp; omega) | omega))) | (with_reducible apply row_alloc) | (with_reducible apply row_drew) | (with_reducible apply row_drewN) | ((with_reducible apply row_up); assumption)))) | ((with_reducible apply st_rowP infoW); exact rfl; exact rfl; focus (repeat (first | assumption | ((with_reducible apply row_newc); (focus (first | rfl | (simp; done)))) | ((with_reducible apply row_newz); (focus (first | rfl | (simp; done)))) | (with_reducible apply row_same) | ((with_reducible apply row_else); (focus (first | (simp; done) | (simp; omega) | omega))) | (with_reducible apply row_alloc) | (with_reducible apply row_drew) | (with_reducible apply row_drewN) | ((with_reducible apply row_up); assumption)))) | ((with_reducible apply st_rowZ infoW); exact rfl; exact rfl; focus (repeat (first | assumption | ((with_reducible apply row_newc); (focus (first | rfl | (simp; done)))) | ((with_reducible apply row_newz); (focus (first | rfl | (simp; done)))) | (with_reducible apply row_same) | ((with_reducible apply row_else); (focus (first | (simp; done) | (simp; omega) | omega))) | (with_reducible apply row_alloc) | (with_reducible apply row_drew) | (with_reducible apply row_drewN) | ((with_reducible apply row_up); assumption)))))
        exact bodyPost_ret (res2 rfl undW infoW _ _ rfl (by (repeat (first | assumption | ((with_reducible apply row_newc); (focus (first | rfl | (simp; done)))) | ((with_reducible apply row_newz); (focus (first | rfl | (simp; done)))) | (with_reducible apply row_same) | ((with_reducible apply row_else); (focus (first | (simp; done) | (simp; omega) | omega))) | (with_reducible apply row_alloc) | (with_reducible apply row_drew) | (with_reducible apply row_drewN) | ((with_reducible apply row_up); assumption))))) rfl ⟨rfl, (by repeat (first | assumption | (with_reducible apply Up.of) | (with_reducible exact Below.refl _ _) | (with_reducible exact Up.refl _) | ((with_reducible apply bl_setRow); (focus (first | exact Nat.le_refl _ | (simp; done) | (simp; omega) | omega))) | (with_reducible apply below_drewN) | (with_reducible apply Below.drew) | ((with_reducible apply bl_alloc); (focus (first | exact Nat.le_refl _ | (simp; done) | (simp; omega) | omega))) | ((with_reducible apply bl_setCell); (focus (first | exact Nat.le_refl _ | (simp; done) | (simp; omega) | omega))) | ((with_reducible apply up_tr); assumption)))⟩
      · have hd3 : decide (hb ≤ enc (a - b)) = false := by simpa using hs
        rw [hd3] at HM hk
        rw [opt_no fun h => by simpa using hk.2 h]
        clear hk1 hk2 hk hs hd hd2 hd3 a0 b0
        unfold wideV at *
        go_enter Tryz.func120, Tryz.ntmps120
        go_wp2_with (first | ((with_reducible apply ld_rowP undW infoW); exact rfl; exact rfl; focus (repeat (first | assumption | ((with_reducible apply row_newc); (focus (first | rfl | (simp; done)))) | ((with_reducible apply row_newz); (focus (first | rfl | (simp; done)))) | (with_reducible apply row_same) | ((with_reducible apply row_else); (focus (first | (simp; done) | (simp; omega) | omega))) | (with_reducible apply row_alloc) | (with_reducible apply row_drew) | (with_reducible apply row_drewN) | ((with_reducible apply row_up); assumption)))) | ((with_reducible apply st_rowP infoW); exact rfl; exact rfl; focus (repeat (first | assumption | ((with_reducible apply row_newc); (focus (first | rfl | (simp; done)))) | ((with_reducible apply row_newz); (focus (first | rfl | (simp; done)))) | (with_reducible apply row_same) | ((with_reducible apply row_else); (focus (first | (simp; done) | (simp; omega) | omega))) | (with_reducible apply row_alloc) | (with_reducible apply row_drew) | (with_reducible apply row_drewN) | ((with_reducible apply row_up); assumption)))) | ((with_reducible apply st_rowZ infoW); exact rfl; exact rfl; focus (repeat (first | assumption | ((with_reducible apply row_newc); (focus (first | rfl | (simp; done)))) | ((with_reducible apply row_newz); (focus (first | rfl | (simp; done)))) | (with_reducible apply row_same) | ((with_reducible apply row_else); (focus (first | (simp; done) | (simp; omega) | omega))) | (with_reducible apply row_alloc) | (with_reducible apply row_drew) | (with_reducible apply row_drewN) | ((with_reducible apply row_up); assumption)))) | (go_at_call 140; refine (HP.out _).mono ?_; rintro e w' ⟨rfl, hu⟩; have hsz := hu.size; simp at hsz))
        refine wp_region_upH (S := (fun wq => Row wq w.heap.size 33 16 (limb (enc a)) ∧ Row wq (w.heap.size + 1) 33 16 (limb (enc b)) ∧ Row wq (w.heap.size + 1 + 1) 33 16 (fun _ => 0) ∧ Row wq w'.heap.size 33 16 (limb (enc (a - b))) ∧ Below w.heap.size w wq)) (req := (fun _ => true)) (by kernel_rfl) (fun _ _ h hu => ⟨(h.1).up hu, (h.2.1).up hu, (h.2.2.1).up hu, (h.2.2.2.1).up hu, below_up (h.2.2.2.2) hu⟩) ⟨(by (repeat (first | assumption | ((with_reducible apply row_newc); (focus (first | rfl | (simp; done)))) | ((with_reducible apply row_newz); (focus (first | rfl | (simp; done)))) | (with_reducible apply row_same) | ((with_reducible apply row_else); (focus (first | (simp; done) | (simp; omega) | omega))) | (with_reducible apply row_alloc) | (with_reducible apply row_drew) | (with_reducible apply row_drewN) | ((with_reducible apply row_up); assumption)))), (by (repeat (first | assumption | ((with_reducible apply row_newc); (focus (first | rfl | (simp; done)))) | ((with_reducible apply row_newz); (focus (first | rfl | (simp; done)))) | (with_reducible apply row_same) | ((with_reducible apply row_else); (focus (first | (simp; done) | (simp; omega) | omega))) | (with_reducible apply row_alloc) | (with_reducible apply row_drew) | (with_reducible apply row_drewN) | ((with_reducible apply row_up); assumption)))), (by (repeat (first | assumption | ((with_reducible apply row_newc); (focus (first | rfl | (simp; done)))) | ((with_reducible apply row_newz); (focus (first | rfl | (simp; done)))) | (with_reducible apply row_same) | ((with_reducible apply row_else); (focus (first | (simp; done) | (simp; omega) | omega))) | (with_reducible apply row_alloc) | (with_reducible apply row_drew) | (with_reducible apply row_drewN) | ((with_reducible apply row_up); assumption)))), (by (repeat (first | assumption | ((with_reducible apply row_newc); (focus (first | rfl | (simp; done)))) | ((with_reducible apply row_newz); (focus (first | rfl | (simp; done)))) | (with_reducible apply row_same) | ((with_reducible apply row_else); (focus (first | (simp; done) | (simp; omega) | omega))) | (with_reducible apply row_alloc) | (with_reducible apply row_drew) | (with_reducible apply row_drewN) | ((with_reducible apply row_up); assumption)))), (by repeat (first | assumption | (with_reducible apply Up.of) | (with_reducible exact Below.refl _ _) | (with_reducible exact Up.refl _) | ((with_reducible apply bl_setRow); (focus (first | exact Nat.le_refl _ | (simp; done) | (simp; omega) | omega))) | (with_reducible apply below_drewN) | (with_reducible apply Below.drew) | ((with_reducible apply bl_alloc); (focus (first | exact Nat.le_refl _ | (simp; done) | (simp; omega) | omega))) | ((with_reducible apply bl_setCell); (focus (first | exact Nat.le_refl _ | (simp; done) | (simp; omega) | omega))) | ((with_reducible apply up_tr); assumption)))⟩ (fun wS hSS hSu => ?_)
        have ⟨hS1, hS2, hS3, hS4, hSB⟩ := hSS
        clear hu
        refine wpAnyU_take (i := 0) (d := (some 10)) (v := _) rfl rfl (by kernel_rfl) (fun _ _ _ h => h) hSu.out hSS (Or.inl ⟨by rfl, fun w' hSw => yu_value (run_ld undW infoW _ rfl _ rfl hSw.1)⟩) ?_
        try simp only [Act.put, pu1, pu2, pu3]
        refine wpAnyU_take (i := 1) (d := (some 11)) (v := _) rfl rfl (by kernel_rfl) (fun _ _ _ h => h) hSu.out hSS (Or.inl ⟨by rfl, fun w' hSw => yu_call ?_ (HA.out _)⟩) ?_
        · go_simp
        try simp only [Act.put, pu1, pu2, pu3]
        refine wpAnyU_take (i := 2) (d := (some 12)) (v := _) rfl rfl (by kernel_rfl) (fun _ _ _ h => h) hSu.out hSS (Or.inl ⟨by rfl, fun w' hSw => yu_value (run_ld undW infoW _ rfl _ rfl hSw.2.1)⟩) ?_
        try simp only [Act.put, pu1, pu2, pu3]
        refine wpAnyU_take (i := 3) (d := (some 13)) (v := _) rfl rfl (by kernel_rfl) (fun _ _ _ h => h) hSu.out hSS (Or.inl ⟨by rfl, fun w' hSw => yu_call ?_ (HB.out _)⟩) ?_
        · go_simp
        try simp only [Act.put, pu1, pu2, pu3]
        refine wpAnyU_pure (i := 4) (d := (some 14)) (v := ?_) rfl rfl (by kernel_rfl) (fun _ _ _ h => h) hSu.out (Or.inl ⟨by rfl, fun w' _ => yu_value ?_⟩) ?_
        rotate_left
        · (go_simp; (try exact rfl))
        try simp only [Act.put, pu1, pu2, pu3]
        refine wpAnyU_pure (i := 5) (d := (some 15)) (v := ?_) rfl rfl (by kernel_rfl) (fun _ _ _ h => h) hSu.out (Or.inl ⟨by rfl, fun w' _ => yu_value ?_⟩) ?_
        rotate_left
        · (go_simp; (try exact rfl))
        try simp only [Act.put, pu1, pu2, pu3]
        refine wpAnyU_take (i := 6) (d := (some 16)) (v := _) rfl rfl (by kernel_rfl) (fun _ _ _ h => h) hSu.out hSS (Or.inl ⟨by rfl, fun w' hSw => yu_value (run_ld undW infoW _ rfl _ rfl hSw.2.2.2.1)⟩) ?_
        try simp only [Act.put, pu1, pu2, pu3]
        refine wpAnyU_take (i := 7) (d := (some 17)) (v := _) rfl rfl (by kernel_rfl) (fun _ _ _ h => h) hSu.out hSS (Or.inl ⟨by rfl, fun w' hSw => yu_call ?_ (HM.out _)⟩) ?_
        · go_simp
        try simp only [Act.put, pu1, pu2, pu3]
        refine wpAnyU_take (i := 8) (d := (some 18)) (v := _) rfl rfl (by kernel_rfl) (fun _ _ _ h => h) hSu.out hSS (Or.inl ⟨by rfl, fun w' hSw => yu_value (run_ld undW infoW _ rfl _ rfl hSw.1)⟩) ?_
        try simp only [Act.put, pu1, pu2, pu3]
        refine wpAnyU_take (i := 9) (d := (some 19)) (v := _) rfl rfl (by kernel_rfl) (fun _ _ _ h => h) hSu.out hSS (Or.inl ⟨by rfl, fun w' hSw => yu_call ?_ (HA.out _)⟩) ?_
        · go_simp
        try simp only [Act.put, pu1, pu2, pu3]
        refine wpAnyU_pure (i := 10) (d := (some 20)) (v := ?_) rfl rfl (by kernel_rfl) (fun _ _ _ h => h) hSu.out (Or.inl ⟨by rfl, fun w' _ => yu_value ?_⟩) ?_
        rotate_left
        · (go_simp; (try exact rfl))
        try simp only [Act.put, pu1, pu2, pu3]
        refine wpAnyU_pure (i := 11) (d := (some 21)) (v := ?_) rfl rfl (by kernel_rfl) (fun _ _ _ h => h) hSu.out (Or.inl ⟨by rfl, fun w' _ => yu_value ?_⟩) ?_
        rotate_left
        · (go_simp; (try exact rfl))
        try simp only [Act.put, pu1, pu2, pu3]
        refine wpAnyU_done (by kernel_rfl) (fun wE huE => ?_) _
        have ⟨hS1, hS2, hS3, hS4, hSB⟩ := hSu.out _ _ hSS huE
        clear huE hSS
        go_wp2_with (first | ((with_reducible apply ld_rowP undW infoW); exact rfl; exact rfl; focus (repeat (first | assumption | ((with_reducible apply row_newc); (focus (first | rfl | (simp; done)))) | ((with_reducible apply row_newz); (focus (first | rfl | (simp; done)))) | (with_reducible apply row_same) | ((with_reducible apply row_else); (focus (first | (simp; done) | (simp; omega) | omega))) | (with_reducible apply row_alloc) | (with_reducible apply row_drew) | (with_reducible apply row_drewN) | ((with_reducible apply row_up); assumption)))) | ((with_reducible apply st_rowP infoW); exact rfl; exact rfl; focus (repeat (first | assumption | ((with_reducible apply row_newc); (focus (first | rfl | (simp; done)))) | ((with_reducible apply row_newz); (focus (first | rfl | (simp; done)))) | (with_reducible apply row_same) | ((with_reducible apply row_else); (focus (first | (simp; done) | (simp; omega) | omega))) | (with_reducible apply row_alloc) | (with_reducible apply row_drew) | (with_reducible apply row_drewN) | ((with_reducible apply row_up); assumption)))) | ((with_reducible apply st_rowZ infoW); exact rfl; exact rfl; focus (repeat (first | assumption | ((with_reducible apply row_newc); (focus (first | rfl | (simp; done)))) | ((with_reducible apply row_newz); (focus (first | rfl | (simp; done)))) | (with_reducible apply row_same) | ((with_reducible apply row_else); (focus (first | (simp; done) | (simp; omega) | omega))) | (with_reducible apply row_alloc) | (with_reducible apply row_drew) | (with_reducible apply row_drewN) | ((with_reducible apply row_up); assumption)))))
        exact bodyPost_ret (res2 rfl undW infoW _ _ rfl (by (repeat (first | assumption | ((with_reducible apply row_newc); (focus (first | rfl | (simp; done)))) | ((with_reducible apply row_newz); (focus (first | rfl | (simp; done)))) | (with_reducible apply row_same) | ((with_reducible apply row_else); (focus (first | (simp; done) | (simp; omega) | omega))) | (with_reducible apply row_alloc) | (with_reducible apply row_drew) | (with_reducible apply row_drewN) | ((with_reducible apply row_up); assumption))))) rfl ⟨rfl, (by repeat (first | assumption | (with_reducible apply Up.of) | (with_reducible exact Below.refl _ _) | (with_reducible exact Up.refl _) | ((with_reducible apply bl_setRow); (focus (first | exact Nat.le_refl _ | (simp; done) | (simp; omega) | omega))) | (with_reducible apply below_drewN) | (with_reducible apply Below.drew) | ((with_reducible apply bl_alloc); (focus (first | exact Nat.le_refl _ | (simp; done) | (simp; omega) | omega))) | ((with_reducible apply bl_setCell); (focus (first | exact Nat.le_refl _ | (simp; done) | (simp; omega) | omega))) | ((with_reducible apply up_tr); assumption)))⟩
  · have hd : decide (a < 0) = false := by simpa using a0
    rw [hd] at HA hk1
    by_cases b0 : b < 0
    · have hd2 : decide (b < 0) = true := by simpa using b0
      rw [hd2] at HB
      have hk := hk1 (by simp [a0, b0])
      by_cases hs : hb ≤ enc (a - b)
      · have hd3 : decide (hb ≤ enc (a - b)) = true := by simpa using hs
        rw [hd3] at HM hk
        rw [opt_no fun h => by simpa using hk.2 h]
        clear hk1 hk2 hk hs hd hd2 hd3 a0 b0
        unfold wideV at *
        go_enter Tryz.func120, Tryz.ntmps120
        go_wp2_with (first | ((with_reducible apply ld_rowP undW infoW); exact rfl; exact rfl; focus (repeat (first | assumption | ((with_reducible apply row_newc); (focus (first | rfl | (simp; done)))) | ((with_reducible apply row_newz); (focus (first | rfl | (simp; done)))) | (with_reducible apply row_same) | ((with_reducible apply row_else); (focus (first | (simp; done) | (simp; omega) | omega))) | (with_reducible apply row_alloc) | (with_reducible apply row_drew) | (with_reducible apply row_drewN) | ((with_reducible apply row_up); assumption)))) | ((with_reducible apply st_rowP infoW); exact rfl; exact rfl; focus (repeat (first | assumption | ((with_reducible apply row_newc); (focus (first | rfl | (simp; done)))) | ((with_reducible apply row_newz); (focus (first | rfl | (simp; done)))) | (with_reducible apply row_same) | ((with_reducible apply row_else); (focus (first | (simp; done) | (simp; omega) | omega))) | (with_reducible apply row_alloc) | (with_reducible apply row_drew) | (with_reducible apply row_drewN) | ((with_reducible apply row_up); assumption)))) | ((with_reducible apply st_rowZ infoW); exact rfl; exact rfl; focus (repeat (first | assumption | ((with_reducible apply row_newc); (focus (first | rfl | (simp; done)))) | ((with_reducible apply row_newz); (focus (first | rfl | (simp; done)))) | (with_reducible apply row_same) | ((with_reducible apply row_else); (focus (first | (simp; done) | (simp; omega) | omega))) | (with_reducible apply row_alloc) | (with_reducible apply row_drew) | (with_reducible apply row_drewN) | ((with_reducible apply row_up); assumption)))) | (go_at_call 140; refine (HP.out _).mono ?_; rintro e w' ⟨rfl, hu⟩; have hsz := hu.size; simp at hsz))
        refine wp_region_upH (S := (fun wq => Row wq w.heap.size 33 16 (limb (enc a)) ∧ Row wq (w.heap.size + 1) 33 16 (limb (enc b)) ∧ Row wq (w.heap.size + 1 + 1) 33 16 (fun _ => 0) ∧ Row wq w'.heap.size 33 16 (limb (enc (a - b))) ∧ Below w.heap.size w wq)) (req := (fun _ => true)) (by kernel_rfl) (fun _ _ h hu => ⟨(h.1).up hu, (h.2.1).up hu, (h.2.2.1).up hu, (h.2.2.2.1).up hu, below_up (h.2.2.2.2) hu⟩) ⟨(by (repeat (first | assumption | ((with_reducible apply row_newc); (focus (first | rfl | (simp; done)))) | ((with_reducible apply row_newz); (focus (first | rfl | (simp; done)))) | (with_reducible apply row_same) | ((with_reducible apply row_else); (focus (first | (simp; done) | (simp; omega) | omega))) | (with_reducible apply row_alloc) | (with_reducible apply row_drew) | (with_reducible apply row_drewN) | ((with_reducible apply row_up); assumption)))), (by (repeat (first | assumption | ((with_reducible apply row_newc); (focus (first | rfl | (simp; done)))) | ((with_reducible apply row_newz); (focus (first | rfl | (simp; done)))) | (with_reducible apply row_same) | ((with_reducible apply row_else); (focus (first | (simp; done) | (simp; omega) | omega))) | (with_reducible apply row_alloc) | (with_reducible apply row_drew) | (with_reducible apply row_drewN) | ((with_reducible apply row_up); assumption)))), (by (repeat (first | assumption | ((with_reducible apply row_newc); (focus (first | rfl | (simp; done)))) | ((with_reducible apply row_newz); (focus (first | rfl | (simp; done)))) | (with_reducible apply row_same) | ((with_reducible apply row_else); (focus (first | (simp; done) | (simp; omega) | omega))) | (with_reducible apply row_alloc) | (with_reducible apply row_drew) | (with_reducible apply row_drewN) | ((with_reducible apply row_up); assumption)))), (by (repeat (first | assumption | ((with_reducible apply row_newc); (focus (first | rfl | (simp; done)))) | ((with_reducible apply row_newz); (focus (first | rfl | (simp; done)))) | (with_reducible apply row_same) | ((with_reducible apply row_else); (focus (first | (simp; done) | (simp; omega) | omega))) | (with_reducible apply row_alloc) | (with_reducible apply row_drew) | (with_reducible apply row_drewN) | ((with_reducible apply row_up); assumption)))), (by repeat (first | assumption | (with_reducible apply Up.of) | (with_reducible exact Below.refl _ _) | (with_reducible exact Up.refl _) | ((with_reducible apply bl_setRow); (focus (first | exact Nat.le_refl _ | (simp; done) | (simp; omega) | omega))) | (with_reducible apply below_drewN) | (with_reducible apply Below.drew) | ((with_reducible apply bl_alloc); (focus (first | exact Nat.le_refl _ | (simp; done) | (simp; omega) | omega))) | ((with_reducible apply bl_setCell); (focus (first | exact Nat.le_refl _ | (simp; done) | (simp; omega) | omega))) | ((with_reducible apply up_tr); assumption)))⟩ (fun wS hSS hSu => ?_)
        have ⟨hS1, hS2, hS3, hS4, hSB⟩ := hSS
        clear hu
        refine wpAnyU_take (i := 0) (d := (some 10)) (v := _) rfl rfl (by kernel_rfl) (fun _ _ _ h => h) hSu.out hSS (Or.inl ⟨by rfl, fun w' hSw => yu_value (run_ld undW infoW _ rfl _ rfl hSw.1)⟩) ?_
        try simp only [Act.put, pu1, pu2, pu3]
        refine wpAnyU_take (i := 1) (d := (some 11)) (v := _) rfl rfl (by kernel_rfl) (fun _ _ _ h => h) hSu.out hSS (Or.inl ⟨by rfl, fun w' hSw => yu_call ?_ (HA.out _)⟩) ?_
        · go_simp
        try simp only [Act.put, pu1, pu2, pu3]
        refine wpAnyU_take (i := 2) (d := (some 12)) (v := _) rfl rfl (by kernel_rfl) (fun _ _ _ h => h) hSu.out hSS (Or.inl ⟨by rfl, fun w' hSw => yu_value (run_ld undW infoW _ rfl _ rfl hSw.2.1)⟩) ?_
        try simp only [Act.put, pu1, pu2, pu3]
        refine wpAnyU_take (i := 3) (d := (some 13)) (v := _) rfl rfl (by kernel_rfl) (fun _ _ _ h => h) hSu.out hSS (Or.inl ⟨by rfl, fun w' hSw => yu_call ?_ (HB.out _)⟩) ?_
        · go_simp
        try simp only [Act.put, pu1, pu2, pu3]
        refine wpAnyU_pure (i := 4) (d := (some 14)) (v := ?_) rfl rfl (by kernel_rfl) (fun _ _ _ h => h) hSu.out (Or.inl ⟨by rfl, fun w' _ => yu_value ?_⟩) ?_
        rotate_left
        · (go_simp; (try exact rfl))
        try simp only [Act.put, pu1, pu2, pu3]
        refine wpAnyU_pure (i := 5) (d := (some 15)) (v := ?_) rfl rfl (by kernel_rfl) (fun _ _ _ h => h) hSu.out (Or.inl ⟨by rfl, fun w' _ => yu_value ?_⟩) ?_
        rotate_left
        · (go_simp; (try exact rfl))
        try simp only [Act.put, pu1, pu2, pu3]
        refine wpAnyU_take (i := 6) (d := (some 16)) (v := _) rfl rfl (by kernel_rfl) (fun _ _ _ h => h) hSu.out hSS (Or.inl ⟨by rfl, fun w' hSw => yu_value (run_ld undW infoW _ rfl _ rfl hSw.2.2.2.1)⟩) ?_
        try simp only [Act.put, pu1, pu2, pu3]
        refine wpAnyU_take (i := 7) (d := (some 17)) (v := _) rfl rfl (by kernel_rfl) (fun _ _ _ h => h) hSu.out hSS (Or.inl ⟨by rfl, fun w' hSw => yu_call ?_ (HM.out _)⟩) ?_
        · go_simp
        try simp only [Act.put, pu1, pu2, pu3]
        refine wpAnyU_take (i := 8) (d := (some 18)) (v := _) rfl rfl (by kernel_rfl) (fun _ _ _ h => h) hSu.out hSS (Or.inl ⟨by rfl, fun w' hSw => yu_value (run_ld undW infoW _ rfl _ rfl hSw.1)⟩) ?_
        try simp only [Act.put, pu1, pu2, pu3]
        refine wpAnyU_take (i := 9) (d := (some 19)) (v := _) rfl rfl (by kernel_rfl) (fun _ _ _ h => h) hSu.out hSS (Or.inl ⟨by rfl, fun w' hSw => yu_call ?_ (HA.out _)⟩) ?_
        · go_simp
        try simp only [Act.put, pu1, pu2, pu3]
        refine wpAnyU_pure (i := 10) (d := (some 20)) (v := ?_) rfl rfl (by kernel_rfl) (fun _ _ _ h => h) hSu.out (Or.inl ⟨by rfl, fun w' _ => yu_value ?_⟩) ?_
        rotate_left
        · (go_simp; (try exact rfl))
        try simp only [Act.put, pu1, pu2, pu3]
        refine wpAnyU_pure (i := 11) (d := (some 21)) (v := ?_) rfl rfl (by kernel_rfl) (fun _ _ _ h => h) hSu.out (Or.inl ⟨by rfl, fun w' _ => yu_value ?_⟩) ?_
        rotate_left
        · (go_simp; (try exact rfl))
        try simp only [Act.put, pu1, pu2, pu3]
        refine wpAnyU_done (by kernel_rfl) (fun wE huE => ?_) _
        have ⟨hS1, hS2, hS3, hS4, hSB⟩ := hSu.out _ _ hSS huE
        clear huE hSS
        go_wp2_with (first | ((with_reducible apply ld_rowP undW infoW); exact rfl; exact rfl; focus (repeat (first | assumption | ((with_reducible apply row_newc); (focus (first | rfl | (simp; done)))) | ((with_reducible apply row_newz); (focus (first | rfl | (simp; done)))) | (with_reducible apply row_same) | ((with_reducible apply row_else); (focus (first | (simp; done) | (simp; omega) | omega))) | (with_reducible apply row_alloc) | (with_reducible apply row_drew) | (with_reducible apply row_drewN) | ((with_reducible apply row_up); assumption)))) | ((with_reducible apply st_rowP infoW); exact rfl; exact rfl; focus (repeat (first | assumption | ((with_reducible apply row_newc); (focus (first | rfl | (simp; done)))) | ((with_reducible apply row_newz); (focus (first | rfl | (simp; done)))) | (with_reducible apply row_same) | ((with_reducible apply row_else); (focus (first | (simp; done) | (simp; omega) | omega))) | (with_reducible apply row_alloc) | (with_reducible apply row_drew) | (with_reducible apply row_drewN) | ((with_reducible apply row_up); assumption)))) | ((with_reducible apply st_rowZ infoW); exact rfl; exact rfl; focus (repeat (first | assumption | ((with_reducible apply row_newc); (focus (first | rfl | (simp; done)))) | ((with_reducible apply row_newz); (focus (first | rfl | (simp; done)))) | (with_reducible apply row_same) | ((with_reducible apply row_else); (focus (first | (simp; done) | (simp; omega) | omega))) | (with_reducible apply row_alloc) | (with_reducible apply row_drew) | (with_reducible apply row_drewN) | ((with_reducible apply row_up); assumption)))))
        exact bodyPost_ret (res2 rfl undW infoW _ _ rfl (by (repeat (first | assumption | ((with_reducible apply row_newc); (focus (first | rfl | (simp; done)))) | ((with_reducible apply row_newz); (focus (first | rfl | (simp; done)))) | (with_reducible apply row_same) | ((with_reducible apply row_else); (focus (first | (simp; done) | (simp; omega) | omega))) | (with_reducible apply row_alloc) | (with_reducible apply row_drew) | (with_reducible apply row_drewN) | ((with_reducible apply row_up); assumption))))) rfl ⟨rfl, (by repeat (first | assumption | (with_reducible apply Up.of) | (with_reducible exact Below.refl _ _) | (with_reducible exact Up.refl _) | ((with_reducible apply bl_setRow); (focus (first | exact Nat.le_refl _ | (simp; done) | (simp; omega) | omega))) | (with_reducible apply below_drewN) | (with_reducible apply Below.drew) | ((with_reducible apply bl_alloc); (focus (first | exact Nat.le_refl _ | (simp; done) | (simp; omega) | omega))) | ((with_reducible apply bl_setCell); (focus (first | exact Nat.le_refl _ | (simp; done) | (simp; omega) | omega))) | ((with_reducible apply up_tr); assumption)))⟩
      · have hd3 : decide (hb ≤ enc (a - b)) = false := by simpa using hs
        rw [hd3] at HM hk
        rw [opt_yes (hk.1 rfl)]
        clear hk1 hk2 hk hs hd hd2 hd3 a0 b0
        unfold wideV at *
        go_enter Tryz.func120, Tryz.ntmps120
        go_wp2_with (first | ((with_reducible apply ld_rowP undW infoW); exact rfl; exact rfl; focus (repeat (first | assumption | ((with_reducible apply row_newc); (focus (first | rfl | (simp; done)))) | ((with_reducible apply row_newz); (focus (first | rfl | (simp; done)))) | (with_reducible apply row_same) | ((with_reducible apply row_else); (focus (first | (simp; done) | (simp; omega) | omega))) | (with_reducible apply row_alloc) | (with_reducible apply row_drew) | (with_reducible apply row_drewN) | ((with_reducible apply row_up); assumption)))) | ((with_reducible apply st_rowP infoW); exact rfl; exact rfl; focus (repeat (first | assumption | ((with_reducible apply row_newc); (focus (first | rfl | (simp; done)))) | ((with_reducible apply row_newz); (focus (first | rfl | (simp; done)))) | (with_reducible apply row_same) | ((with_reducible apply row_else); (focus (first | (simp; done) | (simp; omega) | omega))) | (with_reducible apply row_alloc) | (with_reducible apply row_drew) | (with_reducible apply row_drewN) | ((with_reducible apply row_up); assumption)))) | ((with_reducible apply st_rowZ infoW); exact rfl; exact rfl; focus (repeat (first | assumption | ((with_reducible apply row_newc); (focus (first | rfl | (simp; done)))) | ((with_reducible apply row_newz); (focus (first | rfl | (simp; done)))) | (with_reducible apply row_same) | ((with_reducible apply row_else); (focus (first | (simp; done) | (simp; omega) | omega))) | (with_reducible apply row_alloc) | (with_reducible apply row_drew) | (with_reducible apply row_drewN) | ((with_reducible apply row_up); assumption)))) | (go_at_call 140; refine (HP.out _).mono ?_; rintro e w' ⟨rfl, hu⟩; have hsz := hu.size; simp at hsz))
        refine wp_region_upH (S := (fun wq => Row wq w.heap.size 33 16 (limb (enc a)) ∧ Row wq (w.heap.size + 1) 33 16 (limb (enc b)) ∧ Row wq (w.heap.size + 1 + 1) 33 16 (fun _ => 0) ∧ Row wq w'.heap.size 33 16 (limb (enc (a - b))) ∧ Below w.heap.size w wq)) (req := (fun _ => true)) (by kernel_rfl) (fun _ _ h hu => ⟨(h.1).up hu, (h.2.1).up hu, (h.2.2.1).up hu, (h.2.2.2.1).up hu, below_up (h.2.2.2.2) hu⟩) ⟨(by (repeat (first | assumption | ((with_reducible apply row_newc); (focus (first | rfl | (simp; done)))) | ((with_reducible apply row_newz); (focus (first | rfl | (simp; done)))) | (with_reducible apply row_same) | ((with_reducible apply row_else); (focus (first | (simp; done) | (simp; omega) | omega))) | (with_reducible apply row_alloc) | (with_reducible apply row_drew) | (with_reducible apply row_drewN) | ((with_reducible apply row_up); assumption)))), (by (repeat (first | assumption | ((with_reducible apply row_newc); (focus (first | rfl | (simp; done)))) | ((with_reducible apply row_newz); (focus (first | rfl | (simp; done)))) | (with_reducible apply row_same) | ((with_reducible apply row_else); (focus (first | (simp; done) | (simp; omega) | omega))) | (with_reducible apply row_alloc) | (with_reducible apply row_drew) | (with_reducible apply row_drewN) | ((with_reducible apply row_up); assumption)))), (by (repeat (first | assumption | ((with_reducible apply row_newc); (focus (first | rfl | (simp; done)))) | ((with_reducible apply row_newz); (focus (first | rfl | (simp; done)))) | (with_reducible apply row_same) | ((with_reducible apply row_else); (focus (first | (simp; done) | (simp; omega) | omega))) | (with_reducible apply row_alloc) | (with_reducible apply row_drew) | (with_reducible apply row_drewN) | ((with_reducible apply row_up); assumption)))), (by (repeat (first | assumption | ((with_reducible apply row_newc); (focus (first | rfl | (simp; done)))) | ((with_reducible apply row_newz); (focus (first | rfl | (simp; done)))) | (with_reducible apply row_same) | ((with_reducible apply row_else); (focus (first | (simp; done) | (simp; omega) | omega))) | (with_reducible apply row_alloc) | (with_reducible apply row_drew) | (with_reducible apply row_drewN) | ((with_reducible apply row_up); assumption)))), (by repeat (first | assumption | (with_reducible apply Up.of) | (with_reducible exact Below.refl _ _) | (with_reducible exact Up.refl _) | ((with_reducible apply bl_setRow); (focus (first | exact Nat.le_refl _ | (simp; done) | (simp; omega) | omega))) | (with_reducible apply below_drewN) | (with_reducible apply Below.drew) | ((with_reducible apply bl_alloc); (focus (first | exact Nat.le_refl _ | (simp; done) | (simp; omega) | omega))) | ((with_reducible apply bl_setCell); (focus (first | exact Nat.le_refl _ | (simp; done) | (simp; omega) | omega))) | ((with_reducible apply up_tr); assumption)))⟩ (fun wS hSS hSu => ?_)
        have ⟨hS1, hS2, hS3, hS4, hSB⟩ := hSS
        clear hu
        refine wpAnyU_take (i := 0) (d := (some 10)) (v := _) rfl rfl (by kernel_rfl) (fun _ _ _ h => h) hSu.out hSS (Or.inl ⟨by rfl, fun w' hSw => yu_value (run_ld undW infoW _ rfl _ rfl hSw.1)⟩) ?_
        try simp only [Act.put, pu1, pu2, pu3]
        refine wpAnyU_take (i := 1) (d := (some 11)) (v := _) rfl rfl (by kernel_rfl) (fun _ _ _ h => h) hSu.out hSS (Or.inl ⟨by rfl, fun w' hSw => yu_call ?_ (HA.out _)⟩) ?_
        · go_simp
        try simp only [Act.put, pu1, pu2, pu3]
        refine wpAnyU_take (i := 2) (d := (some 12)) (v := _) rfl rfl (by kernel_rfl) (fun _ _ _ h => h) hSu.out hSS (Or.inl ⟨by rfl, fun w' hSw => yu_value (run_ld undW infoW _ rfl _ rfl hSw.2.1)⟩) ?_
        try simp only [Act.put, pu1, pu2, pu3]
        refine wpAnyU_take (i := 3) (d := (some 13)) (v := _) rfl rfl (by kernel_rfl) (fun _ _ _ h => h) hSu.out hSS (Or.inl ⟨by rfl, fun w' hSw => yu_call ?_ (HB.out _)⟩) ?_
        · go_simp
        try simp only [Act.put, pu1, pu2, pu3]
        refine wpAnyU_pure (i := 4) (d := (some 14)) (v := ?_) rfl rfl (by kernel_rfl) (fun _ _ _ h => h) hSu.out (Or.inl ⟨by rfl, fun w' _ => yu_value ?_⟩) ?_
        rotate_left
        · (go_simp; (try exact rfl))
        try simp only [Act.put, pu1, pu2, pu3]
        refine wpAnyU_pure (i := 5) (d := (some 15)) (v := ?_) rfl rfl (by kernel_rfl) (fun _ _ _ h => h) hSu.out (Or.inl ⟨by rfl, fun w' _ => yu_value ?_⟩) ?_
        rotate_left
        · (go_simp; (try exact rfl))
        try simp only [Act.put, pu1, pu2, pu3]
        refine wpAnyU_take (i := 6) (d := (some 16)) (v := _) rfl rfl (by kernel_rfl) (fun _ _ _ h => h) hSu.out hSS (Or.inl ⟨by rfl, fun w' hSw => yu_value (run_ld undW infoW _ rfl _ rfl hSw.2.2.2.1)⟩) ?_
        try simp only [Act.put, pu1, pu2, pu3]
        refine wpAnyU_take (i := 7) (d := (some 17)) (v := _) rfl rfl (by kernel_rfl) (fun _ _ _ h => h) hSu.out hSS (Or.inl ⟨by rfl, fun w' hSw => yu_call ?_ (HM.out _)⟩) ?_
        · go_simp
        try simp only [Act.put, pu1, pu2, pu3]
        refine wpAnyU_take (i := 8) (d := (some 18)) (v := _) rfl rfl (by kernel_rfl) (fun _ _ _ h => h) hSu.out hSS (Or.inl ⟨by rfl, fun w' hSw => yu_value (run_ld undW infoW _ rfl _ rfl hSw.1)⟩) ?_
        try simp only [Act.put, pu1, pu2, pu3]
        refine wpAnyU_take (i := 9) (d := (some 19)) (v := _) rfl rfl (by kernel_rfl) (fun _ _ _ h => h) hSu.out hSS (Or.inl ⟨by rfl, fun w' hSw => yu_call ?_ (HA.out _)⟩) ?_
        · go_simp
        try simp only [Act.put, pu1, pu2, pu3]
        refine wpAnyU_pure (i := 10) (d := (some 20)) (v := ?_) rfl rfl (by kernel_rfl) (fun _ _ _ h => h) hSu.out (Or.inl ⟨by rfl, fun w' _ => yu_value ?_⟩) ?_
        rotate_left
        · (go_simp; (try exact rfl))
        try simp only [Act.put, pu1, pu2, pu3]
        refine wpAnyU_pure (i := 11) (d := (some 21)) (v := ?_) rfl rfl (by kernel_rfl) (fun _ _ _ h => h) hSu.out (Or.inl ⟨by rfl, fun w' _ => yu_value ?_⟩) ?_
        rotate_left
        · (go_simp; (try exact rfl))
        try simp only [Act.put, pu1, pu2, pu3]
        refine wpAnyU_done (by kernel_rfl) (fun wE huE => ?_) _
        have ⟨hS1, hS2, hS3, hS4, hSB⟩ := hSu.out _ _ hSS huE
        clear huE hSS
        go_wp2_with (first | ((with_reducible apply ld_rowP undW infoW); exact rfl; exact rfl; focus (repeat (first | assumption | ((with_reducible apply row_newc); (focus (first | rfl | (simp; done)))) | ((with_reducible apply row_newz); (focus (first | rfl | (simp; done)))) | (with_reducible apply row_same) | ((with_reducible apply row_else); (focus (first | (simp; done) | (simp; omega) | omega))) | (with_reducible apply row_alloc) | (with_reducible apply row_drew) | (with_reducible apply row_drewN) | ((with_reducible apply row_up); assumption)))) | ((with_reducible apply st_rowP infoW); exact rfl; exact rfl; focus (repeat (first | assumption | ((with_reducible apply row_newc); (focus (first | rfl | (simp; done)))) | ((with_reducible apply row_newz); (focus (first | rfl | (simp; done)))) | (with_reducible apply row_same) | ((with_reducible apply row_else); (focus (first | (simp; done) | (simp; omega) | omega))) | (with_reducible apply row_alloc) | (with_reducible apply row_drew) | (with_reducible apply row_drewN) | ((with_reducible apply row_up); assumption)))) | ((with_reducible apply st_rowZ infoW); exact rfl; exact rfl; focus (repeat (first | assumption | ((with_reducible apply row_newc); (focus (first | rfl | (simp; done)))) | ((with_reducible apply row_newz); (focus (first | rfl | (simp; done)))) | (with_reducible apply row_same) | ((with_reducible apply row_else); (focus (first | (simp; done) | (simp; omega) | omega))) | (with_reducible apply row_alloc) | (with_reducible apply row_drew) | (with_reducible apply row_drewN) | ((with_reducible apply row_up); assumption)))))
        exact bodyPost_ret (res2 rfl undW infoW _ _ rfl (by (repeat (first | assumption | ((with_reducible apply row_newc); (focus (first | rfl | (simp; done)))) | ((with_reducible apply row_newz); (focus (first | rfl | (simp; done)))) | (with_reducible apply row_same) | ((with_reducible apply row_else); (focus (first | (simp; done) | (simp; omega) | omega))) | (with_reducible apply row_alloc) | (with_reducible apply row_drew) | (with_reducible apply row_drewN) | ((with_reducible apply row_up); assumption))))) rfl ⟨rfl, (by repeat (first | assumption | (with_reducible apply Up.of) | (with_reducible exact Below.refl _ _) | (with_reducible exact Up.refl _) | ((with_reducible apply bl_setRow); (focus (first | exact Nat.le_refl _ | (simp; done) | (simp; omega) | omega))) | (with_reducible apply below_drewN) | (with_reducible apply Below.drew) | ((with_reducible apply bl_alloc); (focus (first | exact Nat.le_refl _ | (simp; done) | (simp; omega) | omega))) | ((with_reducible apply bl_setCell); (focus (first | exact Nat.le_refl _ | (simp; done) | (simp; omega) | omega))) | ((with_reducible apply up_tr); assumption)))⟩
    · have hd2 : decide (b < 0) = false := by simpa using b0
      rw [hd2] at HB
      rw [opt_yes (hk2 (by simp [a0, b0]))]
      clear hk1 hk2 hd hd2 a0 b0
      unfold wideV at *
      go_enter Tryz.func120, Tryz.ntmps120
      go_wp2_with (first | ((with_reducible apply ld_rowP undW infoW); exact rfl; exact rfl; focus (repeat (first | assumption | ((with_reducible apply row_newc); (focus (first | rfl | (simp; done)))) | ((with_reducible apply row_newz); (focus (first | rfl | (simp; done)))) | (with_reducible apply row_same) | ((with_reducible apply row_else); (focus (first | (simp; done) | (simp; omega) | omega))) | (with_reducible apply row_alloc) | (with_reducible apply row_drew) | (with_reducible apply row_drewN) | ((with_reducible apply row_up); assumption)))) | ((with_reducible apply st_rowP infoW); exact rfl; exact rfl; focus (repeat (first | assumption | ((with_reducible apply row_newc); (focus (first | rfl | (simp; done)))) | ((with_reducible apply row_newz); (focus (first | rfl | (simp; done)))) | (with_reducible apply row_same) | ((with_reducible apply row_else); (focus (first | (simp; done) | (simp; omega) | omega))) | (with_reducible apply row_alloc) | (with_reducible apply row_drew) | (with_reducible apply row_drewN) | ((with_reducible apply row_up); assumption)))) | ((with_reducible apply st_rowZ infoW); exact rfl; exact rfl; focus (repeat (first | assumption | ((with_reducible apply row_newc); (focus (first | rfl | (simp; done)))) | ((with_reducible apply row_newz); (focus (first | rfl | (simp; done)))) | (with_reducible apply row_same) | ((with_reducible apply row_else); (focus (first | (simp; done) | (simp; omega) | omega))) | (with_reducible apply row_alloc) | (with_reducible apply row_drew) | (with_reducible apply row_drewN) | ((with_reducible apply row_up); assumption)))) | (go_at_call 140; refine (HP.out _).mono ?_; rintro e w' ⟨rfl, hu⟩; have hsz := hu.size; simp at hsz))
      refine wp_region_upH (S := (fun wq => Row wq w.heap.size 33 16 (limb (enc a)) ∧ Row wq (w.heap.size + 1) 33 16 (limb (enc b)) ∧ Row wq (w.heap.size + 1 + 1) 33 16 (fun _ => 0) ∧ Row wq w'.heap.size 33 16 (limb (enc (a - b))) ∧ Below w.heap.size w wq)) (req := (fun _ => true)) (by kernel_rfl) (fun _ _ h hu => ⟨(h.1).up hu, (h.2.1).up hu, (h.2.2.1).up hu, (h.2.2.2.1).up hu, below_up (h.2.2.2.2) hu⟩) ⟨(by (repeat (first | assumption | ((with_reducible apply row_newc); (focus (first | rfl | (simp; done)))) | ((with_reducible apply row_newz); (focus (first | rfl | (simp; done)))) | (with_reducible apply row_same) | ((with_reducible apply row_else); (focus (first | (simp; done) | (simp; omega) | omega))) | (with_reducible apply row_alloc) | (with_reducible apply row_drew) | (with_reducible apply row_drewN) | ((with_reducible apply row_up); assumption)))), (by (repeat (first | assumption | ((with_reducible apply row_newc); (focus (first | rfl | (simp; done)))) | ((with_reducible apply row_newz); (focus (first | rfl | (simp; done)))) | (with_reducible apply row_same) | ((with_reducible apply row_else); (focus (first | (simp; done) | (simp; omega) | omega))) | (with_reducible apply row_alloc) | (with_reducible apply row_drew) | (with_reducible apply row_drewN) | ((with_reducible apply row_up); assumption)))), (by (repeat (first | assumption | ((with_reducible apply row_newc); (focus (first | rfl | (simp; done)))) | ((with_reducible apply row_newz); (focus (first | rfl | (simp; done)))) | (with_reducible apply row_same) | ((with_reducible apply row_else); (focus (first | (simp; done) | (simp; omega) | omega))) | (with_reducible apply row_alloc) | (with_reducible apply row_drew) | (with_reducible apply row_drewN) | ((with_reducible apply row_up); assumption)))), (by (repeat (first | assumption | ((with_reducible apply row_newc); (focus (first | rfl | (simp; done)))) | ((with_reducible apply row_newz); (focus (first | rfl | (simp; done)))) | (with_reducible apply row_same) | ((with_reducible apply row_else); (focus (first | (simp; done) | (simp; omega) | omega))) | (with_reducible apply row_alloc) | (with_reducible apply row_drew) | (with_reducible apply row_drewN) | ((with_reducible apply row_up); assumption)))), (by repeat (first | assumption | (with_reducible apply Up.of) | (with_reducible exact Below.refl _ _) | (with_reducible exact Up.refl _) | ((with_reducible apply bl_setRow); (focus (first | exact Nat.le_refl _ | (simp; done) | (simp; omega) | omega))) | (with_reducible apply below_drewN) | (with_reducible apply Below.drew) | ((with_reducible apply bl_alloc); (focus (first | exact Nat.le_refl _ | (simp; done) | (simp; omega) | omega))) | ((with_reducible apply bl_setCell); (focus (first | exact Nat.le_refl _ | (simp; done) | (simp; omega) | omega))) | ((with_reducible apply up_tr); assumption)))⟩ (fun wS hSS hSu => ?_)
      have ⟨hS1, hS2, hS3, hS4, hSB⟩ := hSS
      clear hu
      refine wpAnyU_take (i := 0) (d := (some 10)) (v := _) rfl rfl (by kernel_rfl) (fun _ _ _ h => h) hSu.out hSS (Or.inl ⟨by rfl, fun w' hSw => yu_value (run_ld undW infoW _ rfl _ rfl hSw.1)⟩) ?_
      try simp only [Act.put, pu1, pu2, pu3]
      refine wpAnyU_take (i := 1) (d := (some 11)) (v := _) rfl rfl (by kernel_rfl) (fun _ _ _ h => h) hSu.out hSS (Or.inl ⟨by rfl, fun w' hSw => yu_call ?_ (HA.out _)⟩) ?_
      · go_simp
      try simp only [Act.put, pu1, pu2, pu3]
      refine wpAnyU_take (i := 2) (d := (some 12)) (v := _) rfl rfl (by kernel_rfl) (fun _ _ _ h => h) hSu.out hSS (Or.inl ⟨by rfl, fun w' hSw => yu_value (run_ld undW infoW _ rfl _ rfl hSw.2.1)⟩) ?_
      try simp only [Act.put, pu1, pu2, pu3]
      refine wpAnyU_take (i := 3) (d := (some 13)) (v := _) rfl rfl (by kernel_rfl) (fun _ _ _ h => h) hSu.out hSS (Or.inl ⟨by rfl, fun w' hSw => yu_call ?_ (HB.out _)⟩) ?_
      · go_simp
      try simp only [Act.put, pu1, pu2, pu3]
      refine wpAnyU_pure (i := 4) (d := (some 14)) (v := ?_) rfl rfl (by kernel_rfl) (fun _ _ _ h => h) hSu.out (Or.inl ⟨by rfl, fun w' _ => yu_value ?_⟩) ?_
      rotate_left
      · (go_simp; (try exact rfl))
      try simp only [Act.put, pu1, pu2, pu3]
      refine wpAnyU_pure (i := 5) (d := (some 15)) (v := ?_) rfl rfl (by kernel_rfl) (fun _ _ _ h => h) hSu.out (Or.inl ⟨by rfl, fun w' _ => yu_value ?_⟩) ?_
      rotate_left
      · (go_simp; (try exact rfl))
      try simp only [Act.put, pu1, pu2, pu3]
      refine wpAnyU_pure (i := 6) (d := (some 16)) (v := undef) rfl rfl (by kernel_rfl) (fun _ _ _ h => h) hSu.out (Or.inr ⟨by rfl, rfl⟩) ?_
      try simp only [Act.put, pu1, pu2, pu3]
      refine wpAnyU_pure (i := 7) (d := (some 17)) (v := undef) rfl rfl (by kernel_rfl) (fun _ _ _ h => h) hSu.out (Or.inr ⟨by rfl, rfl⟩) ?_
      try simp only [Act.put, pu1, pu2, pu3]
      refine wpAnyU_pure (i := 8) (d := (some 18)) (v := undef) rfl rfl (by kernel_rfl) (fun _ _ _ h => h) hSu.out (Or.inr ⟨by rfl, rfl⟩) ?_
      try simp only [Act.put, pu1, pu2, pu3]
      refine wpAnyU_pure (i := 9) (d := (some 19)) (v := undef) rfl rfl (by kernel_rfl) (fun _ _ _ h => h) hSu.out (Or.inr ⟨by rfl, rfl⟩) ?_
      try simp only [Act.put, pu1, pu2, pu3]
      refine wpAnyU_pure (i := 10) (d := (some 20)) (v := undef) rfl rfl (by kernel_rfl) (fun _ _ _ h => h) hSu.out (Or.inr ⟨by rfl, rfl⟩) ?_
      try simp only [Act.put, pu1, pu2, pu3]
      refine wpAnyU_pure (i := 11) (d := (some 21)) (v := ?_) rfl rfl (by kernel_rfl) (fun _ _ _ h => h) hSu.out (Or.inl ⟨by rfl, fun w' _ => yu_value ?_⟩) ?_
      rotate_left
      · (go_simp; (try exact rfl))
      try simp only [Act.put, pu1, pu2, pu3]
      refine wpAnyU_done (by kernel_rfl) (fun wE huE => ?_) _
      have ⟨hS1, hS2, hS3, hS4, hSB⟩ := hSu.out _ _ hSS huE
      clear huE hSS
      go_wp2_with (first | ((with_reducible apply ld_rowP undW infoW); exact rfl; exact rfl; focus (repeat (first | assumption | ((with_reducible apply row_newc); (focus (first | rfl | (simp; done)))) | ((with_reducible apply row_newz); (focus (first | rfl | (simp; done)))) | (with_reducible apply row_same) | ((with_reducible apply row_else); (focus (first | (simp; done) | (simp; omega) | omega))) | (with_reducible apply row_alloc) | (with_reducible apply row_drew) | (with_reducible apply row_drewN) | ((with_reducible apply row_up); assumption)))) | ((with_reducible apply st_rowP infoW); exact rfl; exact rfl; focus (repeat (first | assumption | ((with_reducible apply row_newc); (focus (first | rfl | (simp; done)))) | ((with_reducible apply row_newz); (focus (first | rfl | (simp; done)))) | (with_reducible apply row_same) | ((with_reducible apply row_else); (focus (first | (simp; done) | (simp; omega) | omega))) | (with_reducible apply row_alloc) | (with_reducible apply row_drew) | (with_reducible apply row_drewN) | ((with_reducible apply row_up); assumption)))) | ((with_reducible apply st_rowZ infoW); exact rfl; exact rfl; focus (repeat (first | assumption | ((with_reducible apply row_newc); (focus (first | rfl | (simp; done)))) | ((with_reducible apply row_newz); (focus (first | rfl | (simp; done)))) | (with_reducible apply row_same) | ((with_reducible apply row_else); (focus (first | (simp; done) | (simp; omega) | omega))) | (with_reducible apply row_alloc) | (with_reducible apply row_drew) | (with_reducible apply row_drewN) | ((with_reducible apply row_up); assumption)))))
      exact bodyPost_ret (res2 rfl undW infoW _ _ rfl (by (repeat (first | assumption | ((with_reducible apply row_newc); (focus (first | rfl | (simp; done)))) | ((with_reducible apply row_newz); (focus (first | rfl | (simp; done)))) | (with_reducible apply row_same) | ((with_reducible apply row_else); (focus (first | (simp; done) | (simp; omega) | omega))) | (with_reducible apply row_alloc) | (with_reducible apply row_drew) | (with_reducible apply row_drewN) | ((with_reducible apply row_up); assumption))))) rfl ⟨rfl, (by repeat (first | assumption | (with_reducible apply Up.of) | (with_reducible exact Below.refl _ _) | (with_reducible exact Up.refl _) | ((with_reducible apply bl_setRow); (focus (first | exact Nat.le_refl _ | (simp; done) | (simp; omega) | omega))) | (with_reducible apply below_drewN) | (with_reducible apply Below.drew) | ((with_reducible apply bl_alloc); (focus (first | exact Nat.le_refl _ | (simp; done) | (simp; omega) | omega))) | ((with_reducible apply bl_setCell); (focus (first | exact Nat.le_refl _ | (simp; done) | (simp; omega) | omega))) | ((with_reducible apply up_tr); assumption)))⟩
theorem step_arith {x y a b h l r1 c1 r2 c2 : Nat} (hx : x < 18446744073709551616) (hy : y < 18446744073709551616) (ha : a < 18446744073709551616) (hb' : b < 18446744073709551616)
    (eh : h = x * y / 18446744073709551616) (el : l = x * y % 18446744073709551616) (e1 : r1 = (l + a + 0) % 18446744073709551616) (f1 : c1 = (l + a + 0) / 18446744073709551616)
    (e2 : r2 = (r1 + b + 0) % 18446744073709551616) (f2 : c2 = (r1 + b + 0) / 18446744073709551616) :
    h + c1 + c2 < 18446744073709551616 ∧ r2 = (x * y + a + b) % 18446744073709551616 ∧ h + c1 + c2 = (x * y + a + b) / 18446744073709551616 := by
  have h1 : x * y ≤ 18446744073709551615 * 18446744073709551615 := Nat.mul_le_mul (by omega) (by omega)
  generalize x * y = p at *
  omega
set_option maxHeartbeats 400000 in
theorem step_any (x y a b : Nat) (hx : x < 18446744073709551616) (hy : y < 18446744073709551616) (ha : a < 18446744073709551616) (hb' : b < 18446744073709551616) (w : World) :
    Calls Tryz.prog 150 #[.int .u64 x, .int .u64 y, .int .u64 a, .int .u64 b] w
      fun e w' => e = .returned (.tuple #[.int .u64 ((x * y + a + b) % 18446744073709551616 : Nat), .int .u64 ((x * y + a + b) / 18446744073709551616 : Nat)]) ∧ w' = w := by
  obtain ⟨h, l, HM, eh, el⟩ : ∃ h l : Nat, Hid (∀ w, Calls Tryz.prog 109 #[.int .u64 x, .int .u64 y] w fun e w' => e = .returned (.tuple #[.int .u64 (h : Nat), .int .u64 (l : Nat)]) ∧ w' = w) ∧
      h = x * y / 18446744073709551616 ∧ l = x * y % 18446744073709551616 := ⟨_, _, hid (Tryz.bits_Mul64 x y hx hy), rfl, rfl⟩
  obtain ⟨r1, c1, HA, e1, f1⟩ : ∃ r c : Nat, (∀ w, (callFunc 107 #[.int .u64 (l : Nat), .int .u64 (a : Nat), .int .u64 0]).run Tryz.prog w = .ok (.value (.tuple #[.int .u64 (r : Nat), .int .u64 (c : Nat)])) w) ∧
      r = (l + a + 0) % 18446744073709551616 ∧ c = (l + a + 0) / 18446744073709551616 := ⟨_, _, run_add l a 0 (by omega), rfl, rfl⟩
  obtain ⟨r2, c2, HA2, e2, f2⟩ : ∃ r c : Nat, (∀ w, (callFunc 107 #[.int .u64 (r1 : Nat), .int .u64 (b : Nat), .int .u64 0]).run Tryz.prog w = .ok (.value (.tuple #[.int .u64 (r : Nat), .int .u64 (c : Nat)])) w) ∧
      r = (r1 + b + 0) % 18446744073709551616 ∧ c = (r1 + b + 0) / 18446744073709551616 := ⟨_, _, run_add r1 b 0 (by omega), rfl, rfl⟩
  obtain ⟨g1, g2, g3⟩ := step_arith hx hy ha hb' eh el e1 f1 e2 f2
  rw [← g2, ← g3]
  clear g2 g3 eh el e1 f1 e2 f2
  go_enter Tryz.func150, Tryz.ntmps150
  go_wp2_with (go_at_call 109; refine (HM.out _).mono ?_; rintro e w' ⟨rfl, rfl⟩)
  go_ret2
  exact ⟨rfl, rfl⟩
theorem i64V_yes {z : Int} (h : -9223372036854775808 ≤ z ∧ z < 9223372036854775808) : i64V z = .tuple #[.int .i64 z, .bool true] := by
  unfold i64V
  rw [if_pos h, decide_eq_true h]
theorem i64V_no {z : Int} (h : ¬ (-9223372036854775808 ≤ z ∧ z < 9223372036854775808)) : i64V z = .tuple #[.int .i64 0, .bool false] := by
  unfold i64V
  rw [if_neg h, decide_eq_false h]
theorem fx_size (v : Int) (h1 : -9223372036854775808 ≤ v) (h2 : v < 9223372036854775808) (w : World) :
    Calls Tryz.prog 135 #[.int .i64 v] w fun e w' => e = .returned (.int .u64 ((v.natAbs : Nat) : Int)) ∧ Up w w' := by
  by_cases h : v < 0
  · have hd : decide (v < 0) = true := decide_eq_true h
    have e : IntKind.u64.wrap (-IntKind.u64.wrap v) = ((v.natAbs : Nat) : Int) := by
      rw [IntKind.wrap_u64, IntKind.wrap_u64]; omega
    go_enter Tryz.func135, Tryz.ntmps135
    go_wp2
    go_ret
    exact ⟨rfl, (by repeat (first | assumption | (with_reducible apply Up.of) | (with_reducible exact Below.refl _ _) | (with_reducible exact Up.refl _) | ((with_reducible apply bl_setRow); (focus (first | exact Nat.le_refl _ | (simp; done) | (simp; omega) | omega))) | (with_reducible apply below_drewN) | (with_reducible apply Below.drew) | ((with_reducible apply bl_alloc); (focus (first | exact Nat.le_refl _ | (simp; done) | (simp; omega) | omega))) | ((with_reducible apply bl_setCell); (focus (first | exact Nat.le_refl _ | (simp; done) | (simp; omega) | omega))) | ((with_reducible apply up_tr); assumption)))⟩
  · have hd : decide (v < 0) = false := decide_eq_false h
    have e : IntKind.u64.wrap v = ((v.natAbs : Nat) : Int) := by
      rw [IntKind.wrap_u64]; omega
    go_enter Tryz.func135, Tryz.ntmps135
    go_wp2
    go_ret
    exact ⟨rfl, (by repeat (first | assumption | (with_reducible apply Up.of) | (with_reducible exact Below.refl _ _) | (with_reducible exact Up.refl _) | ((with_reducible apply bl_setRow); (focus (first | exact Nat.le_refl _ | (simp; done) | (simp; omega) | omega))) | (with_reducible apply below_drewN) | (with_reducible apply Below.drew) | ((with_reducible apply bl_alloc); (focus (first | exact Nat.le_refl _ | (simp; done) | (simp; omega) | omega))) | ((with_reducible apply bl_setCell); (focus (first | exact Nat.le_refl _ | (simp; done) | (simp; omega) | omega))) | ((with_reducible apply up_tr); assumption)))⟩
theorem fx_signed (n : Nat) (hn : n < 18446744073709551616) (neg : Bool) (w : World) :
    Calls Tryz.prog 134 #[.int .u64 n, .bool neg] w fun e w' => e = .returned (i64V (pm neg n)) ∧ Up w w' := by
  cases neg with
  | false =>
    by_cases h : n < 9223372036854775808
    · rw [show i64V (pm false n) = .tuple #[.int .i64 n, .bool true] from i64V_yes (by simp only [pm, Bool.false_eq_true, if_false]; omega)]
      have hc : IntKind.i64.wrap (n : Int) = n := IntWalk.i64_in _ (by omega)
      have hd : decide ((n : Int) < 0) = false := decide_eq_false (by omega)
      go_enter Tryz.func134, Tryz.ntmps134
      go_wp2
      go_ret2
      exact ⟨rfl, (by repeat (first | assumption | (with_reducible apply Up.of) | (with_reducible exact Below.refl _ _) | (with_reducible exact Up.refl _) | ((with_reducible apply bl_setRow); (focus (first | exact Nat.le_refl _ | (simp; done) | (simp; omega) | omega))) | (with_reducible apply below_drewN) | (with_reducible apply Below.drew) | ((with_reducible apply bl_alloc); (focus (first | exact Nat.le_refl _ | (simp; done) | (simp; omega) | omega))) | ((with_reducible apply bl_setCell); (focus (first | exact Nat.le_refl _ | (simp; done) | (simp; omega) | omega))) | ((with_reducible apply up_tr); assumption)))⟩
    · rw [show i64V (pm false n) = .tuple #[.int .i64 0, .bool false] from i64V_no (by simp only [pm, Bool.false_eq_true, if_false]; omega)]
      obtain ⟨u, hu⟩ : ∃ u : Int, u = (n : Int) - 18446744073709551616 := ⟨_, rfl⟩
      have hc : IntKind.i64.wrap (n : Int) = u := by rw [IntKind.wrap_i64]; omega
      have hd : decide (u < 0) = true := decide_eq_true (by omega)
      have h0 : ((n : Int) != 0) = true := by simp; omega
      clear hu h hn
      go_enter Tryz.func134, Tryz.ntmps134
      go_wp2
      go_ret2
      exact ⟨rfl, (by repeat (first | assumption | (with_reducible apply Up.of) | (with_reducible exact Below.refl _ _) | (with_reducible exact Up.refl _) | ((with_reducible apply bl_setRow); (focus (first | exact Nat.le_refl _ | (simp; done) | (simp; omega) | omega))) | (with_reducible apply below_drewN) | (with_reducible apply Below.drew) | ((with_reducible apply bl_alloc); (focus (first | exact Nat.le_refl _ | (simp; done) | (simp; omega) | omega))) | ((with_reducible apply bl_setCell); (focus (first | exact Nat.le_refl _ | (simp; done) | (simp; omega) | omega))) | ((with_reducible apply up_tr); assumption)))⟩
  | true =>
    by_cases h : n ≤ 9223372036854775808
    · rw [show i64V (pm true n) = .tuple #[.int .i64 (-(n : Int)), .bool true] from i64V_yes (by simp only [pm, if_true]; omega)]
      obtain ⟨u, hu⟩ : ∃ u : Int, u = if (n : Int) < 9223372036854775808 then (n : Int) else -9223372036854775808 := ⟨_, rfl⟩
      have hc : IntKind.i64.wrap (n : Int) = u := by rw [IntKind.wrap_i64]; split at hu <;> omega
      obtain ⟨v, hv⟩ : ∃ v : Int, v = -(n : Int) := ⟨_, rfl⟩
      have hc2 : IntKind.i64.wrap (-u) = v := by rw [IntKind.wrap_i64]; split at hu <;> omega
      by_cases h0 : n = 0
      · have h00 : ((n : Int) != 0) = false := by simp; omega
        have hd : decide (v < 0) = false := decide_eq_false (by omega)
        rw [← hv]
        clear hu hv h hn h0
        go_enter Tryz.func134, Tryz.ntmps134
        go_wp2
        go_ret2
        exact ⟨rfl, (by repeat (first | assumption | (with_reducible apply Up.of) | (with_reducible exact Below.refl _ _) | (with_reducible exact Up.refl _) | ((with_reducible apply bl_setRow); (focus (first | exact Nat.le_refl _ | (simp; done) | (simp; omega) | omega))) | (with_reducible apply below_drewN) | (with_reducible apply Below.drew) | ((with_reducible apply bl_alloc); (focus (first | exact Nat.le_refl _ | (simp; done) | (simp; omega) | omega))) | ((with_reducible apply bl_setCell); (focus (first | exact Nat.le_refl _ | (simp; done) | (simp; omega) | omega))) | ((with_reducible apply up_tr); assumption)))⟩
      · have hd : decide (v < 0) = true := decide_eq_true (by omega)
        rw [← hv]
        clear hu hv h hn h0
        go_enter Tryz.func134, Tryz.ntmps134
        go_wp2
        go_ret2
        exact ⟨rfl, (by repeat (first | assumption | (with_reducible apply Up.of) | (with_reducible exact Below.refl _ _) | (with_reducible exact Up.refl _) | ((with_reducible apply bl_setRow); (focus (first | exact Nat.le_refl _ | (simp; done) | (simp; omega) | omega))) | (with_reducible apply below_drewN) | (with_reducible apply Below.drew) | ((with_reducible apply bl_alloc); (focus (first | exact Nat.le_refl _ | (simp; done) | (simp; omega) | omega))) | ((with_reducible apply bl_setCell); (focus (first | exact Nat.le_refl _ | (simp; done) | (simp; omega) | omega))) | ((with_reducible apply up_tr); assumption)))⟩
    · rw [show i64V (pm true n) = .tuple #[.int .i64 0, .bool false] from i64V_no (by simp only [pm, if_true]; omega)]
      obtain ⟨u, hu⟩ : ∃ u : Int, u = (n : Int) - 18446744073709551616 := ⟨_, rfl⟩
      have hc : IntKind.i64.wrap (n : Int) = u := by rw [IntKind.wrap_i64]; omega
      obtain ⟨v, hv⟩ : ∃ v : Int, v = -u := ⟨_, rfl⟩
      have hc2 : IntKind.i64.wrap (-u) = v := by rw [IntKind.wrap_i64]; omega
      have hd : decide (v < 0) = false := decide_eq_false (by omega)
      have h0 : ((n : Int) != 0) = true := by simp; omega
      clear hu hv h hn
      go_enter Tryz.func134, Tryz.ntmps134
      go_wp2
      go_ret2
      exact ⟨rfl, (by repeat (first | assumption | (with_reducible apply Up.of) | (with_reducible exact Below.refl _ _) | (with_reducible exact Up.refl _) | ((with_reducible apply bl_setRow); (focus (first | exact Nat.le_refl _ | (simp; done) | (simp; omega) | omega))) | (with_reducible apply below_drewN) | (with_reducible apply Below.drew) | ((with_reducible apply bl_alloc); (focus (first | exact Nat.le_refl _ | (simp; done) | (simp; omega) | omega))) | ((with_reducible apply bl_setCell); (focus (first | exact Nat.le_refl _ | (simp; done) | (simp; omega) | omega))) | ((with_reducible apply up_tr); assumption)))⟩
theorem fx_amount (v : Int) (h1 : -9223372036854775808 ≤ v) (h2 : v < 9223372036854775808) (w : World) :
    Calls Tryz.prog 113 #[.int .i64 v] w fun e w' => e = .returned (i64V (v.natAbs : Nat)) ∧ Up w w' := by
  have HS := hid (fun w => fx_size v h1 h2 w)
  have HG := hid (fun w => fx_signed v.natAbs (by omega) false w)
  rw [show pm false v.natAbs = ((v.natAbs : Nat) : Int) from rfl] at HG
  generalize v.natAbs = n at *
  obtain ⟨x, ok, hx⟩ : ∃ x ok, i64V (n : Int) = .tuple #[.int .i64 x, .bool ok] := ⟨_, _, rfl⟩
  rw [hx] at HG ⊢
  clear hx
  go_enter Tryz.func113, Tryz.ntmps113
  go_wp2_with (first | (go_at_call 135; refine (HS.out _).mono ?_; rintro e w' ⟨rfl, hu⟩) | (go_at_call 134; refine (HG.out _).mono ?_; rintro e w' ⟨rfl, hu⟩))
  go_ret2
  exact ⟨rfl, (by repeat (first | assumption | (with_reducible apply Up.of) | (with_reducible exact Below.refl _ _) | (with_reducible exact Up.refl _) | ((with_reducible apply bl_setRow); (focus (first | exact Nat.le_refl _ | (simp; done) | (simp; omega) | omega))) | (with_reducible apply below_drewN) | (with_reducible apply Below.drew) | ((with_reducible apply bl_alloc); (focus (first | exact Nat.le_refl _ | (simp; done) | (simp; omega) | omega))) | ((with_reducible apply bl_setCell); (focus (first | exact Nat.le_refl _ | (simp; done) | (simp; omega) | omega))) | ((with_reducible apply up_tr); assumption)))⟩
inductive Er where
  | num (n : Int)
  | nilf (op : ByteArray)
  | flt (op : ByteArray) (e : Er)
def IsEr (w : World) : Value → Er → Prop
  | v, .num n => v = .iface 101 (.int .i64 n)
  | v, .nilf op => ∃ b, v = .iface 150 (.pointer (some ⟨b, 0, none⟩)) ∧ Blk w b 153 #[.string op, .nilIface]
  | v, .flt op e => ∃ b u, v = .iface 150 (.pointer (some ⟨b, 0, none⟩)) ∧ Blk w b 153 #[.string op, u] ∧ IsEr w u e
theorem IsEr.up {w w' : World} (hu : Up w w') {v : Value} {e : Er} (h : IsEr w v e) : IsEr w' v e := by
  induction e generalizing v with
  | num n => exact h
  | nilf op => obtain ⟨b, h1, h2⟩ := h; exact ⟨b, h1, h2.up hu⟩
  | flt op e ih => obtain ⟨b, u, h1, h2, h3⟩ := h; exact ⟨b, u, h1, h2.up hu, ih h3⟩
theorem IsEr.iface {w : World} {v : Value} {e : Er} (h : IsEr w v e) : ∃ t u, v = .iface t u := by
  cases e with
  | num n => exact ⟨_, _, h⟩
  | nilf op => obtain ⟨b, h1, _⟩ := h; exact ⟨_, _, h1⟩
  | flt op e => obtain ⟨b, u, h1, _⟩ := h; exact ⟨_, _, h1⟩
def Er.has (n : Int) : Er → Bool
  | .num m => m == n
  | .nilf _ => false
  | .flt _ e => e.has n
def Er.first : Er → Option Int
  | .num m => some m
  | .nilf _ => none
  | .flt _ e => e.first
def Er.ops : Er → List ByteArray
  | .num _ => []
  | .nilf op => [op]
  | .flt op e => op :: e.ops
theorem wrap_any {op : ByteArray} {v : Value} {e : Er} {w : World} (h : IsEr w v e) :
    Calls Tryz.prog 97 #[.string op, v] w fun r w' => ∃ u, r = .returned u ∧ Up w w' ∧ IsEr w' u (.flt op e) := by
  obtain ⟨t, u, rfl⟩ := h.iface
  have H := hid h
  clear h
  go_enter Tryz.func97, Tryz.ntmps97
  go_wp2
  go_ret
  exact ⟨_, rfl, Up.alloc _ _, _, _, rfl, Blk.new _ _ rfl, H.out.up (Up.alloc _ _)⟩
end Go.Proofs.YtjoenldfjggciaaGreatDoor
namespace Go.Proofs.YtjoenldfjggciaaGreatDoor
open Go Go.RowKit Go.Extern.Stop Go.Stop Go.Extern
set_option maxRecDepth 100000
theorem noUnN (v : Value) (xT : TypeId) (w : World) : (Instr.typeAssert (.iface 101 v) xT 206 true).run Tryz.prog w = .ok (.tuple #[.nilIface, .bool false]) w := run_typeAssert_lacksB Tryz.underlying206 (by kernel_rfl) (by kernel_rfl) v xT w
theorem noUsN (v : Value) (xT : TypeId) (w : World) : (Instr.typeAssert (.iface 101 v) xT 192 true).run Tryz.prog w = .ok (.tuple #[.nilIface, .bool false]) w := run_typeAssert_lacksB Tryz.underlying192 (by kernel_rfl) (by kernel_rfl) v xT w
theorem hasUnF (v : Value) (xT : TypeId) (w : World) : (Instr.typeAssert (.iface 150 v) xT 206 true).run Tryz.prog w = .ok (.tuple #[.iface 150 v, .bool true]) w := run_typeAssert_hasB Tryz.underlying206 (by kernel_rfl) v xT w
theorem unwrap_flt {b : Nat} {op : ByteArray} {u : Value} {w : World} (h : Blk w b 153 #[.string op, u]) :
    Calls Tryz.prog 177 #[.pointer (some ⟨b, 0, none⟩)] w fun r w' => r = .returned u ∧ w' = w := by
  have hc := h.cell 1 rfl
  go_enter Tryz.func177, Tryz.ntmps177
  go_wp2
  go_ret
  exact ⟨rfl, rfl⟩
theorem mUnF (v : Value) (w : World) : (Go.method 350 150 v "Unwrap").run Tryz.prog w = .ok (177, v) w := by kernel_rfl
def Er.size : Er → Nat
  | .num _ => 1
  | .nilf _ => 1
  | .flt _ e => e.size + 1
end Go.Proofs.YtjoenldfjggciaaGreatDoor
namespace Go.Proofs.YtjoenldfjggciaaGreatDoor
open Go Go.RowKit Go.Extern.Stop Go.Stop Go.Extern
set_option maxRecDepth 100000
theorem valueOfP (t : Addr) (w : World) : (ReflectliteValue.unpack (.iface 155 (.pointer (some t)))).run Tryz.prog w
    = .ok (.agg #[.pointer (some ⟨3, 155, none⟩), .pointer (some ⟨w.heap.size, 0, none⟩), .int .u64 150]) (w.alloc (.cells #[.pointer (some t)] 155)) := by kernel_rfl
theorem typeP (a : Addr) (w : World) : (ReflectliteValue.methodAny (ReflectliteValue.valueError "reflectlite.Value.Type" 0) (fun t _ _ _ => ReflectliteType.toType t) #[.agg #[.pointer (some ⟨3, 155, none⟩), .pointer (some a), .int .u64 150]]).run Tryz.prog w
    = .ok (.iface 198 (.agg #[.pointer (some ⟨3, 155, none⟩)])) w := by kernel_rfl
theorem mKind (h : Value) (w : World) : (Go.method 350 198 (.agg #[h]) "Kind").run Tryz.prog w = .ok (172, h) w := by kernel_rfl
theorem kindP (w : World) : ((ReflectliteType.abiMethod fun t => (fun a : Nat => Value.int IntKind.u8 (a : Int)) <$> Rtype.kind t) #[.pointer (some ⟨3, 155, none⟩)]).run Tryz.prog w = .ok (.int .u8 22) w := by kernel_rfl
theorem kindN (w : World) : ((ReflectliteType.abiMethod fun t => (fun a : Nat => Value.int IntKind.u8 (a : Int)) <$> Rtype.kind t) #[.pointer (some ⟨3, 101, none⟩)]).run Tryz.prog w = .ok (.int .u8 2) w := by kernel_rfl
theorem rlm (z : Sem Value) (f : TypeId → Addr → Nat → Nat → Sem Value) (v : Value) :
    ReflectliteValue.method z f #[v] = (do match ← ReflectliteValue.parts v with | none => z | some (t, a, fl) => f t a fl (fl % 32)) := rfl
theorem partsP (a : Addr) (w : World) : (ReflectliteValue.parts (.agg #[.pointer (some ⟨3, 155, none⟩), .pointer (some a), .int .u64 150])).run Tryz.prog w = .ok (some (155, a, 150)) w := by kernel_rfl
theorem isNilP (a p : Addr) (W : World) (ha : W.cell? a = some (.pointer (some p))) :
    (ReflectliteValue.method (ReflectliteValue.valueError "reflectlite.Value.IsNil" 0) ReflectliteValue.isNil #[.agg #[.pointer (some ⟨3, 155, none⟩), .pointer (some a), .int .u64 150]]).run Tryz.prog W = .ok (.bool false) W := by
  rw [rlm]
  simp only [Sem.run_bind, partsP, Result.andThen]
  simp [ReflectliteValue.isNil, loadVar, isAgg, underlying, Tryz.underlying155, ha, Result.andThen]
theorem mElem (h : Value) (w : World) : (Go.method 350 198 (.agg #[h]) "Elem").run Tryz.prog w = .ok (184, .agg #[h]) w := by kernel_rfl
theorem mImplements (h : Value) (w : World) : (Go.method 350 198 (.agg #[h]) "Implements").run Tryz.prog w = .ok (185, .agg #[h]) w := by kernel_rfl
theorem mAssignableTo (h : Value) (w : World) : (Go.method 350 198 (.agg #[h]) "AssignableTo").run Tryz.prog w = .ok (182, .agg #[h]) w := by kernel_rfl
theorem elemP (w : World) : (ReflectliteType.method ReflectliteType.elem #[.agg #[.pointer (some ⟨3, 155, none⟩)]]).run Tryz.prog w = .ok (.iface 198 (.agg #[.pointer (some ⟨3, 101, none⟩)])) w := by kernel_rfl
theorem implementsN (w : World) : (ReflectliteType.relation "Implements" ReflectliteType.implements_ #[.agg #[.pointer (some ⟨3, 101, none⟩)], .iface 198 (.agg #[.pointer (some ⟨3, 35, none⟩)])]).run Tryz.prog w = .ok (.bool true) w := by kernel_rfl
theorem typeOfN2 (v : Value) (w : World) : (ReflectliteType.typeOf #[.iface 101 v]).run Tryz.prog w = .ok (.iface 198 (.agg #[.pointer (some ⟨3, 101, none⟩)])) w := by kernel_rfl
theorem typeOfF (v : Value) (w : World) : (ReflectliteType.typeOf #[.iface 150 v]).run Tryz.prog w = .ok (.iface 198 (.agg #[.pointer (some ⟨3, 150, none⟩)])) w := by kernel_rfl
theorem assignN (w : World) : (ReflectliteType.relation "AssignableTo" ReflectliteType.assignableTo #[.agg #[.pointer (some ⟨3, 101, none⟩)], .iface 198 (.agg #[.pointer (some ⟨3, 101, none⟩)])]).run Tryz.prog w = .ok (.bool true) w := by kernel_rfl
theorem assignF (w : World) : (ReflectliteType.relation "AssignableTo" ReflectliteType.assignableTo #[.agg #[.pointer (some ⟨3, 150, none⟩)], .iface 198 (.agg #[.pointer (some ⟨3, 101, none⟩)])]).run Tryz.prog w = .ok (.bool false) w := by kernel_rfl
theorem valueOfN (n : Int) (w : World) : (ReflectliteValue.unpack (.iface 101 (.int .i64 n))).run Tryz.prog w
    = .ok (.agg #[.pointer (some ⟨3, 101, none⟩), .pointer (some ⟨w.heap.size, 0, none⟩), .int .u64 130]) (w.alloc (.cells #[.int .i64 n] 101)) := by kernel_rfl
theorem elemOfP (w : World) : (Rtype.elem? 155).run Tryz.prog w = .ok (some 101) w := by kernel_rfl
theorem mkN (p : Addr) (w : World) : (ReflectliteValue.mk 101 p ReflectliteValue.flagAddr).run Tryz.prog w = .ok (.agg #[.pointer (some ⟨3, 101, none⟩), .pointer (some p), .int .u64 386]) w := by kernel_rfl
theorem elemVP (a p : Addr) (W : World) (ha : W.cell? a = some (.pointer (some p))) :
    (ReflectliteValue.method (ReflectliteValue.valueError "reflectlite.Value.Elem" 0) ReflectliteValue.elem #[.agg #[.pointer (some ⟨3, 155, none⟩), .pointer (some a), .int .u64 150]]).run Tryz.prog W
      = .ok (.agg #[.pointer (some ⟨3, 101, none⟩), .pointer (some p), .int .u64 386]) W := by
  rw [rlm]
  simp only [Sem.run_bind, partsP, Result.andThen]
  simp [ReflectliteValue.elem, loadVar, isAgg, underlying, Tryz.underlying155, ha, Result.andThen, elemOfP, mkN]
theorem lt_of_cell {w : World} {a : Addr} {v : Value} (h : w.cell? a = some v) : a.block < w.heap.size := by
  rcases Nat.lt_or_ge a.block w.heap.size with h1 | h1
  · exact h1
  · simp [World.cell?, Array.getElem?_eq_none h1] at h
theorem rls (v x : Value) : ReflectliteValue.set #[v, x] = (do
    let (some (dst, a, fl), some (src, b, _)) := (← ReflectliteValue.parts v, ← ReflectliteValue.parts x)
      | unsupported (.noEntry "extern/(internal/reflectlite.Value).Set.zeroValue")
    if fl / ReflectliteValue.flagAddr % 2 == 0 then unsupported (.noEntry "extern/(internal/reflectlite.Value).Set.unaddressable")
    let val ← loadVar src b
    if ← Rtype.directlyAssignable dst src then storeVar dst a val
    else if ← Rtype.implements dst src then
      if (← Rtype.kind src) == 20 then
        match val with
        | .nilIface => unsupported (.noEntry "extern/reflectlite: a nil value of one interface type handed on as a value of another")
        | _ => storeVar dst a val
      else storeVar dst a (.iface src val)
    else panicString ("reflectlite.Set: value of type " ++ (← Rtype.spelt src) ++ " is not assignable to type " ++ (← Rtype.spelt dst))
    pure (.tuple #[])) := rfl
theorem partsNa (a : Addr) (w : World) : (ReflectliteValue.parts (.agg #[.pointer (some ⟨3, 101, none⟩), .pointer (some a), .int .u64 386])).run Tryz.prog w = .ok (some (101, a, 386)) w := by kernel_rfl
theorem partsN (a : Addr) (w : World) : (ReflectliteValue.parts (.agg #[.pointer (some ⟨3, 101, none⟩), .pointer (some a), .int .u64 130])).run Tryz.prog w = .ok (some (101, a, 130)) w := by kernel_rfl
theorem directN (w : World) : (Rtype.directlyAssignable 101 101).run Tryz.prog w = .ok true w := by kernel_rfl
theorem setN (ta b : Addr) (n : Int) (old : Value) (W : World) (hb : W.cell? b = some (.int .i64 n)) (ht : W.cell? ta = some old) (hf : W.frozen? ta = false) :
    (ReflectliteValue.set #[.agg #[.pointer (some ⟨3, 101, none⟩), .pointer (some ta), .int .u64 386], .agg #[.pointer (some ⟨3, 101, none⟩), .pointer (some b), .int .u64 130]]).run Tryz.prog W
      = .ok (.tuple #[]) (W.setCell ta (.int .i64 n)) := by
  rw [rls]
  simp only [Sem.run_bind, partsNa, partsN, Result.andThen]
  simp [ReflectliteValue.flagAddr, loadVar, isAgg, underlying, Tryz.underlying101, hb, Result.andThen, directN, storeVar, Value.cells, storeCells, Addr.add]
  rw [run_store Tryz.prog W ta _ _ (by rfl)]
  simp [ht, hf]
theorem noAsN (v : Value) (xT : TypeId) (w : World) : (Instr.typeAssert (.iface 101 v) xT 203 true).run Tryz.prog w = .ok (.tuple #[.nilIface, .bool false]) w := run_typeAssert_lacksB Tryz.underlying203 (by kernel_rfl) (by kernel_rfl) v xT w
theorem noAsF (v : Value) (xT : TypeId) (w : World) : (Instr.typeAssert (.iface 150 v) xT 203 true).run Tryz.prog w = .ok (.tuple #[.nilIface, .bool false]) w := run_typeAssert_lacksB Tryz.underlying203 (by kernel_rfl) (by kernel_rfl) v xT w
theorem undV0 : (match Tryz.prog.underlying 175 with | some (.struct _) => true | _ => false) = true := by kernel_rfl
theorem undV : ∃ fs, Tryz.prog.underlying 175 = some (.struct fs) := by
  have h := undV0
  cases hq : Tryz.prog.underlying 175 with
  | none => rw [hq] at h; simp at h
  | some d =>
    rw [hq] at h
    cases d <;> first | exact ⟨_, rfl⟩ | simp at h
theorem infoV : (Tryz.prog.info? 175).map (·.size) = some 3 := by kernel_rfl
theorem ldV {ops : Array Oper} {rest : List Oper} {Q : Exit → Act → World → Prop} {a : Act} {w : World} {d : Option Tmp} {s : Tmp} {ty : TypeId} {pos : String} {af : Array Edge} {gd : Option (Nat × Bool)} {g : Nat} {C : Array Value}
    (hw : Region.wanted { dst := d, op := .load 175 (.tmp s), type := ty, pos := pos, after := af, guard := gd } (yielded ops a.tmps) = true) (hx : a.eval (.tmp s) = .pointer (some ⟨g, 0, none⟩)) (hC : Blk w g 175 C) (h2 : C.size = 3)
    (h : wpList Tryz.prog ops Q rest (a.put d (.agg C)) w) : wpList Tryz.prog ops Q ({ dst := d, op := .load 175 (.tmp s), type := ty, pos := pos, after := af, guard := gd } :: rest) a w := by
  refine wpList_run hw ?_ h
  obtain ⟨fs, hu⟩ := undV
  unfold execOp
  simp only [hx, Instr.loadAt, Instr.sureAddr, Sem.run_bind, Sem.run_pure, Result.andThen_ok, run_loadVar_row w g _ 175 C (0, 0) _ hC hu rfl (by rw [infoV, h2])]
theorem Up.frozen {w w' : World} (hu : Up w w') {a : Addr} (h : a.block < w.heap.size) (hf : w.frozen? a = false) : w'.frozen? a = false := by
  rw [World.frozen?_of_block (hu.block a.block h)]; exact hf
theorem Up.cellEq {w w' : World} (hu : Up w w') {a : Addr} {v : Value} (h : w.cell? a = some v) : w'.cell? a = some v := by
  rw [World.cell?_of_block (hu.block a.block (lt_of_cell h))]; exact h
def Told (t : Addr) (w : World) (r : Ending) (w' : World) : Option Int → Prop
  | none => r = .returned (.bool false) ∧ Up w w'
  | some m => r = .returned (.bool true) ∧ ∃ w1, Up w w1 ∧ w' = w1.setCell t (.int .i64 m)
set_option maxHeartbeats 8000000 in
theorem as_sz (t p0 : Addr) (old : Value) (k : Nat) : ∀ (e : Er), e.size ≤ k → ∀ (v : Value) (w : World), IsEr w v e → w.cell? p0 = some (.pointer (some t)) → w.cell? t = some old → w.frozen? t = false →
    Calls Tryz.prog 130 #[v, .iface 155 (.pointer (some t)), .agg #[.pointer (some ⟨3, 155, none⟩), .pointer (some p0), .int .u64 150], .iface 198 (.agg #[.pointer (some ⟨3, 101, none⟩)])] w fun r w' => Told t w r w' e.first := by
  induction k with
  | zero => intro e he; cases e <;> simp [Er.size] at he
  | succ k ih =>
    intro e he v w hE hp ht hf
    have h1 := noAsN
    have h2 := noAsF
    have h4 := noUnN
    have h5 := noUsN
    have h6 := hasUnF
    have h9 := mUnF
    have h31 := @run_callFunc_extern Tryz.prog 142 _ ReflectliteType.typeOf Tryz.func142 (by kernel_rfl) (by kernel_rfl) (by kernel_rfl) (by kernel_rfl)
    have h73 := @run_callFunc_extern Tryz.prog 182 _ (ReflectliteType.relation "AssignableTo" ReflectliteType.assignableTo) Tryz.func182 (by kernel_rfl) (by kernel_rfl) (by kernel_rfl) (by kernel_rfl)
    have h35 := @run_callFunc_extern Tryz.prog 143 _ (ReflectliteValue.method (ReflectliteValue.valueError "reflectlite.Value.Elem" 0) ReflectliteValue.elem) Tryz.func143 (by kernel_rfl) (by kernel_rfl) (by kernel_rfl) (by kernel_rfl)
    have h36 := @run_callFunc_extern Tryz.prog 144 _ ReflectliteValue.set Tryz.func144 (by kernel_rfl) (by kernel_rfl) (by kernel_rfl) (by kernel_rfl)
    have h25 := @run_callFunc_extern Tryz.prog 127 _ (fun args => ReflectliteValue.unpack (args.getD 0 (.tuple #[]))) Tryz.func127 (by kernel_rfl) (by kernel_rfl) (by kernel_rfl) (by kernel_rfl)
    have tN := typeOfN2
    have tF := typeOfF
    have aN := assignN
    have aF := assignF
    have mA := mAssignableTo
    have vN := valueOfN
    have IH := hid ih
    have hlp := lt_of_cell hp
    have hlt := lt_of_cell ht
    clear ih
    go_enter Tryz.func130, Tryz.ntmps130
    go_wp2_with fail
    obtain ⟨wb, hwb⟩ : ∃ wb, w.alloc (Obj.cells #[.pointer (some ⟨3, 155, none⟩), .pointer (some p0), .int .u64 150] 175) = wb := ⟨_, rfl⟩
    have hub : Up w wb := by rw [← hwb]; exact Up.alloc _ _
    have hbox : Blk wb w.heap.size 175 #[.pointer (some ⟨3, 155, none⟩), .pointer (some p0), .int .u64 150] := by rw [← hwb]; exact Blk.new _ _ rfl
    rw [hwb]
    clear hwb
    go_loopg [0] (k + 1) (fun g tv wr => ∃ x : Er, x.size ≤ g ∧ x.size ≤ k + 1 ∧ x.first = e.first ∧ IsEr w tv x ∧ wr = wb)
    case atStart => exact ⟨e, he, he, rfl, hE, rfl⟩
    case round =>
      obtain ⟨x, hx1, hx2, hx3, hX, hw0⟩ := hrel
      subst hw0
      have HX3 := hid hx3
      clear hx3 hE he
      cases x with
      | num m =>
        obtain rfl : _ = _ := hX
        have hq := hub.cellEq hp
        have el := elemVP p0 t wr hq
        have st := setN t ⟨wr.heap.size, 0, none⟩ m old (wr.alloc (.cells #[.int .i64 m] 101)) (by simp) ((hub.trans (Up.alloc _ _)).cellEq ht) ((hub.trans (Up.alloc _ _)).frozen hlt hf)
        have HF := hid (show e.first = some m from HX3.out.symm)
        clear hq
        go_wp2_with (first | ((with_reducible apply ldV); exact rfl; exact rfl; exact hbox; exact rfl))
        go_ret
        rw [HF.out]
        exact ⟨rfl, _, hub.trans (Up.alloc _ _), rfl⟩
      | nilf op =>
        obtain ⟨b, rfl, hB⟩ := hX
        have HU := hid (fun (w' : World) (h : Up wr w') => unwrap_flt ((hB.up hub).up h))
        have HF := hid (show e.first = none from HX3.out.symm)
        clear hB
        go_wp2_with (first | (go_at_call 177; (with_reducible refine (HU.out _ (Up.refl _)).mono ?_); rintro r w' ⟨rfl, rfl⟩))
        go_ret
        rw [HF.out]
        exact ⟨rfl, hub⟩
      | flt op y =>
        obtain ⟨b, u, rfl, hB, hY⟩ := hX
        obtain ⟨tu, uu, rfl⟩ := hY.iface
        have HU := hid (fun (w' : World) (h : Up wr w') => unwrap_flt ((hB.up hub).up h))
        have HY := hid hY
        have hs1 : y.size + 1 ≤ gk := hx1
        have hs2 : y.size + 1 ≤ k + 1 := hx2
        have HH := hid (show y.first = e.first from HX3.out)
        clear hY hB
        go_wp2_with (first | (go_at_call 177; (with_reducible refine (HU.out _ (Up.refl _)).mono ?_); rintro r w' ⟨rfl, rfl⟩))
        go_roundg (gk - 1)
        case measure => omega
        case rel => exact ⟨y, by omega, by omega, HH.out, HY.out, rfl⟩
end Go.Proofs.YtjoenldfjggciaaGreatDoor
namespace Go.Proofs.YtjoenldfjggciaaGreatDoor
open Go Go.RowKit
set_option maxRecDepth 100000
theorem idle_out (w : World) : CallsD Tryz.prog 125 #[] .returning w fun e u' w' => e = .returned (.tuple #[]) ∧ u' = .returning ∧ w' = w := by
  refine callsD_of_wpS Tryz.func125 rfl fun c₀ cs hu => ?_
  apply wpS_region
  simp [wpOpsS, go_sem, recoverD, hu, Tryz.ntmps125, bodyPostS, results, Tryz.results125]
  cases c₀
  simp_all
end Go.Proofs.YtjoenldfjggciaaGreatDoor
namespace Go.Proofs.YtjoenldfjggciaaGreatDoor
open Go Go.RowKit Go.Extern.Stop Go.Stop Go.Extern
set_option maxRecDepth 100000
def Glob (w : World) : Prop := w.cell? ⟨0, 0, none⟩ = some (.iface 198 (.agg #[.pointer (some ⟨3, 35, none⟩)]))
set_option maxHeartbeats 4000000 in
theorem as_any {e : Er} {v : Value} {w : World} (t : Addr) (old : Value) (h : IsEr w v e) (hg : Glob w) (ht : w.cell? t = some old) (hf : w.frozen? t = false) :
    Calls Tryz.prog 104 #[v, .iface 155 (.pointer (some t))] w fun r w' => Told t w r w' e.first := by
  obtain ⟨t1, v1, rfl⟩ := h.iface
  obtain ⟨o, ho⟩ : ∃ o, e.first = o := ⟨_, rfl⟩
  rw [ho]
  have h25 := @run_callFunc_extern Tryz.prog 127 _ (fun args => ReflectliteValue.unpack (args.getD 0 (.tuple #[]))) Tryz.func127 (by kernel_rfl) (by kernel_rfl) (by kernel_rfl) (by kernel_rfl)
  have h26 := @run_callFunc_extern Tryz.prog 128 _ (ReflectliteValue.methodAny (ReflectliteValue.valueError "reflectlite.Value.Type" 0) (fun t _ _ _ => ReflectliteType.toType t)) Tryz.func128 (by kernel_rfl) (by kernel_rfl) (by kernel_rfl) (by kernel_rfl)
  have h27 := @run_callFunc_extern Tryz.prog 129 _ (ReflectliteValue.method (ReflectliteValue.valueError "reflectlite.Value.IsNil" 0) ReflectliteValue.isNil) Tryz.func129 (by kernel_rfl) (by kernel_rfl) (by kernel_rfl) (by kernel_rfl)
  have h63 := @run_callFunc_extern Tryz.prog 172 _ (ReflectliteType.abiMethod fun t => do pure (.int .u8 (← Rtype.kind t))) Tryz.func172 (by kernel_rfl) (by kernel_rfl) (by kernel_rfl) (by kernel_rfl)
  have h75 := @run_callFunc_extern Tryz.prog 184 _ (ReflectliteType.method ReflectliteType.elem) Tryz.func184 (by kernel_rfl) (by kernel_rfl) (by kernel_rfl) (by kernel_rfl)
  have h76 := @run_callFunc_extern Tryz.prog 185 _ (ReflectliteType.relation "Implements" ReflectliteType.implements_) Tryz.func185 (by kernel_rfl) (by kernel_rfl) (by kernel_rfl) (by kernel_rfl)
  have f25 := valueOfP
  have f26 := typeP
  have mK := mKind
  have kP := kindP
  have kN := kindN
  have mE := mElem
  have eP := elemP
  have mI := mImplements
  have iN := implementsN
  obtain ⟨w1, hw1⟩ : ∃ w1, (w.alloc (.cells #[.pointer (some t)] 155)).alloc (.cells #[.pointer (some ⟨3, 155, none⟩), .pointer (some ⟨w.heap.size, 0, none⟩), .int .u64 150] 175) = w1 := ⟨_, rfl⟩
  have hu1 : Up w w1 := by rw [← hw1]; exact (Up.alloc _ _).trans (Up.alloc _ _)
  have hp1 : w1.cell? ⟨w.heap.size, 0, none⟩ = some (.pointer (some t)) := by rw [← hw1]; simp
  have n27 := isNilP ⟨w.heap.size, 0, none⟩ t w1 hp1
  have hg1 : w1.cell? ⟨0, 0, none⟩ = some (.iface 198 (.agg #[.pointer (some ⟨3, 35, none⟩)])) := hu1.cellEq hg
  have HS := hid (as_sz t ⟨w.heap.size, 0, none⟩ old e.size e (Nat.le_refl _) _ w1 (h.up hu1) hp1 (hu1.cellEq ht) (hu1.frozen (lt_of_cell ht) hf))
  rw [ho] at HS
  rw [← hw1] at n27 hg1
  have HW := hid hw1
  clear hw1 h hg ht hf hp1 ho
  go_enter Tryz.func104, Tryz.ntmps104
  cases o with
  | none =>
    go_wp2_with fail
    rw [HW.out]
    refine HS.out.mono ?_
    rintro r wF ⟨rfl, hu⟩
    go_wp2_with fail
    go_ret
    exact ⟨rfl, hu1.trans hu⟩
  | some m =>
    go_wp2_with fail
    rw [HW.out]
    refine HS.out.mono ?_
    rintro r wF ⟨rfl, wX, hu, rfl⟩
    go_wp2_with fail
    go_ret
    exact ⟨rfl, wX, hu1.trans hu, rfl⟩
theorem idle_code (p : Addr) (w : World) : CallsD Tryz.prog 103 #[.pointer (some p)] .returning w fun e u' w' => e = .returned (.tuple #[]) ∧ u' = .returning ∧ w' = w := by
  refine callsD_of_wpS Tryz.func103 rfl fun c₀ cs hu => ?_
  apply wpS_seq
  apply wpS_region
  simp [wpOpsS, go_sem, recoverD, hu, Tryz.ntmps103, Exit.thenS]
  refine wpS_cond (t := false) (by simp [Act.eval, Array.replicate]) ?_
  simp only [Bool.false_eq_true, if_false]
  refine wpS_of_wp (wp_skip ?_)
  cases c₀
  simp_all [bodyPostS, results, Tryz.results103]
theorem code_any {e : Er} {v : Value} {w : World} (h : IsEr w v e) (hg : Glob w) :
    Calls Tryz.prog 60 #[v] w fun r w' => r = .returned (.int .i64 (e.first.getD 36)) ∧ Up w w' := by
  obtain ⟨t1, v1, rfl⟩ := h.iface
  have hmf : ∀ (fn : Fn) (first cap : Array Value) (w : World), (Instr.makeFunc fn first cap).run Tryz.prog w = .ok (.func fn first cap) w := fun _ _ _ _ => rfl
  have hu0 : Up w (w.alloc (.cells #[.int .i64 0] 101)) := Up.alloc _ _
  have hB0 : Blk (w.alloc (.cells #[.int .i64 0] 101)) w.heap.size 101 #[.int .i64 0] := Blk.new _ _ rfl
  have HA := hid (as_any ⟨w.heap.size, 0, none⟩ (.int .i64 0) (h.up hu0) (hu0.cellEq hg) (by simp) (by simp))
  obtain ⟨o, ho⟩ : ∃ o, e.first = o := ⟨_, rfl⟩
  rw [ho] at HA ⊢
  clear ho h hg
  cases o with
  | none =>
    go_enter_defers Tryz.func60, Tryz.ntmps60
    go_wp2_with (first | (go_at_call 104; (with_reducible refine (HA.out).mono ?_); rintro r wA ⟨rfl, huA⟩; have hBA := hB0.up huA; have hcA := hBA.cell 0 rfl; have hfA := hBA.frozen 0))
    have hBF := hBA.set 0 (.int .i64 36)
    have hcF := hBF.cell 0 rfl
    have huF := (hu0.trans huA).setCell (p := ⟨w.heap.size, 0, none⟩) (Nat.le_refl _) (.int .i64 36)
    refine leaves_cons (f := 103) (args := #[.pointer (some ⟨w.heap.size, 0, none⟩)]) (by simp) (by simp [go_sem]) ?_
    refine (idle_code _ _).mono ?_
    rintro e u' w'' ⟨rfl, rfl, rfl⟩
    simp [Leaves, settle, results, Tryz.results60, go_sem, hcF]
    exact huF
  | some m =>
    go_enter_defers Tryz.func60, Tryz.ntmps60
    go_wp2_with (first | (go_at_call 104; (with_reducible refine (HA.out).mono ?_); rintro r wA ⟨rfl, wX, huA, rfl⟩; have hBX := (hB0.up huA).set 0 (.int .i64 m); have hcX := hBX.cell 0 rfl; have hfX := hBX.frozen 0))
    have hBF := hBX.set 0 (.int .i64 m)
    have hcF := hBF.cell 0 rfl
    have huF := ((hu0.trans huA).setCell (p := ⟨w.heap.size, 0, none⟩) (Nat.le_refl _) (.int .i64 m)).setCell (p := ⟨w.heap.size, 0, none⟩) (Nat.le_refl _) (.int .i64 m)
    refine leaves_cons (f := 103) (args := #[.pointer (some ⟨w.heap.size, 0, none⟩)]) (by simp) (by simp [go_sem]) ?_
    refine (idle_code _ _).mono ?_
    rintro e u' w'' ⟨rfl, rfl, rfl⟩
    simp [Leaves, settle, results, Tryz.results60, go_sem, hcF]
    exact huF
end Go.Proofs.YtjoenldfjggciaaGreatDoor
