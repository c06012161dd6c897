/-
  wide.Round: the nearest whole number, where the amounts' division is told.
-/
import Derived.Test.YtlkolfnklbldcaaDiv
namespace Go.Proofs.Ytlkolfnklbldcaa
open Go Go.RowKit
set_option maxRecDepth 100000

theorem hb_big : 9223372036854775808 ≤ hb := by
  have h := bp16
  have h2 : bp 16 = bp 15 * 18446744073709551616 := bp_succ 15
  have := bp_pos 15
  omega
/-- What Round tells of two numbers. -/
def roundV (a b : Int) : Value :=
  if 0 < b ∧ InR (a + a) ∧ InR (b + b) ∧ InR (a + a + b) then .tuple #[wideV (enc ((2 * a + b) / (2 * b))), .bool true] else .tuple #[.agg (cells 16 (fun _ => 0)), .bool false]
theorem opt_parts (z : Int) : ∃ (p : Int) (k : Bool), opt z = .tuple #[wideV (enc p), .bool k] ∧ InR p ∧ (k = true ↔ InR z) ∧ (InR z → p = z) := by
  by_cases h : InR z
  · exact ⟨z, true, opt_yes h, h, by simp [h], fun _ => rfl⟩
  · refine ⟨0, false, ?_, InR.mk' (by have := hb_pos; omega), by simp [h], fun h' => absurd h' h⟩
    rw [opt_no h, zero_limb]; rfl
theorem round_floor {s d : Int} (hd : 0 < d) : s / d = if s.tmod d < 0 then s.tdiv d - 1 else s.tdiv d := by
  have h1 := Int.mul_tdiv_add_tmod s d
  have h2 := Int.tmod_lt_of_pos s hd
  have h3 : -d < s.tmod d := by
    have := Int.tmod_lt_of_pos (-s) hd
    rw [Int.neg_tmod] at this
    omega
  generalize s.tdiv d = q at *
  generalize s.tmod d = r at *
  split
  · rw [← h1, show d * q + r = (d + r) + d * (q - 1) by rw [Int.mul_sub]; omega, Int.add_mul_ediv_left _ _ (by omega), Int.ediv_eq_zero_of_lt (by omega) (by omega)]
    omega
  · rw [← h1, Int.add_comm, Int.add_mul_ediv_left _ _ (by omega), Int.ediv_eq_zero_of_lt (by omega) (by omega)]
    omega
theorem tdiv_in {s d : Int} (hs : InR s) (hd : 0 < d) : InR (s.tdiv d) ∧ (s.tmod d < 0 → InR (s.tdiv d - 1)) := by
  have h := hs.out
  have hp := hb_pos
  obtain ⟨m, f⟩ : ∃ m : Nat, d = (m : Int) := ⟨d.natAbs, by omega⟩
  have hm : 0 < m := by omega
  by_cases h0 : s < 0
  · obtain ⟨n, e⟩ : ∃ n : Nat, s = -(n : Int) := ⟨s.natAbs, by omega⟩
    rw [e, f, Int.neg_tdiv, Int.neg_tmod, ← Int.ofNat_tdiv, ← Int.ofNat_tmod]
    have h1 := Nat.div_le_self n m
    have h2 := Nat.div_add_mod n m
    have h3 : 1 * (n / m) ≤ m * (n / m) := Nat.mul_le_mul_right _ hm
    generalize n / m = q at *
    generalize n % m = r at *
    generalize m * q = mq at *
    exact ⟨InR.mk' (by omega), fun h4 => InR.mk' (by omega)⟩
  · obtain ⟨n, e⟩ : ∃ n : Nat, s = (n : Int) := ⟨s.natAbs, by omega⟩
    rw [e, f, ← Int.ofNat_tdiv, ← Int.ofNat_tmod]
    have h1 := Nat.div_le_self n m
    generalize n / m = q at *
    generalize n % m = r at *
    exact ⟨InR.mk' (by omega), fun h4 => by omega⟩
set_option maxHeartbeats 4000000 in
theorem round_z {a b : Int} (ha : InR a) (hb' : InR b)
    (hDV : 0 < b → InR (a + a) → InR (b + b) → InR (a + a + b) → ∀ w, Calls Try.prog 53 #[wideV (a + a + b).natAbs, wideV (b + b).natAbs] w fun e w' => e = .returned (divV (a + a + b).natAbs (b + b).natAbs) ∧ Up w w') (w : World) :
    Calls Try.prog 27 #[wideV (enc a), wideV (enc b)] w fun e w' => e = .returned (roundV a b) ∧ Up w w' := by
  have HSB := hid (fun w => sign_z hb' w)
  by_cases hb0 : 0 < b
  · have es : sgn b = 1 := by
      have h1 : ¬ b < 0 := by omega
      have h2 : ¬ b = 0 := by omega
      simp [sgn, h1, h2]
    rw [es] at HSB
    obtain ⟨pA, kA, eA, iA, jA, vA⟩ := opt_parts (a + a)
    obtain ⟨pB, kB, eB, iB, jB, vB⟩ := opt_parts (b + b)
    obtain ⟨pS, kS, eS, iS, jS, vS⟩ := opt_parts (pA + b)
    have hA := fun w => add_z ha ha w
    rw [eA] at hA
    have hB := fun w => add_z hb' hb' w
    rw [eB] at hB
    have hS := fun w => add_z iA hb' w
    rw [eS] at hS
    have HA := hid hA
    have HB := hid hB
    have HS := hid hS
    clear hA hB hS eA eB eS es
    by_cases hall : kA = true ∧ kB = true ∧ kS = true
    · obtain ⟨rfl, rfl, rfl⟩ := hall
      have iA' := jA.1 rfl
      have iB' := jB.1 rfl
      have eA := vA iA'
      have iS' := jS.1 rfl
      have eS := vS iS'
      have eB := vB iB'
      rw [eA] at iS' eS
      have hspec : roundV a b = .tuple #[wideV (enc ((2 * a + b) / (2 * b))), .bool true] := by unfold roundV; rw [if_pos ⟨hb0, iA', iB', iS'⟩]
      rw [hspec, show 2 * a + b = pS by omega, show 2 * b = pB by omega]
      have hpB : 0 < pB := by omega
      have hfl := round_floor (s := pS) hpB
      obtain ⟨hq1, hq2⟩ := tdiv_in iS hpB
      have hD := fun w => div_z iS iB (fun _ => by rw [eS, eB]; exact hDV hb0 iA' iB' iS') w
      have edv : divZV pS pB = .tuple #[wideV (enc (pS.tdiv pB)), wideV (enc (pS.tmod pB)), .bool true] := by
        unfold divZV
        rw [if_neg (fun h => h.elim (fun h => by omega) (fun h => h hq1))]
      rw [edv] at hD
      have HD := hid hD
      have HSR := hid (fun w => sign_z (tmod_in (b := pB) iS) w)
      rw [hfl]
      clear hDV hspec edv hD jA vA jB vB jS vS iA' iB' iS' eA eS eB hfl
      by_cases hr : pS.tmod pB < 0
      · rw [if_pos hr]
        have e2 : sgn (pS.tmod pB) = -1 := by simp [sgn, hr]
        rw [e2] at HSR
        have i1 : InR 1 := InR.mk' (by have := hb_big; omega)
        have h1 := fun w => sub_z hq1 i1 w
        rw [opt_yes (hq2 hr)] at h1
        have HSU := hid h1
        have HO := hid (fun w => of_any 1 (by decide) (by decide) w)
        clear e2 h1 hr hq1 hq2
        generalize enc (pS.tmod pB) = er at *
        generalize enc (pS.tdiv pB) = eq at *
        generalize enc (pS.tdiv pB - 1) = eq1 at *
        generalize enc 1 = e1 at *
        unfold wideV at *
        go_enter Try.func27, Try.ntmps27
        go_wp2_with (first | ((with_reducible apply ld_rowP undW infoW); exact rfl; exact rfl; focus (repeat (first | assumption | ((with_reducible apply row_newc); (focus (first | rfl | (simp; done)))) | ((with_reducible apply row_newz); (focus (first | rfl | (simp; done)))) | (with_reducible apply row_same) | ((with_reducible apply row_else); (focus (first | (simp; done) | (simp; omega) | omega))) | (with_reducible apply row_alloc) | (with_reducible apply row_drew) | (with_reducible apply row_drewN) | ((with_reducible apply row_up); assumption)))) | ((with_reducible apply st_rowP infoW); exact rfl; exact rfl; focus (repeat (first | assumption | ((with_reducible apply row_newc); (focus (first | rfl | (simp; done)))) | ((with_reducible apply row_newz); (focus (first | rfl | (simp; done)))) | (with_reducible apply row_same) | ((with_reducible apply row_else); (focus (first | (simp; done) | (simp; omega) | omega))) | (with_reducible apply row_alloc) | (with_reducible apply row_drew) | (with_reducible apply row_drewN) | ((with_reducible apply row_up); assumption)))) | ((with_reducible apply st_rowZ infoW); exact rfl; exact rfl; focus (repeat (first | assumption | ((with_reducible apply row_newc); (focus (first | rfl | (simp; done)))) | ((with_reducible apply row_newz); (focus (first | rfl | (simp; done)))) | (with_reducible apply row_same) | ((with_reducible apply row_else); (focus (first | (simp; done) | (simp; omega) | omega))) | (with_reducible apply row_alloc) | (with_reducible apply row_drew) | (with_reducible apply row_drewN) | ((with_reducible apply row_up); assumption)))) | (go_at_call_of 22 (Value.agg (cells 16 (limb (enc b)))); refine (HSB.out _).mono ?_; rintro e w' ⟨rfl, hu⟩; have hsz0 := hu.size; (try simp at hsz0)) | (go_at_call_of 13 (Value.agg (cells 16 (limb (enc pA)))); refine (HS.out _).mono ?_; rintro e w' ⟨rfl, hu⟩; have hsz3 := hu.size; (try simp at hsz3)) | (go_at_call_of 13 (Value.agg (cells 16 (limb (enc a)))); refine (HA.out _).mono ?_; rintro e w' ⟨rfl, hu⟩; have hsz1 := hu.size; (try simp at hsz1)) | (go_at_call_of 13 (Value.agg (cells 16 (limb (enc b)))); refine (HB.out _).mono ?_; rintro e w' ⟨rfl, hu⟩; have hsz2 := hu.size; (try simp at hsz2)) | (go_at_call 26; refine (HD.out _).mono ?_; rintro e wD ⟨rfl, hu⟩; have hsz4 := hu.size; (try simp at hsz4)) | (go_at_call 22; refine (HSR.out _).mono ?_; rintro e w' ⟨rfl, hu⟩; skip))
        refine wp_region_upS (S := (fun wq => Row wq wD.heap.size 27 16 (limb eq) ∧ Row wq (w.heap.size + 1 + 1) 27 16 (fun _ => 0) ∧ Below w.heap.size w wq)) (req := (fun j => j != 5)) (by kernel_rfl) (fun _ _ h hu => ⟨(h.1).up hu, (h.2.1).up hu, below_up (h.2.2) hu⟩) ⟨(by (repeat (first | assumption | ((with_reducible apply row_newc); (focus (first | rfl | (simp; done)))) | ((with_reducible apply row_newz); (focus (first | rfl | (simp; done)))) | (with_reducible apply row_same) | ((with_reducible apply row_else); (focus (first | (simp; done) | (simp; omega) | omega))) | (with_reducible apply row_alloc) | (with_reducible apply row_drew) | (with_reducible apply row_drewN) | ((with_reducible apply row_up); assumption)))), (by (repeat (first | assumption | ((with_reducible apply row_newc); (focus (first | rfl | (simp; done)))) | ((with_reducible apply row_newz); (focus (first | rfl | (simp; done)))) | (with_reducible apply row_same) | ((with_reducible apply row_else); (focus (first | (simp; done) | (simp; omega) | omega))) | (with_reducible apply row_alloc) | (with_reducible apply row_drew) | (with_reducible apply row_drewN) | ((with_reducible apply row_up); assumption)))), (by repeat (first | assumption | (with_reducible apply Up.of) | (with_reducible exact Below.refl _ _) | (with_reducible exact Up.refl _) | ((with_reducible apply bl_setRow); (focus (first | exact Nat.le_refl _ | (simp; done) | (simp; omega) | omega))) | (with_reducible apply below_drewN) | (with_reducible apply Below.drew) | ((with_reducible apply bl_alloc); (focus (first | exact Nat.le_refl _ | (simp; done) | (simp; omega) | omega))) | ((with_reducible apply bl_setCell); (focus (first | exact Nat.le_refl _ | (simp; done) | (simp; omega) | omega))) | ((with_reducible apply up_tr); assumption)))⟩ (fun wS hSS => ?_)
        have ⟨hS1, hS2, hSB⟩ := hSS
        refine wpAnyU_take (i := 0) (d := (some 58)) (v := _) rfl rfl (by kernel_rfl) (fun _ _ _ h => h) (fun _ _ h hu => ⟨(h.1).up hu, (h.2.1).up hu, below_up (h.2.2) hu⟩) hSS (Or.inl ⟨by rfl, fun w' hSw => yu_value (run_ld undW infoW _ rfl _ rfl hSw.1)⟩) ?_
        try simp only [Act.put, List.setIfInBounds_toArray, List.set_cons_zero, List.set_cons_succ]
        refine wpAnyU_take (i := 1) (d := (some 59)) (v := _) rfl rfl (by kernel_rfl) (fun _ _ _ h => h) (fun _ _ h hu => ⟨(h.1).up hu, (h.2.1).up hu, below_up (h.2.2) hu⟩) hSS (Or.inl ⟨by rfl, fun w' hSw => yu_call ?_ (HO.out _)⟩) ?_
        · go_simp
        try simp only [Act.put, List.setIfInBounds_toArray, List.set_cons_zero, List.set_cons_succ]
        refine wpAnyU_take (i := 2) (d := (some 60)) (v := _) rfl rfl (by kernel_rfl) (fun _ _ _ h => h) (fun _ _ h hu => ⟨(h.1).up hu, (h.2.1).up hu, below_up (h.2.2) hu⟩) hSS (Or.inl ⟨by rfl, fun w' hSw => yu_call ?_ (HSU.out _)⟩) ?_
        · go_simp
        try simp only [Act.put, List.setIfInBounds_toArray, List.set_cons_zero, List.set_cons_succ]
        refine wpAnyU_pure (i := 3) (d := (some 61)) (v := ?_) rfl rfl (by kernel_rfl) (fun _ _ _ h => h) (fun _ _ h hu => ⟨(h.1).up hu, (h.2.1).up hu, below_up (h.2.2) hu⟩) (Or.inl ⟨by rfl, fun w' _ => yu_value ?_⟩) ?_
        rotate_left
        · (go_simp; (try exact rfl))
        try simp only [Act.put, List.setIfInBounds_toArray, List.set_cons_zero, List.set_cons_succ]
        refine wpAnyU_pure (i := 4) (d := (some 62)) (v := ?_) rfl rfl (by kernel_rfl) (fun _ _ _ h => h) (fun _ _ h hu => ⟨(h.1).up hu, (h.2.1).up hu, below_up (h.2.2) hu⟩) (Or.inl ⟨by rfl, fun w' _ => yu_value ?_⟩) ?_
        rotate_left
        · (go_simp; (try exact rfl))
        try simp only [Act.put, List.setIfInBounds_toArray, List.set_cons_zero, List.set_cons_succ]
        refine wpAnyU_one (i := 5) rfl (by kernel_rfl) (by rfl) fun w9 hw9 => ?_
        refine wp_st_rowN infoW rfl _ _ rfl _ rfl rfl ((hS2.up hw9)) ?_
        refine ⟨fun h => by simp at h, ?_⟩
        try simp only [Act.put, List.setIfInBounds_toArray, List.set_cons_zero, List.set_cons_succ]
        refine wpAnyU_pure (i := 6) (d := (some 5)) (v := ?_) rfl rfl (by kernel_rfl) (fun _ _ _ h => h) (fun _ _ h hu => ⟨(h.1).up hu, (h.2.1).up hu, below_up (h.2.2) hu⟩) (Or.inl ⟨by rfl, fun w' _ => yu_value ?_⟩) ?_
        rotate_left
        · (go_simp; (try exact rfl))
        try simp only [Act.put, List.setIfInBounds_toArray, List.set_cons_zero, List.set_cons_succ]
        refine wpAnyU_done (by kernel_rfl) (fun wF huE => ?_) _
        have gR := ((hS2.up hw9).setRow (limb eq1)).up huE
        have gB := below_up (below_setRow (below_up hSB hw9) (show w.heap.size ≤ w.heap.size + 1 + 1 by omega) (cells 16 (limb eq1))) huE
        clear hS1 hS2 hSB hSS hw9 huE
        go_wp2
        exact bodyPost_ret (res2 rfl undW infoW _ _ rfl gR) rfl ⟨rfl, gB⟩
      · rw [if_neg hr]
        have e2 : 0 ≤ sgn (pS.tmod pB) := by
          simp only [sgn, hr, if_false]
          split <;> omega
        obtain ⟨sr, esr⟩ : ∃ sr, sgn (pS.tmod pB) = sr := ⟨_, rfl⟩
        rw [esr] at HSR e2
        have hneg : ¬ sr < 0 := by omega
        clear e2 esr hr hq1 hq2
        generalize enc (pS.tmod pB) = er at *
        generalize enc (pS.tdiv pB) = eq at *
        unfold wideV at *
        go_enter Try.func27, Try.ntmps27
        go_wp2_with (first | ((with_reducible apply ld_rowP undW infoW); exact rfl; exact rfl; focus (repeat (first | assumption | ((with_reducible apply row_newc); (focus (first | rfl | (simp; done)))) | ((with_reducible apply row_newz); (focus (first | rfl | (simp; done)))) | (with_reducible apply row_same) | ((with_reducible apply row_else); (focus (first | (simp; done) | (simp; omega) | omega))) | (with_reducible apply row_alloc) | (with_reducible apply row_drew) | (with_reducible apply row_drewN) | ((with_reducible apply row_up); assumption)))) | ((with_reducible apply st_rowP infoW); exact rfl; exact rfl; focus (repeat (first | assumption | ((with_reducible apply row_newc); (focus (first | rfl | (simp; done)))) | ((with_reducible apply row_newz); (focus (first | rfl | (simp; done)))) | (with_reducible apply row_same) | ((with_reducible apply row_else); (focus (first | (simp; done) | (simp; omega) | omega))) | (with_reducible apply row_alloc) | (with_reducible apply row_drew) | (with_reducible apply row_drewN) | ((with_reducible apply row_up); assumption)))) | ((with_reducible apply st_rowZ infoW); exact rfl; exact rfl; focus (repeat (first | assumption | ((with_reducible apply row_newc); (focus (first | rfl | (simp; done)))) | ((with_reducible apply row_newz); (focus (first | rfl | (simp; done)))) | (with_reducible apply row_same) | ((with_reducible apply row_else); (focus (first | (simp; done) | (simp; omega) | omega))) | (with_reducible apply row_alloc) | (with_reducible apply row_drew) | (with_reducible apply row_drewN) | ((with_reducible apply row_up); assumption)))) | (go_at_call_of 22 (Value.agg (cells 16 (limb (enc b)))); refine (HSB.out _).mono ?_; rintro e w' ⟨rfl, hu⟩; have hsz0 := hu.size; (try simp at hsz0)) | (go_at_call_of 13 (Value.agg (cells 16 (limb (enc pA)))); refine (HS.out _).mono ?_; rintro e w' ⟨rfl, hu⟩; have hsz3 := hu.size; (try simp at hsz3)) | (go_at_call_of 13 (Value.agg (cells 16 (limb (enc a)))); refine (HA.out _).mono ?_; rintro e w' ⟨rfl, hu⟩; have hsz1 := hu.size; (try simp at hsz1)) | (go_at_call_of 13 (Value.agg (cells 16 (limb (enc b)))); refine (HB.out _).mono ?_; rintro e w' ⟨rfl, hu⟩; have hsz2 := hu.size; (try simp at hsz2)) | (go_at_call 26; refine (HD.out _).mono ?_; rintro e wD ⟨rfl, hu⟩; have hsz4 := hu.size; (try simp at hsz4)) | (go_at_call 22; refine (HSR.out _).mono ?_; rintro e w' ⟨rfl, hu⟩; skip))
        exact bodyPost_ret (res2 rfl undW infoW _ _ rfl (by (repeat (first | assumption | ((with_reducible apply row_newc); (focus (first | rfl | (simp; done)))) | ((with_reducible apply row_newz); (focus (first | rfl | (simp; done)))) | (with_reducible apply row_same) | ((with_reducible apply row_else); (focus (first | (simp; done) | (simp; omega) | omega))) | (with_reducible apply row_alloc) | (with_reducible apply row_drew) | (with_reducible apply row_drewN) | ((with_reducible apply row_up); assumption))))) rfl ⟨rfl, (by repeat (first | assumption | (with_reducible apply Up.of) | (with_reducible exact Below.refl _ _) | (with_reducible exact Up.refl _) | ((with_reducible apply bl_setRow); (focus (first | exact Nat.le_refl _ | (simp; done) | (simp; omega) | omega))) | (with_reducible apply below_drewN) | (with_reducible apply Below.drew) | ((with_reducible apply bl_alloc); (focus (first | exact Nat.le_refl _ | (simp; done) | (simp; omega) | omega))) | ((with_reducible apply bl_setCell); (focus (first | exact Nat.le_refl _ | (simp; done) | (simp; omega) | omega))) | ((with_reducible apply up_tr); assumption)))⟩
    · have hspec : roundV a b = .tuple #[.agg (cells 16 (fun _ => 0)), .bool false] := by
        unfold roundV
        rw [if_neg]
        rintro ⟨_, h1, h2, h3⟩
        have := jA.2 h1
        have e := vA h1
        rw [← e] at h3
        exact hall ⟨this, jB.2 h2, jS.2 h3⟩
      rw [hspec]
      clear hspec hDV jA vA jB vB jS vS
      cases kA <;> cases kB <;> cases kS
      case true.true.true => exact absurd ⟨rfl, rfl, rfl⟩ hall
      all_goals
        clear hall
        unfold wideV at *
        go_enter Try.func27, Try.ntmps27
        go_wp2_with (first | ((with_reducible apply ld_rowP undW infoW); exact rfl; exact rfl; focus (repeat (first | assumption | ((with_reducible apply row_newc); (focus (first | rfl | (simp; done)))) | ((with_reducible apply row_newz); (focus (first | rfl | (simp; done)))) | (with_reducible apply row_same) | ((with_reducible apply row_else); (focus (first | (simp; done) | (simp; omega) | omega))) | (with_reducible apply row_alloc) | (with_reducible apply row_drew) | (with_reducible apply row_drewN) | ((with_reducible apply row_up); assumption)))) | ((with_reducible apply st_rowP infoW); exact rfl; exact rfl; focus (repeat (first | assumption | ((with_reducible apply row_newc); (focus (first | rfl | (simp; done)))) | ((with_reducible apply row_newz); (focus (first | rfl | (simp; done)))) | (with_reducible apply row_same) | ((with_reducible apply row_else); (focus (first | (simp; done) | (simp; omega) | omega))) | (with_reducible apply row_alloc) | (with_reducible apply row_drew) | (with_reducible apply row_drewN) | ((with_reducible apply row_up); assumption)))) | ((with_reducible apply st_rowZ infoW); exact rfl; exact rfl; focus (repeat (first | assumption | ((with_reducible apply row_newc); (focus (first | rfl | (simp; done)))) | ((with_reducible apply row_newz); (focus (first | rfl | (simp; done)))) | (with_reducible apply row_same) | ((with_reducible apply row_else); (focus (first | (simp; done) | (simp; omega) | omega))) | (with_reducible apply row_alloc) | (with_reducible apply row_drew) | (with_reducible apply row_drewN) | ((with_reducible apply row_up); assumption)))) | (go_at_call_of 22 (Value.agg (cells 16 (limb (enc b)))); refine (HSB.out _).mono ?_; rintro e w' ⟨rfl, hu⟩; have hsz0 := hu.size; (try simp at hsz0)) | (go_at_call_of 13 (Value.agg (cells 16 (limb (enc pA)))); refine (HS.out _).mono ?_; rintro e w' ⟨rfl, hu⟩; have hsz3 := hu.size; (try simp at hsz3)) | (go_at_call_of 13 (Value.agg (cells 16 (limb (enc a)))); refine (HA.out _).mono ?_; rintro e w' ⟨rfl, hu⟩; have hsz1 := hu.size; (try simp at hsz1)) | (go_at_call_of 13 (Value.agg (cells 16 (limb (enc b)))); refine (HB.out _).mono ?_; rintro e w' ⟨rfl, hu⟩; have hsz2 := hu.size; (try simp at hsz2)))
        exact bodyPost_ret (res2 rfl undW infoW _ _ rfl (by (repeat (first | assumption | ((with_reducible apply row_newc); (focus (first | rfl | (simp; done)))) | ((with_reducible apply row_newz); (focus (first | rfl | (simp; done)))) | (with_reducible apply row_same) | ((with_reducible apply row_else); (focus (first | (simp; done) | (simp; omega) | omega))) | (with_reducible apply row_alloc) | (with_reducible apply row_drew) | (with_reducible apply row_drewN) | ((with_reducible apply row_up); assumption))))) rfl ⟨rfl, (by repeat (first | assumption | (with_reducible apply Up.of) | (with_reducible exact Below.refl _ _) | (with_reducible exact Up.refl _) | ((with_reducible apply bl_setRow); (focus (first | exact Nat.le_refl _ | (simp; done) | (simp; omega) | omega))) | (with_reducible apply below_drewN) | (with_reducible apply Below.drew) | ((with_reducible apply bl_alloc); (focus (first | exact Nat.le_refl _ | (simp; done) | (simp; omega) | omega))) | ((with_reducible apply bl_setCell); (focus (first | exact Nat.le_refl _ | (simp; done) | (simp; omega) | omega))) | ((with_reducible apply up_tr); assumption)))⟩
  · have hspec : roundV a b = .tuple #[.agg (cells 16 (fun _ => 0)), .bool false] := by
      unfold roundV
      rw [if_neg fun h => hb0 h.1]
    rw [hspec]
    have es : sgn b ≤ 0 := by
      unfold sgn
      split
      · decide
      · rw [if_pos (by omega)]; decide
    obtain ⟨sb, esb⟩ : ∃ sb, sgn b = sb := ⟨_, rfl⟩
    rw [esb] at HSB es
    clear hspec hDV esb hb0
    unfold wideV at *
    go_enter Try.func27, Try.ntmps27
    go_wp2_with (first | ((with_reducible apply ld_rowP undW infoW); exact rfl; exact rfl; focus (repeat (first | assumption | ((with_reducible apply row_newc); (focus (first | rfl | (simp; done)))) | ((with_reducible apply row_newz); (focus (first | rfl | (simp; done)))) | (with_reducible apply row_same) | ((with_reducible apply row_else); (focus (first | (simp; done) | (simp; omega) | omega))) | (with_reducible apply row_alloc) | (with_reducible apply row_drew) | (with_reducible apply row_drewN) | ((with_reducible apply row_up); assumption)))) | ((with_reducible apply st_rowP infoW); exact rfl; exact rfl; focus (repeat (first | assumption | ((with_reducible apply row_newc); (focus (first | rfl | (simp; done)))) | ((with_reducible apply row_newz); (focus (first | rfl | (simp; done)))) | (with_reducible apply row_same) | ((with_reducible apply row_else); (focus (first | (simp; done) | (simp; omega) | omega))) | (with_reducible apply row_alloc) | (with_reducible apply row_drew) | (with_reducible apply row_drewN) | ((with_reducible apply row_up); assumption)))) | ((with_reducible apply st_rowZ infoW); exact rfl; exact rfl; focus (repeat (first | assumption | ((with_reducible apply row_newc); (focus (first | rfl | (simp; done)))) | ((with_reducible apply row_newz); (focus (first | rfl | (simp; done)))) | (with_reducible apply row_same) | ((with_reducible apply row_else); (focus (first | (simp; done) | (simp; omega) | omega))) | (with_reducible apply row_alloc) | (with_reducible apply row_drew) | (with_reducible apply row_drewN) | ((with_reducible apply row_up); assumption)))) | (go_at_call 22; refine (HSB.out _).mono ?_; rintro e w' ⟨rfl, hu⟩))
    exact bodyPost_ret (res2 rfl undW infoW _ _ rfl (by (repeat (first | assumption | ((with_reducible apply row_newc); (focus (first | rfl | (simp; done)))) | ((with_reducible apply row_newz); (focus (first | rfl | (simp; done)))) | (with_reducible apply row_same) | ((with_reducible apply row_else); (focus (first | (simp; done) | (simp; omega) | omega))) | (with_reducible apply row_alloc) | (with_reducible apply row_drew) | (with_reducible apply row_drewN) | ((with_reducible apply row_up); assumption))))) rfl ⟨rfl, (by repeat (first | assumption | (with_reducible apply Up.of) | (with_reducible exact Below.refl _ _) | (with_reducible exact Up.refl _) | ((with_reducible apply bl_setRow); (focus (first | exact Nat.le_refl _ | (simp; done) | (simp; omega) | omega))) | (with_reducible apply below_drewN) | (with_reducible apply Below.drew) | ((with_reducible apply bl_alloc); (focus (first | exact Nat.le_refl _ | (simp; done) | (simp; omega) | omega))) | ((with_reducible apply bl_setCell); (focus (first | exact Nat.le_refl _ | (simp; done) | (simp; omega) | omega))) | ((with_reducible apply up_tr); assumption)))⟩
end Go.Proofs.Ytlkolfnklbldcaa
