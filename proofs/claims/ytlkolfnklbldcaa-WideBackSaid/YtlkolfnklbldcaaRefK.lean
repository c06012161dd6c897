/-
  The reference's lengths, and the least wide number's amount.
-/
import Derived.Test.YtlkolfnklbldcaaRefJ
namespace Go.Proofs.Ytlkolfnklbldcaa
open Go Go.RowKit
set_option maxRecDepth 100000

theorem nl_top {x : Nat} (h : 0 < nl x) : limb x (nl x - 1) ≠ 0 := lenL_top (limb x) x h
theorem blen_nl {x : Nat} (h : 0 < nl x) : blen x = 64 * (nl x - 1) + Lib.bitLen (limb x (nl x - 1)) := by
  have h1 := blen_limbs (f := limb x) (n := x) (fun i _ => limb_lt x i) h
  rw [sumL_limb, Nat.mod_eq_of_lt (lt_bp_self x)] at h1
  exact h1
theorem size_am {x : Nat} {v : Value} {w : World} (h : Am w v x) (hx : nl x < 50000) :
    Calls Try.prog 52 #[v] w fun e w' => e = .returned (.int .i64 (blen x : Nat)) ∧ Up w w' := by
  obtain ⟨a, c, rfl, hc, hcell⟩ := h.open
  by_cases h0 : nl x = 0
  · have e : blen x = 0 := by
      have : x = 0 := by
        rcases Nat.eq_zero_or_pos x with h1 | h1
        · exact h1
        · have := nl_pos h1; omega
      rw [this]; rfl
    rw [e, h0]
    clear hcell e
    go_enter Try.func52, Try.ntmps52
    go_wp2
    go_ret
    exact ⟨rfl, (by repeat (first | assumption | (with_reducible apply Up.of) | (with_reducible exact Below.refl _ _) | (with_reducible exact Up.refl _) | ((with_reducible apply bl_setRow); (focus (first | exact Nat.le_refl _ | (simp; done) | (simp; omega) | omega))) | (with_reducible apply below_drewN) | (with_reducible apply Below.drew) | ((with_reducible apply bl_alloc); (focus (first | exact Nat.le_refl _ | (simp; done) | (simp; omega) | omega))) | ((with_reducible apply bl_setCell); (focus (first | exact Nat.le_refl _ | (simp; done) | (simp; omega) | omega))) | ((with_reducible apply up_tr); assumption)))⟩
  · obtain ⟨j, hj⟩ : ∃ j, nl x = j + 1 := ⟨nl x - 1, by omega⟩
    have hb := blen_nl (x := x) (by omega)
    have hl := limb_lt x j
    obtain ⟨b, rfl, hb1, hcb⟩ := hcell j (by omega)
    have hcW := hcb w (Up.refl _)
    rw [hj, Nat.add_sub_cancel] at hb
    have hbl := fun w' => Try.bits_Len64 (limb x j : Nat) w' (by omega) (by omega)
    simp only [Int.toNat_natCast] at hbl
    have HB := hid hbl
    have hle : Lib.bitLen (limb x j) ≤ 64 := by
      rcases Nat.eq_zero_or_pos (limb x j) with h1 | h1
      · rw [h1]; decide
      · exact (bitLen_spec hl (by omega)).2.2.2
    rw [hb, hj]
    clear hcell hcb hbl hb
    generalize limb x j = t at *
    generalize Lib.bitLen t = l at *
    go_enter Try.func52, Try.ntmps52
    go_wp2_with (go_at_call 61; refine (HB.out _).mono ?_; rintro e w' ⟨rfl, rfl⟩)
    go_ret
    exact ⟨ret_int (by omega), (by repeat (first | assumption | (with_reducible apply Up.of) | (with_reducible exact Below.refl _ _) | (with_reducible exact Up.refl _) | ((with_reducible apply bl_setRow); (focus (first | exact Nat.le_refl _ | (simp; done) | (simp; omega) | omega))) | (with_reducible apply below_drewN) | (with_reducible apply Below.drew) | ((with_reducible apply bl_alloc); (focus (first | exact Nat.le_refl _ | (simp; done) | (simp; omega) | omega))) | ((with_reducible apply bl_setCell); (focus (first | exact Nat.le_refl _ | (simp; done) | (simp; omega) | omega))) | ((with_reducible apply up_tr); assumption)))⟩
theorem hb_sum : sumL (upd (fun _ => 0) 15 9223372036854775808) 17 = hb := by
  have h1 := sumL_upd (fun _ => 0) (k := 15) (n := 17) 9223372036854775808 (by decide)
  rw [sumL_zeros] at h1
  unfold hb
  omega
set_option maxHeartbeats 1000000 in
theorem left_hb (b : Nat) (w : World) (hcell : ∀ w', Up w w' → w'.cell? ⟨b, 0, none⟩ = some (.int .u64 1)) (_ : b < w.heap.size) :
    Calls Try.prog 55 #[.slice (some ⟨b, 0, none⟩) 1 1, .int .i64 1023] w fun e w' => Up w w' ∧ ∃ v, e = .returned v ∧ Am w' v hb := by
  go_enter Try.func55, Try.ntmps55
  go_wp2_with (first | ((with_reducible apply mkP (n := 17)); exact rfl; (first | rfl | omega); omega))
  go_loopw [7] (fun ti wr => ∃ (i : Nat) (S : Nat → Nat), i ≤ 1 ∧ ti = .int .i64 (i : Nat) ∧ (i = 0 → S = fun _ => 0) ∧ (i = 1 → S = upd (fun _ => 0) 15 9223372036854775808) ∧ Row wr w.heap.size 25 17 S ∧ Below w.heap.size w wr)
    (fun ti _ => 1 - (intOf ti).toNat)
  case atStart => exact ⟨0, fun _ => 0, by omega, rfl, fun _ => rfl, fun h => by omega, (by (repeat (first | assumption | ((with_reducible apply row_newc); (focus (first | rfl | (simp; done)))) | ((with_reducible apply row_newz); (focus (first | rfl | (simp; done)))) | (with_reducible apply row_same) | ((with_reducible apply row_else); (focus (first | (simp; done) | (simp; omega) | omega))) | (with_reducible apply row_alloc) | (with_reducible apply row_drew) | (with_reducible apply row_drewN) | ((with_reducible apply row_up); assumption)))), (by repeat (first | assumption | (with_reducible apply Up.of) | (with_reducible exact Below.refl _ _) | (with_reducible exact Up.refl _) | ((with_reducible apply bl_setRow); (focus (first | exact Nat.le_refl _ | (simp; done) | (simp; omega) | omega))) | (with_reducible apply below_drewN) | (with_reducible apply Below.drew) | ((with_reducible apply bl_alloc); (focus (first | exact Nat.le_refl _ | (simp; done) | (simp; omega) | omega))) | ((with_reducible apply bl_setCell); (focus (first | exact Nat.le_refl _ | (simp; done) | (simp; omega) | omega))) | ((with_reducible apply up_tr); assumption)))⟩
  case round =>
    obtain ⟨i, S, hi, rfl, hS0, hS1, hS, hB⟩ := hrel
    by_cases hlt : i < 1
    · obtain rfl : i = 0 := by omega
      obtain rfl := hS0 rfl
      have hcx := hcell _ hB
      clear hS0 hS1
      have hc15 := hS.cell 15 (by decide)
      go_wp2
      refine wp_region_upS (S := (fun wq => Row wq w.heap.size 25 17 (fun _ => 0) ∧ wq.cell? ⟨b, 0, none⟩ = some (.int .u64 1) ∧ wq.cell? ⟨w.heap.size, 15, none⟩ = some (.int .u64 0) ∧ Below w.heap.size w wq)) (req := (fun j => j != 15)) (by kernel_rfl) (fun _ _ h hu => ⟨(h.1).up hu, hu.cell (h.2.1), hu.cell (h.2.2.1), below_up (h.2.2.2) hu⟩) ⟨(by (repeat (first | assumption | ((with_reducible apply row_newc); (focus (first | rfl | (simp; done)))) | ((with_reducible apply row_newz); (focus (first | rfl | (simp; done)))) | (with_reducible apply row_same) | ((with_reducible apply row_else); (focus (first | (simp; done) | (simp; omega) | omega))) | (with_reducible apply row_alloc) | (with_reducible apply row_drew) | (with_reducible apply row_drewN) | ((with_reducible apply row_up); assumption)))), (by first | assumption | (apply Blk.cell; (focus (repeat (first | assumption | ((with_reducible apply blk_new); (focus (first | rfl | (simp; done)))) | (with_reducible apply blk_alloc) | (with_reducible apply blk_drew) | (with_reducible apply blk_drewN) | ((with_reducible apply blk_up); assumption) | (with_reducible apply blk_same) | ((with_reducible apply blk_else); (focus (first | (simp; done) | (simp; omega) | omega)))))); exact rfl)), (by first | assumption | (apply Blk.cell; (focus (repeat (first | assumption | ((with_reducible apply blk_new); (focus (first | rfl | (simp; done)))) | (with_reducible apply blk_alloc) | (with_reducible apply blk_drew) | (with_reducible apply blk_drewN) | ((with_reducible apply blk_up); assumption) | (with_reducible apply blk_same) | ((with_reducible apply blk_else); (focus (first | (simp; done) | (simp; omega) | omega)))))); exact rfl)), (by repeat (first | assumption | (with_reducible apply Up.of) | (with_reducible exact Below.refl _ _) | (with_reducible exact Up.refl _) | ((with_reducible apply bl_setRow); (focus (first | exact Nat.le_refl _ | (simp; done) | (simp; omega) | omega))) | (with_reducible apply below_drewN) | (with_reducible apply Below.drew) | ((with_reducible apply bl_alloc); (focus (first | exact Nat.le_refl _ | (simp; done) | (simp; omega) | omega))) | ((with_reducible apply bl_setCell); (focus (first | exact Nat.le_refl _ | (simp; done) | (simp; omega) | omega))) | ((with_reducible apply up_tr); assumption)))⟩ (fun wS hSS => ?_)
      have ⟨hS1, hS2, hS3, hSB⟩ := hSS
      clear hcx hc15 hB
      have e15 : IntKind.i64.wrap 15 = 15 := by rw [IntKind.wrap_i64]; rfl
      have e16 : IntKind.i64.wrap 16 = 16 := by rw [IntKind.wrap_i64]; rfl
      have e63 : IntKind.u64.wrap 9223372036854775808 = 9223372036854775808 := by rw [IntKind.wrap_u64]; rfl
      have eor : bits BinOp.or IntKind.u64 0 9223372036854775808 = 9223372036854775808 := by
        have := bits_or_u64_nat 0 9223372036854775808 (by decide) (by decide)
        rw [Nat.zero_or] at this
        exact this
      have eoz : bits BinOp.or IntKind.u64 0 0 = 0 := by
        have := bits_or_u64_nat 0 0 (by decide) (by decide)
        rw [Nat.zero_or] at this
        exact this
      refine wpAnyU_pure (i := 0) (d := (some 26)) (v := ?_) rfl rfl (by kernel_rfl) (fun _ _ _ h => h) (fun _ _ h hu => ⟨(h.1).up hu, hu.cell (h.2.1), hu.cell (h.2.2.1), below_up (h.2.2.2) hu⟩) (Or.inl ⟨by rfl, fun w' _ => yu_value ?_⟩) ?_
      rotate_left
      · (go_simp; (try exact rfl))
      try simp only [Act.put, List.setIfInBounds_toArray, List.set_cons_zero, List.set_cons_succ]
      refine wpAnyU_pure (i := 1) (d := (some 27)) (v := ?_) rfl rfl (by kernel_rfl) (fun _ _ _ h => h) (fun _ _ h hu => ⟨(h.1).up hu, hu.cell (h.2.1), hu.cell (h.2.2.1), below_up (h.2.2.2) hu⟩) (Or.inl ⟨by rfl, fun w' _ => yu_value ?_⟩) ?_
      rotate_left
      · (go_simp; (try exact rfl))
      try simp only [Act.put, List.setIfInBounds_toArray, List.set_cons_zero, List.set_cons_succ]
      refine wpAnyU_pure (i := 2) (d := (some 28)) (v := ?_) rfl rfl (by kernel_rfl) (fun _ _ _ h => h) (fun _ _ h hu => ⟨(h.1).up hu, hu.cell (h.2.1), hu.cell (h.2.2.1), below_up (h.2.2.2) hu⟩) (Or.inl ⟨by rfl, fun w' _ => yu_value ?_⟩) ?_
      rotate_left
      · (go_simp; (try exact rfl))
      try simp only [Act.put, List.setIfInBounds_toArray, List.set_cons_zero, List.set_cons_succ]
      refine wpAnyU_pure (i := 3) (d := (some 29)) (v := ?_) rfl rfl (by kernel_rfl) (fun _ _ _ h => h) (fun _ _ h hu => ⟨(h.1).up hu, hu.cell (h.2.1), hu.cell (h.2.2.1), below_up (h.2.2.2) hu⟩) (Or.inl ⟨by rfl, fun w' _ => yu_value ?_⟩) ?_
      rotate_left
      · (go_simp; (try exact rfl))
      try simp only [Act.put, List.setIfInBounds_toArray, List.set_cons_zero, List.set_cons_succ]
      refine wpAnyU_pure (i := 4) (d := (some 30)) (v := ?_) rfl rfl (by kernel_rfl) (fun _ _ _ h => h) (fun _ _ h hu => ⟨(h.1).up hu, hu.cell (h.2.1), hu.cell (h.2.2.1), below_up (h.2.2.2) hu⟩) (Or.inl ⟨by rfl, fun w' _ => yu_value ?_⟩) ?_
      rotate_left
      · (go_simp; (try exact rfl))
      try simp only [Act.put, List.setIfInBounds_toArray, List.set_cons_zero, List.set_cons_succ]
      refine wpAnyU_pure (i := 5) (d := (some 31)) (v := ?_) rfl rfl (by kernel_rfl) (fun _ _ _ h => h) (fun _ _ h hu => ⟨(h.1).up hu, hu.cell (h.2.1), hu.cell (h.2.2.1), below_up (h.2.2.2) hu⟩) (Or.inl ⟨by rfl, fun w' _ => yu_value ?_⟩) ?_
      rotate_left
      · (go_simp; (try exact rfl))
      try simp only [Act.put, List.setIfInBounds_toArray, List.set_cons_zero, List.set_cons_succ]
      refine wpAnyU_take (i := 6) (d := (some 32)) (v := ?_) rfl rfl (by kernel_rfl) (fun _ _ _ h => h) (fun _ _ h hu => ⟨(h.1).up hu, hu.cell (h.2.1), hu.cell (h.2.2.1), below_up (h.2.2.2) hu⟩) hSS (Or.inl ⟨by rfl, fun w' hSw => yu_value ?_⟩) ?_
      rotate_left
      · ((try dsimp only at hSw); (try obtain ⟨_, _, _, _⟩ := hSw); go_simp; (try exact rfl))
      try simp only [Act.put, List.setIfInBounds_toArray, List.set_cons_zero, List.set_cons_succ]
      refine wpAnyU_pure (i := 7) (d := (some 33)) (v := ?_) rfl rfl (by kernel_rfl) (fun _ _ _ h => h) (fun _ _ h hu => ⟨(h.1).up hu, hu.cell (h.2.1), hu.cell (h.2.2.1), below_up (h.2.2.2) hu⟩) (Or.inl ⟨by rfl, fun w' _ => yu_value ?_⟩) ?_
      rotate_left
      · (go_simp; (try exact rfl))
      try simp only [Act.put, List.setIfInBounds_toArray, List.set_cons_zero, List.set_cons_succ]
      refine wpAnyU_pure (i := 8) (d := (some 34)) (v := ?_) rfl rfl (by kernel_rfl) (fun _ _ _ h => h) (fun _ _ h hu => ⟨(h.1).up hu, hu.cell (h.2.1), hu.cell (h.2.2.1), below_up (h.2.2.2) hu⟩) (Or.inl ⟨by rfl, fun w' _ => yu_value ?_⟩) ?_
      rotate_left
      · (go_simp; (try exact rfl))
      try simp only [Act.put, List.setIfInBounds_toArray, List.set_cons_zero, List.set_cons_succ]
      refine wpAnyU_pure (i := 9) (d := (some 35)) (v := ?_) rfl rfl (by kernel_rfl) (fun _ _ _ h => h) (fun _ _ h hu => ⟨(h.1).up hu, hu.cell (h.2.1), hu.cell (h.2.2.1), below_up (h.2.2.2) hu⟩) (Or.inl ⟨by rfl, fun w' _ => yu_value ?_⟩) ?_
      rotate_left
      · (go_simp; (try exact rfl))
      try simp only [Act.put, List.setIfInBounds_toArray, List.set_cons_zero, List.set_cons_succ]
      refine wpAnyU_take (i := 10) (d := (some 36)) (v := ?_) rfl rfl (by kernel_rfl) (fun _ _ _ h => h) (fun _ _ h hu => ⟨(h.1).up hu, hu.cell (h.2.1), hu.cell (h.2.2.1), below_up (h.2.2.2) hu⟩) hSS (Or.inl ⟨by rfl, fun w' hSw => yu_value ?_⟩) ?_
      rotate_left
      · ((try dsimp only at hSw); (try obtain ⟨_, _, _, _⟩ := hSw); go_simp; (try exact rfl))
      try simp only [Act.put, List.setIfInBounds_toArray, List.set_cons_zero, List.set_cons_succ]
      refine wpAnyU_pure (i := 11) (d := (some 37)) (v := ?_) rfl rfl (by kernel_rfl) (fun _ _ _ h => h) (fun _ _ h hu => ⟨(h.1).up hu, hu.cell (h.2.1), hu.cell (h.2.2.1), below_up (h.2.2.2) hu⟩) (Or.inl ⟨by rfl, fun w' _ => yu_value ?_⟩) ?_
      rotate_left
      · (go_simp; (try exact rfl))
      try simp only [Act.put, List.setIfInBounds_toArray, List.set_cons_zero, List.set_cons_succ]
      refine wpAnyU_pure (i := 12) (d := (some 38)) (v := ?_) rfl rfl (by kernel_rfl) (fun _ _ _ h => h) (fun _ _ h hu => ⟨(h.1).up hu, hu.cell (h.2.1), hu.cell (h.2.2.1), below_up (h.2.2.2) hu⟩) (Or.inl ⟨by rfl, fun w' _ => yu_value ?_⟩) ?_
      rotate_left
      · (go_simp; (try exact rfl))
      try simp only [Act.put, List.setIfInBounds_toArray, List.set_cons_zero, List.set_cons_succ]
      refine wpAnyU_pure (i := 13) (d := (some 39)) (v := ?_) rfl rfl (by kernel_rfl) (fun _ _ _ h => h) (fun _ _ h hu => ⟨(h.1).up hu, hu.cell (h.2.1), hu.cell (h.2.2.1), below_up (h.2.2.2) hu⟩) (Or.inl ⟨by rfl, fun w' _ => yu_value ?_⟩) ?_
      rotate_left
      · (go_simp; (try exact rfl))
      try simp only [Act.put, List.setIfInBounds_toArray, List.set_cons_zero, List.set_cons_succ]
      refine wpAnyU_pure (i := 14) (d := (some 40)) (v := ?_) rfl rfl (by kernel_rfl) (fun _ _ _ h => h) (fun _ _ h hu => ⟨(h.1).up hu, hu.cell (h.2.1), hu.cell (h.2.2.1), below_up (h.2.2.2) hu⟩) (Or.inl ⟨by rfl, fun w' _ => yu_value ?_⟩) ?_
      rotate_left
      · (go_simp; (try exact rfl))
      try simp only [Act.put, List.setIfInBounds_toArray, List.set_cons_zero, List.set_cons_succ]
      refine wpAnyU_one (i := 15) rfl (by kernel_rfl) (by rfl) fun w1 hw1 => ?_
      have hcW := (hS1.up hw1).cell 15 (by omega)
      have hfW := (hS1.up hw1).frozen 15
      go_simp
      clear hcW hfW
      refine wpAnyU_done (by kernel_rfl) (fun wF huE => ?_) _
      have gS := ((hS1.up hw1).set 15 9223372036854775808).up huE
      have gB := below_up ((below_up hSB hw1).setCell (p := ⟨w.heap.size, 15, none⟩) (Nat.le_refl _) (.int .u64 (9223372036854775808 : Nat))) huE
      clear hS1 hS2 hS3 hSB hSS hw1 huE
      have hcx := hcell _ gB
      have hc16 := gS.cell 16 (by decide)
      rw [show upd (fun _ => 0) 15 9223372036854775808 16 = 0 from rfl] at hc16
      go_wp2
      refine wp_region_upS (S := (fun wq => Row wq w.heap.size 25 17 (upd (fun _ => 0) 15 9223372036854775808) ∧ wq.cell? ⟨b, 0, none⟩ = some (.int .u64 1) ∧ wq.cell? ⟨w.heap.size, 16, none⟩ = some (.int .u64 0) ∧ Below w.heap.size w wq)) (req := (fun j => j != 17)) (by kernel_rfl) (fun _ _ h hu => ⟨(h.1).up hu, hu.cell (h.2.1), hu.cell (h.2.2.1), below_up (h.2.2.2) hu⟩) ⟨(by (repeat (first | assumption | ((with_reducible apply row_newc); (focus (first | rfl | (simp; done)))) | ((with_reducible apply row_newz); (focus (first | rfl | (simp; done)))) | (with_reducible apply row_same) | ((with_reducible apply row_else); (focus (first | (simp; done) | (simp; omega) | omega))) | (with_reducible apply row_alloc) | (with_reducible apply row_drew) | (with_reducible apply row_drewN) | ((with_reducible apply row_up); assumption)))), (by first | assumption | (apply Blk.cell; (focus (repeat (first | assumption | ((with_reducible apply blk_new); (focus (first | rfl | (simp; done)))) | (with_reducible apply blk_alloc) | (with_reducible apply blk_drew) | (with_reducible apply blk_drewN) | ((with_reducible apply blk_up); assumption) | (with_reducible apply blk_same) | ((with_reducible apply blk_else); (focus (first | (simp; done) | (simp; omega) | omega)))))); exact rfl)), (by first | assumption | (apply Blk.cell; (focus (repeat (first | assumption | ((with_reducible apply blk_new); (focus (first | rfl | (simp; done)))) | (with_reducible apply blk_alloc) | (with_reducible apply blk_drew) | (with_reducible apply blk_drewN) | ((with_reducible apply blk_up); assumption) | (with_reducible apply blk_same) | ((with_reducible apply blk_else); (focus (first | (simp; done) | (simp; omega) | omega)))))); exact rfl)), (by repeat (first | assumption | (with_reducible apply Up.of) | (with_reducible exact Below.refl _ _) | (with_reducible exact Up.refl _) | ((with_reducible apply bl_setRow); (focus (first | exact Nat.le_refl _ | (simp; done) | (simp; omega) | omega))) | (with_reducible apply below_drewN) | (with_reducible apply Below.drew) | ((with_reducible apply bl_alloc); (focus (first | exact Nat.le_refl _ | (simp; done) | (simp; omega) | omega))) | ((with_reducible apply bl_setCell); (focus (first | exact Nat.le_refl _ | (simp; done) | (simp; omega) | omega))) | ((with_reducible apply up_tr); assumption)))⟩ (fun wS hSS => ?_)
      have ⟨hS1, hS2, hS3, hSB⟩ := hSS
      clear hcx hc16 gB gS
      refine wpAnyU_pure (i := 0) (d := (some 43)) (v := ?_) rfl rfl (by kernel_rfl) (fun _ _ _ h => h) (fun _ _ h hu => ⟨(h.1).up hu, hu.cell (h.2.1), hu.cell (h.2.2.1), below_up (h.2.2.2) hu⟩) (Or.inl ⟨by rfl, fun w' _ => yu_value ?_⟩) ?_
      rotate_left
      · (go_simp; (try exact rfl))
      try simp only [Act.put, List.setIfInBounds_toArray, List.set_cons_zero, List.set_cons_succ]
      refine wpAnyU_pure (i := 1) (d := (some 44)) (v := ?_) rfl rfl (by kernel_rfl) (fun _ _ _ h => h) (fun _ _ h hu => ⟨(h.1).up hu, hu.cell (h.2.1), hu.cell (h.2.2.1), below_up (h.2.2.2) hu⟩) (Or.inl ⟨by rfl, fun w' _ => yu_value ?_⟩) ?_
      rotate_left
      · (go_simp; (try exact rfl))
      try simp only [Act.put, List.setIfInBounds_toArray, List.set_cons_zero, List.set_cons_succ]
      refine wpAnyU_pure (i := 2) (d := (some 45)) (v := ?_) rfl rfl (by kernel_rfl) (fun _ _ _ h => h) (fun _ _ h hu => ⟨(h.1).up hu, hu.cell (h.2.1), hu.cell (h.2.2.1), below_up (h.2.2.2) hu⟩) (Or.inl ⟨by rfl, fun w' _ => yu_value ?_⟩) ?_
      rotate_left
      · (go_simp; (try exact rfl))
      try simp only [Act.put, List.setIfInBounds_toArray, List.set_cons_zero, List.set_cons_succ]
      refine wpAnyU_pure (i := 3) (d := (some 46)) (v := ?_) rfl rfl (by kernel_rfl) (fun _ _ _ h => h) (fun _ _ h hu => ⟨(h.1).up hu, hu.cell (h.2.1), hu.cell (h.2.2.1), below_up (h.2.2.2) hu⟩) (Or.inl ⟨by rfl, fun w' _ => yu_value ?_⟩) ?_
      rotate_left
      · (go_simp; (try exact rfl))
      try simp only [Act.put, List.setIfInBounds_toArray, List.set_cons_zero, List.set_cons_succ]
      refine wpAnyU_pure (i := 4) (d := (some 47)) (v := ?_) rfl rfl (by kernel_rfl) (fun _ _ _ h => h) (fun _ _ h hu => ⟨(h.1).up hu, hu.cell (h.2.1), hu.cell (h.2.2.1), below_up (h.2.2.2) hu⟩) (Or.inl ⟨by rfl, fun w' _ => yu_value ?_⟩) ?_
      rotate_left
      · (go_simp; (try exact rfl))
      try simp only [Act.put, List.setIfInBounds_toArray, List.set_cons_zero, List.set_cons_succ]
      refine wpAnyU_pure (i := 5) (d := (some 48)) (v := ?_) rfl rfl (by kernel_rfl) (fun _ _ _ h => h) (fun _ _ h hu => ⟨(h.1).up hu, hu.cell (h.2.1), hu.cell (h.2.2.1), below_up (h.2.2.2) hu⟩) (Or.inl ⟨by rfl, fun w' _ => yu_value ?_⟩) ?_
      rotate_left
      · (go_simp; (try exact rfl))
      try simp only [Act.put, List.setIfInBounds_toArray, List.set_cons_zero, List.set_cons_succ]
      refine wpAnyU_pure (i := 6) (d := (some 49)) (v := ?_) rfl rfl (by kernel_rfl) (fun _ _ _ h => h) (fun _ _ h hu => ⟨(h.1).up hu, hu.cell (h.2.1), hu.cell (h.2.2.1), below_up (h.2.2.2) hu⟩) (Or.inl ⟨by rfl, fun w' _ => yu_value ?_⟩) ?_
      rotate_left
      · (go_simp; (try exact rfl))
      try simp only [Act.put, List.setIfInBounds_toArray, List.set_cons_zero, List.set_cons_succ]
      refine wpAnyU_take (i := 7) (d := (some 50)) (v := ?_) rfl rfl (by kernel_rfl) (fun _ _ _ h => h) (fun _ _ h hu => ⟨(h.1).up hu, hu.cell (h.2.1), hu.cell (h.2.2.1), below_up (h.2.2.2) hu⟩) hSS (Or.inl ⟨by rfl, fun w' hSw => yu_value ?_⟩) ?_
      rotate_left
      · ((try dsimp only at hSw); (try obtain ⟨_, _, _, _⟩ := hSw); go_simp; (try exact rfl))
      try simp only [Act.put, List.setIfInBounds_toArray, List.set_cons_zero, List.set_cons_succ]
      refine wpAnyU_pure (i := 8) (d := (some 51)) (v := ?_) rfl rfl (by kernel_rfl) (fun _ _ _ h => h) (fun _ _ h hu => ⟨(h.1).up hu, hu.cell (h.2.1), hu.cell (h.2.2.1), below_up (h.2.2.2) hu⟩) (Or.inl ⟨by rfl, fun w' _ => yu_value ?_⟩) ?_
      rotate_left
      · (go_simp; (try exact rfl))
      try simp only [Act.put, List.setIfInBounds_toArray, List.set_cons_zero, List.set_cons_succ]
      refine wpAnyU_pure (i := 9) (d := (some 52)) (v := ?_) rfl rfl (by kernel_rfl) (fun _ _ _ h => h) (fun _ _ h hu => ⟨(h.1).up hu, hu.cell (h.2.1), hu.cell (h.2.2.1), below_up (h.2.2.2) hu⟩) (Or.inl ⟨by rfl, fun w' _ => yu_value ?_⟩) ?_
      rotate_left
      · (go_simp; (try exact rfl))
      try simp only [Act.put, List.setIfInBounds_toArray, List.set_cons_zero, List.set_cons_succ]
      refine wpAnyU_pure (i := 10) (d := (some 53)) (v := ?_) rfl rfl (by kernel_rfl) (fun _ _ _ h => h) (fun _ _ h hu => ⟨(h.1).up hu, hu.cell (h.2.1), hu.cell (h.2.2.1), below_up (h.2.2.2) hu⟩) (Or.inl ⟨by rfl, fun w' _ => yu_value ?_⟩) ?_
      rotate_left
      · (go_simp; (try exact rfl))
      try simp only [Act.put, List.setIfInBounds_toArray, List.set_cons_zero, List.set_cons_succ]
      refine wpAnyU_take (i := 11) (d := (some 54)) (v := ?_) rfl rfl (by kernel_rfl) (fun _ _ _ h => h) (fun _ _ h hu => ⟨(h.1).up hu, hu.cell (h.2.1), hu.cell (h.2.2.1), below_up (h.2.2.2) hu⟩) hSS (Or.inl ⟨by rfl, fun w' hSw => yu_value ?_⟩) ?_
      rotate_left
      · ((try dsimp only at hSw); (try obtain ⟨_, _, _, _⟩ := hSw); go_simp; (try exact rfl))
      try simp only [Act.put, List.setIfInBounds_toArray, List.set_cons_zero, List.set_cons_succ]
      refine wpAnyU_pure (i := 12) (d := (some 55)) (v := ?_) rfl rfl (by kernel_rfl) (fun _ _ _ h => h) (fun _ _ h hu => ⟨(h.1).up hu, hu.cell (h.2.1), hu.cell (h.2.2.1), below_up (h.2.2.2) hu⟩) (Or.inl ⟨by rfl, fun w' _ => yu_value ?_⟩) ?_
      rotate_left
      · (go_simp; (try exact rfl))
      try simp only [Act.put, List.setIfInBounds_toArray, List.set_cons_zero, List.set_cons_succ]
      refine wpAnyU_pure (i := 13) (d := (some 56)) (v := ?_) rfl rfl (by kernel_rfl) (fun _ _ _ h => h) (fun _ _ h hu => ⟨(h.1).up hu, hu.cell (h.2.1), hu.cell (h.2.2.1), below_up (h.2.2.2) hu⟩) (Or.inl ⟨by rfl, fun w' _ => yu_value ?_⟩) ?_
      rotate_left
      · (go_simp; (try exact rfl))
      try simp only [Act.put, List.setIfInBounds_toArray, List.set_cons_zero, List.set_cons_succ]
      refine wpAnyU_pure (i := 14) (d := (some 57)) (v := ?_) rfl rfl (by kernel_rfl) (fun _ _ _ h => h) (fun _ _ h hu => ⟨(h.1).up hu, hu.cell (h.2.1), hu.cell (h.2.2.1), below_up (h.2.2.2) hu⟩) (Or.inl ⟨by rfl, fun w' _ => yu_value ?_⟩) ?_
      rotate_left
      · (go_simp; (try exact rfl))
      try simp only [Act.put, List.setIfInBounds_toArray, List.set_cons_zero, List.set_cons_succ]
      refine wpAnyU_pure (i := 15) (d := (some 58)) (v := ?_) rfl rfl (by kernel_rfl) (fun _ _ _ h => h) (fun _ _ h hu => ⟨(h.1).up hu, hu.cell (h.2.1), hu.cell (h.2.2.1), below_up (h.2.2.2) hu⟩) (Or.inl ⟨by rfl, fun w' _ => yu_value ?_⟩) ?_
      rotate_left
      · (go_simp; (try exact rfl))
      try simp only [Act.put, List.setIfInBounds_toArray, List.set_cons_zero, List.set_cons_succ]
      refine wpAnyU_pure (i := 16) (d := (some 59)) (v := ?_) rfl rfl (by kernel_rfl) (fun _ _ _ h => h) (fun _ _ h hu => ⟨(h.1).up hu, hu.cell (h.2.1), hu.cell (h.2.2.1), below_up (h.2.2.2) hu⟩) (Or.inl ⟨by rfl, fun w' _ => yu_value ?_⟩) ?_
      rotate_left
      · (go_simp; (try exact rfl))
      try simp only [Act.put, List.setIfInBounds_toArray, List.set_cons_zero, List.set_cons_succ]
      refine wpAnyU_one (i := 17) rfl (by kernel_rfl) (by rfl) fun w1 hw1 => ?_
      have hcW := (hS1.up hw1).cell 16 (by omega)
      have hfW := (hS1.up hw1).frozen 16
      go_simp
      clear hcW hfW
      refine wpAnyU_done (by kernel_rfl) (fun wF huE => ?_) _
      have gS := ((hS1.up hw1).set 16 0).up huE
      have gB := below_up ((below_up hSB hw1).setCell (p := ⟨w.heap.size, 16, none⟩) (Nat.le_refl _) (.int .u64 (0 : Nat))) huE
      clear hS1 hS2 hS3 hSB hSS hw1 huE
      go_wp2
      go_roundw
      case rel => exact ⟨1, _, by omega, rfl, fun h => by omega, fun _ => rfl, gS.congr fun i _ => by unfold upd; split <;> (first | rfl | (subst_vars; rfl) | simp_all), gB⟩
      case measure => simp [intOf]
    · obtain rfl : i = 1 := by omega
      obtain rfl := hS1 rfl
      clear hS0 hS1
      have hSb : ∀ j, j < 17 → upd (fun _ => 0) 15 9223372036854775808 j < 18446744073709551616 := upd_lt (fun _ _ => by simp) (by decide)
      have ht := trim_row w.heap.size 17 17 17 (upd (fun _ => 0) 15 9223372036854775808) wr hS (Nat.le_refl _) (Nat.le_refl _) (by omega)
      have hres := am_row (c := 17) hS (Nat.le_refl _) (Nat.le_refl _) hSb
      rw [hb_sum] at hres
      have HT := hid ht
      have HR := hid hres
      clear ht hres hSb hS
      generalize lenL (upd (fun _ => 0) 15 9223372036854775808) 17 = n at *
      go_wp2_with (go_at_call 38; (with_reducible refine HT.out.mono ?_); rintro e w' ⟨rfl, hu⟩)
      go_ret
      exact ⟨below_up hB hu, _, rfl, HR.out.up hu⟩
end Go.Proofs.Ytlkolfnklbldcaa
