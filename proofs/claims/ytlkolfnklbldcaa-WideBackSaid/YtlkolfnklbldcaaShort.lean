/-
  wide: division by a number of one limb.
-/
import Derived.Test.YtlkolfnklbldcaaMul
import Derived.Test.YtlkolfnklbldcaaDiv64
namespace Go.Proofs.Ytlkolfnklbldcaa
open Go Go.RowKit
set_option maxRecDepth 100000

/-- Block b holds n limbs, whichever. -/
def ExRow (w : World) (b : Nat) (t : TypeId) (n : Nat) : Prop := ∃ f, Row w b t n f
theorem ExRow.up {w w' : World} {b n : Nat} {t : TypeId} (h : ExRow w b t n) (hu : Up w w') : ExRow w' b t n := let ⟨f, hf⟩ := h; ⟨f, hf.up hu⟩
theorem ExRow.st {w : World} {b c n : Nat} {t : TypeId} (h : ExRow w b t n) (v : Nat → Nat) : ExRow (w.setRow c (cells n v)) b t n := by
  obtain ⟨f, hf⟩ := h
  by_cases e : b = c
  · subst e; exact ⟨v, hf.setRow v⟩
  · exact ⟨f, hf.row_other _ e⟩
theorem short_step {x S r y xk q r' b X : Nat} (h : x = S * y + r * (b * 18446744073709551616) + (X + xk * b)) (hq : y * q + r' = 18446744073709551616 * r + xk) : x = (S + q * b) * y + r' * b + X := by
  have h2 : (y * q + r') * b = (18446744073709551616 * r + xk) * b := by rw [hq]
  rw [h]
  grind
theorem short_q {r y xk : Nat} (hr : r < y) (hx : xk < 18446744073709551616) : (18446744073709551616 * r + xk) / y < 18446744073709551616 := by
  rw [Nat.div_lt_iff_lt_mul (by omega)]
  omega
theorem sum_one (r n : Nat) : sumL (upd (fun _ => 0) 0 r) (n + 1) = r := by
  induction n with
  | zero => rw [sumL_upd_succ, sumL_zero, bp_zero]; omega
  | succ n ih => rw [sumL_succ, ih, upd_other _ _ _ (by omega)]; omega
theorem wide_one {r : Nat} (hr : r < 18446744073709551616) : Value.agg (cells 16 (upd (fun _ => 0) 0 r)) = wideV r := by
  rw [wide_of (upd_lt (fun _ _ => by decide) hr), sum_one r 15]
set_option maxHeartbeats 2000000 in
theorem short_any (x y : Nat) (hx : x < bp 16) (hy : y < 18446744073709551616) (h0 : 0 < y) (w : World) :
    Calls Try.prog 62 #[wideV x, .int .u64 y] w fun e w' => e = .returned (.tuple #[wideV (x / y), wideV (x % y)]) ∧ Up w w' := by
  have HL := hid (length_any x)
  have hn := lenL_le (limb x) 16
  have HX := hid (limb_len x hx)
  generalize lenL (limb x) 16 = n at *
  unfold wideV at *
  go_enter Try.func62, Try.ntmps62
  go_wp2_with (first | ((with_reducible apply ld_rowP undW infoW); exact rfl; exact rfl; focus (repeat (first | assumption | ((with_reducible apply row_newc); (focus (first | rfl | (simp; done)))) | ((with_reducible apply row_newz); (focus (first | rfl | (simp; done)))) | (with_reducible apply row_same) | ((with_reducible apply row_else); (focus (first | (simp; done) | (simp; omega) | omega))) | (with_reducible apply row_alloc) | (with_reducible apply row_drew) | (with_reducible apply row_drewN) | ((with_reducible apply row_up); assumption)))) | (go_at_call 57; refine (HL.out _).mono ?_; rintro e w' ⟨rfl, hu⟩; have rX : Row w' w.heap.size 27 16 (limb x) := (by (repeat (first | assumption | ((with_reducible apply row_newc); (focus (first | rfl | (simp; done)))) | ((with_reducible apply row_newz); (focus (first | rfl | (simp; done)))) | (with_reducible apply row_same) | ((with_reducible apply row_else); (focus (first | (simp; done) | (simp; omega) | omega))) | (with_reducible apply row_alloc) | (with_reducible apply row_drew) | (with_reducible apply row_drewN) | ((with_reducible apply row_up); assumption)))); have rA : Row w' (w.heap.size + 1) 27 16 (fun _ => 0) := (by (repeat (first | assumption | ((with_reducible apply row_newc); (focus (first | rfl | (simp; done)))) | ((with_reducible apply row_newz); (focus (first | rfl | (simp; done)))) | (with_reducible apply row_same) | ((with_reducible apply row_else); (focus (first | (simp; done) | (simp; omega) | omega))) | (with_reducible apply row_alloc) | (with_reducible apply row_drew) | (with_reducible apply row_drewN) | ((with_reducible apply row_up); assumption)))); have rB : Row w' (w.heap.size + 1 + 1) 27 16 (fun _ => 0) := (by (repeat (first | assumption | ((with_reducible apply row_newc); (focus (first | rfl | (simp; done)))) | ((with_reducible apply row_newz); (focus (first | rfl | (simp; done)))) | (with_reducible apply row_same) | ((with_reducible apply row_else); (focus (first | (simp; done) | (simp; omega) | omega))) | (with_reducible apply row_alloc) | (with_reducible apply row_drew) | (with_reducible apply row_drewN) | ((with_reducible apply row_up); assumption)))); have rQ : Row w' (w.heap.size + 1 + 1 + 1) 27 16 (fun _ => 0) := (by (repeat (first | assumption | ((with_reducible apply row_newc); (focus (first | rfl | (simp; done)))) | ((with_reducible apply row_newz); (focus (first | rfl | (simp; done)))) | (with_reducible apply row_same) | ((with_reducible apply row_else); (focus (first | (simp; done) | (simp; omega) | omega))) | (with_reducible apply row_alloc) | (with_reducible apply row_drew) | (with_reducible apply row_drewN) | ((with_reducible apply row_up); assumption)))); have rR : Row w' (w.heap.size + 1 + 1 + 1 + 1) 27 16 (fun _ => 0) := (by (repeat (first | assumption | ((with_reducible apply row_newc); (focus (first | rfl | (simp; done)))) | ((with_reducible apply row_newz); (focus (first | rfl | (simp; done)))) | (with_reducible apply row_same) | ((with_reducible apply row_else); (focus (first | (simp; done) | (simp; omega) | omega))) | (with_reducible apply row_alloc) | (with_reducible apply row_drew) | (with_reducible apply row_drewN) | ((with_reducible apply row_up); assumption)))); have rU : Below w.heap.size w w' := (by repeat (first | assumption | (with_reducible apply Up.of) | (with_reducible exact Below.refl _ _) | (with_reducible exact Up.refl _) | ((with_reducible apply bl_setRow); (focus (first | exact Nat.le_refl _ | (simp; done) | (simp; omega) | omega))) | (with_reducible apply below_drewN) | (with_reducible apply Below.drew) | ((with_reducible apply bl_alloc); (focus (first | exact Nat.le_refl _ | (simp; done) | (simp; omega) | omega))) | ((with_reducible apply bl_setCell); (focus (first | exact Nat.le_refl _ | (simp; done) | (simp; omega) | omega))) | ((with_reducible apply up_tr); assumption))); clear hu))
  go_loopw [8] (fun t wr => ∃ (m r : Nat) (f : Nat → Nat), m ≤ 16 ∧ t = .int .i64 ((m : Int) - 1) ∧ r < y ∧ (∀ j, j < 16 → f j < 18446744073709551616) ∧ (∀ j, j < m → f j = 0) ∧ x = sumL f 16 * y + r * bp m + sumL (limb x) m ∧
      Row wr w.heap.size 27 16 (limb x) ∧ Row wr (w.heap.size + 1) 27 16 (fun _ => 0) ∧ Row wr (w.heap.size + 1 + 1) 27 16 (fun _ => 0) ∧ Row wr (w.heap.size + 1 + 1 + 1) 27 16 f ∧ Row wr (w.heap.size + 1 + 1 + 1 + 1) 27 16 (upd (fun _ => 0) 0 r) ∧ Below w.heap.size w wr)
    (fun t _ => (intOf t + 1).toNat)
  case atStart => exact ⟨n, 0, fun _ => 0, hn, rfl, h0, fun j _ => by simp, fun j _ => rfl, by rw [sumL_zeros, HX.out]; omega, rX, rA, rB, rQ, rR.congr fun i _ => by unfold upd; split <;> rfl, rU⟩
  case round =>
    clear rX rA rB rQ rR rU
    obtain ⟨m, r, f, hm, rfl, hr, hf, hz, hsum, hX, hA, hB2, hQ, hR, hB⟩ := hrel
    have Hf := hid hf
    have Hz := hid hz
    have Hsum := hid hsum
    clear hf hz hsum
    by_cases hlt : 0 < m
    · obtain ⟨k, rfl⟩ : ∃ k, m = k + 1 := ⟨m - 1, by omega⟩
      have e : (((k + 1 : Nat) : Int) - 1) = (k : Int) := by omega
      rw [e]
      clear e
      have hlx := limb_lt x k
      obtain ⟨q, eq⟩ : ∃ q, q = (18446744073709551616 * r + limb x k) / y := ⟨_, rfl⟩
      obtain ⟨r', er⟩ : ∃ r', r' = (18446744073709551616 * r + limb x k) % y := ⟨_, rfl⟩
      have hD := div64_any r (limb x k) y hy hlx hr
      rw [← eq, ← er] at hD
      have HD := hid hD
      have hq : q < 18446744073709551616 := by rw [eq]; exact short_q hr hlx
      have hr' : r' < y := by rw [er]; exact Nat.mod_lt _ h0
      have HQR : Hid (y * q + r' = 18446744073709551616 * r + limb x k) := hid (by rw [eq, er]; exact Nat.div_add_mod _ _)
      clear eq er hD
      have hk1 : (k : Int) < 16 := by omega
      have hcx := hX.cell k (by omega)
      have hcr := hR.cell 0 (by omega)
      rw [upd_same] at hcr
      go_wp2
      refine wp_region_upS (S := (fun wq => Row wq w.heap.size 27 16 (limb x) ∧ Row wq (w.heap.size + 1) 27 16 (fun _ => 0) ∧ Row wq (w.heap.size + 1 + 1) 27 16 (fun _ => 0) ∧ Row wq (w.heap.size + 1 + 1 + 1) 27 16 f ∧ Row wq (w.heap.size + 1 + 1 + 1 + 1) 27 16 (upd (fun _ => 0) 0 r) ∧ wq.cell? ⟨w.heap.size, k, none⟩ = some (.int .u64 (limb x k : Nat)) ∧ wq.cell? ⟨w.heap.size + 1 + 1 + 1 + 1, 0, none⟩ = some (.int .u64 (r : Nat)) ∧ Below w.heap.size w wq)) (req := (fun j => j != 12 && j != 14)) (by kernel_rfl) (fun _ _ h hu => ⟨(h.1).up hu, (h.2.1).up hu, (h.2.2.1).up hu, (h.2.2.2.1).up hu, (h.2.2.2.2.1).up hu, hu.cell (h.2.2.2.2.2.1), hu.cell (h.2.2.2.2.2.2.1), below_up (h.2.2.2.2.2.2.2) hu⟩) ⟨(by (repeat (first | assumption | ((with_reducible apply row_newc); (focus (first | rfl | (simp; done)))) | ((with_reducible apply row_newz); (focus (first | rfl | (simp; done)))) | (with_reducible apply row_same) | ((with_reducible apply row_else); (focus (first | (simp; done) | (simp; omega) | omega))) | (with_reducible apply row_alloc) | (with_reducible apply row_drew) | (with_reducible apply row_drewN) | ((with_reducible apply row_up); assumption)))), (by (repeat (first | assumption | ((with_reducible apply row_newc); (focus (first | rfl | (simp; done)))) | ((with_reducible apply row_newz); (focus (first | rfl | (simp; done)))) | (with_reducible apply row_same) | ((with_reducible apply row_else); (focus (first | (simp; done) | (simp; omega) | omega))) | (with_reducible apply row_alloc) | (with_reducible apply row_drew) | (with_reducible apply row_drewN) | ((with_reducible apply row_up); assumption)))), (by (repeat (first | assumption | ((with_reducible apply row_newc); (focus (first | rfl | (simp; done)))) | ((with_reducible apply row_newz); (focus (first | rfl | (simp; done)))) | (with_reducible apply row_same) | ((with_reducible apply row_else); (focus (first | (simp; done) | (simp; omega) | omega))) | (with_reducible apply row_alloc) | (with_reducible apply row_drew) | (with_reducible apply row_drewN) | ((with_reducible apply row_up); assumption)))), (by (repeat (first | assumption | ((with_reducible apply row_newc); (focus (first | rfl | (simp; done)))) | ((with_reducible apply row_newz); (focus (first | rfl | (simp; done)))) | (with_reducible apply row_same) | ((with_reducible apply row_else); (focus (first | (simp; done) | (simp; omega) | omega))) | (with_reducible apply row_alloc) | (with_reducible apply row_drew) | (with_reducible apply row_drewN) | ((with_reducible apply row_up); assumption)))), (by (repeat (first | assumption | ((with_reducible apply row_newc); (focus (first | rfl | (simp; done)))) | ((with_reducible apply row_newz); (focus (first | rfl | (simp; done)))) | (with_reducible apply row_same) | ((with_reducible apply row_else); (focus (first | (simp; done) | (simp; omega) | omega))) | (with_reducible apply row_alloc) | (with_reducible apply row_drew) | (with_reducible apply row_drewN) | ((with_reducible apply row_up); assumption)))), (by first | assumption | (apply Blk.cell; (focus (repeat (first | assumption | ((with_reducible apply blk_new); (focus (first | rfl | (simp; done)))) | (with_reducible apply blk_alloc) | (with_reducible apply blk_drew) | (with_reducible apply blk_drewN) | ((with_reducible apply blk_up); assumption) | (with_reducible apply blk_same) | ((with_reducible apply blk_else); (focus (first | (simp; done) | (simp; omega) | omega)))))); exact rfl)), (by first | assumption | (apply Blk.cell; (focus (repeat (first | assumption | ((with_reducible apply blk_new); (focus (first | rfl | (simp; done)))) | (with_reducible apply blk_alloc) | (with_reducible apply blk_drew) | (with_reducible apply blk_drewN) | ((with_reducible apply blk_up); assumption) | (with_reducible apply blk_same) | ((with_reducible apply blk_else); (focus (first | (simp; done) | (simp; omega) | omega)))))); exact rfl)), (by repeat (first | assumption | (with_reducible apply Up.of) | (with_reducible exact Below.refl _ _) | (with_reducible exact Up.refl _) | ((with_reducible apply bl_setRow); (focus (first | exact Nat.le_refl _ | (simp; done) | (simp; omega) | omega))) | (with_reducible apply below_drewN) | (with_reducible apply Below.drew) | ((with_reducible apply bl_alloc); (focus (first | exact Nat.le_refl _ | (simp; done) | (simp; omega) | omega))) | ((with_reducible apply bl_setCell); (focus (first | exact Nat.le_refl _ | (simp; done) | (simp; omega) | omega))) | ((with_reducible apply up_tr); assumption)))⟩ (fun wS hSS => ?_)
      have ⟨hS1, hS2, hS3, hS4, hS5, hS6, hS7, hSB⟩ := hSS
      clear hcx hcr hX hA hB2 hQ hR hB
      refine wpAnyU_pure (i := 0) (d := (some 17)) (v := ?_) rfl rfl (by kernel_rfl) (fun _ _ _ h => h) (fun _ _ h hu => ⟨(h.1).up hu, (h.2.1).up hu, (h.2.2.1).up hu, (h.2.2.2.1).up hu, (h.2.2.2.2.1).up hu, hu.cell (h.2.2.2.2.2.1), hu.cell (h.2.2.2.2.2.2.1), below_up (h.2.2.2.2.2.2.2) hu⟩) (Or.inl ⟨by rfl, fun w' _ => yu_value ?_⟩) ?_
      rotate_left
      · (go_simp; (try exact rfl))
      try simp only [Act.put, List.setIfInBounds_toArray, List.set_cons_zero, List.set_cons_succ]
      refine wpAnyU_pure (i := 1) (d := (some 18)) (v := ?_) rfl rfl (by kernel_rfl) (fun _ _ _ h => h) (fun _ _ h hu => ⟨(h.1).up hu, (h.2.1).up hu, (h.2.2.1).up hu, (h.2.2.2.1).up hu, (h.2.2.2.2.1).up hu, hu.cell (h.2.2.2.2.2.1), hu.cell (h.2.2.2.2.2.2.1), below_up (h.2.2.2.2.2.2.2) hu⟩) (Or.inl ⟨by rfl, fun w' _ => yu_value ?_⟩) ?_
      rotate_left
      · (go_simp; (try exact rfl))
      try simp only [Act.put, List.setIfInBounds_toArray, List.set_cons_zero, List.set_cons_succ]
      refine wpAnyU_take (i := 2) (d := (some 19)) (v := ?_) rfl rfl (by kernel_rfl) (fun _ _ _ h => h) (fun _ _ h hu => ⟨(h.1).up hu, (h.2.1).up hu, (h.2.2.1).up hu, (h.2.2.2.1).up hu, (h.2.2.2.2.1).up hu, hu.cell (h.2.2.2.2.2.1), hu.cell (h.2.2.2.2.2.2.1), below_up (h.2.2.2.2.2.2.2) hu⟩) hSS (Or.inl ⟨by rfl, fun w' hSw => yu_value ?_⟩) ?_
      rotate_left
      · ((try dsimp only at hSw); (try obtain ⟨_, _, _, _, _, _, _, _⟩ := hSw); go_simp; (try exact rfl))
      try simp only [Act.put, List.setIfInBounds_toArray, List.set_cons_zero, List.set_cons_succ]
      refine wpAnyU_pure (i := 3) (d := (some 20)) (v := ?_) rfl rfl (by kernel_rfl) (fun _ _ _ h => h) (fun _ _ h hu => ⟨(h.1).up hu, (h.2.1).up hu, (h.2.2.1).up hu, (h.2.2.2.1).up hu, (h.2.2.2.2.1).up hu, hu.cell (h.2.2.2.2.2.1), hu.cell (h.2.2.2.2.2.2.1), below_up (h.2.2.2.2.2.2.2) hu⟩) (Or.inl ⟨by rfl, fun w' _ => yu_value ?_⟩) ?_
      rotate_left
      · (go_simp; (try exact rfl))
      try simp only [Act.put, List.setIfInBounds_toArray, List.set_cons_zero, List.set_cons_succ]
      refine wpAnyU_pure (i := 4) (d := (some 21)) (v := ?_) rfl rfl (by kernel_rfl) (fun _ _ _ h => h) (fun _ _ h hu => ⟨(h.1).up hu, (h.2.1).up hu, (h.2.2.1).up hu, (h.2.2.2.1).up hu, (h.2.2.2.2.1).up hu, hu.cell (h.2.2.2.2.2.1), hu.cell (h.2.2.2.2.2.2.1), below_up (h.2.2.2.2.2.2.2) hu⟩) (Or.inl ⟨by rfl, fun w' _ => yu_value ?_⟩) ?_
      rotate_left
      · (go_simp; (try exact rfl))
      try simp only [Act.put, List.setIfInBounds_toArray, List.set_cons_zero, List.set_cons_succ]
      refine wpAnyU_take (i := 5) (d := (some 22)) (v := ?_) rfl rfl (by kernel_rfl) (fun _ _ _ h => h) (fun _ _ h hu => ⟨(h.1).up hu, (h.2.1).up hu, (h.2.2.1).up hu, (h.2.2.2.1).up hu, (h.2.2.2.2.1).up hu, hu.cell (h.2.2.2.2.2.1), hu.cell (h.2.2.2.2.2.2.1), below_up (h.2.2.2.2.2.2.2) hu⟩) hSS (Or.inl ⟨by rfl, fun w' hSw => yu_value ?_⟩) ?_
      rotate_left
      · ((try dsimp only at hSw); (try obtain ⟨_, _, _, _, _, _, _, _⟩ := hSw); go_simp; (try exact rfl))
      try simp only [Act.put, List.setIfInBounds_toArray, List.set_cons_zero, List.set_cons_succ]
      refine wpAnyU_pure (i := 6) (d := (some 23)) (v := ?_) rfl rfl (by kernel_rfl) (fun _ _ _ h => h) (fun _ _ h hu => ⟨(h.1).up hu, (h.2.1).up hu, (h.2.2.1).up hu, (h.2.2.2.1).up hu, (h.2.2.2.2.1).up hu, hu.cell (h.2.2.2.2.2.1), hu.cell (h.2.2.2.2.2.2.1), below_up (h.2.2.2.2.2.2.2) hu⟩) (Or.inl ⟨by rfl, fun w' _ => yu_value ?_⟩) ?_
      rotate_left
      · (go_simp; (try exact rfl))
      try simp only [Act.put, List.setIfInBounds_toArray, List.set_cons_zero, List.set_cons_succ]
      refine wpAnyU_take (i := 7) (d := (some 24)) (v := _) rfl rfl (by kernel_rfl) (fun _ _ _ h => h) (fun _ _ h hu => ⟨(h.1).up hu, (h.2.1).up hu, (h.2.2.1).up hu, (h.2.2.2.1).up hu, (h.2.2.2.2.1).up hu, hu.cell (h.2.2.2.2.2.1), hu.cell (h.2.2.2.2.2.2.1), below_up (h.2.2.2.2.2.2.2) hu⟩) hSS (Or.inl ⟨by rfl, fun w' hSw => yu_call ?_ (HD.out _)⟩) ?_
      · go_simp
      try simp only [Act.put, List.setIfInBounds_toArray, List.set_cons_zero, List.set_cons_succ]
      refine wpAnyU_pure (i := 8) (d := (some 16)) (v := ?_) rfl rfl (by kernel_rfl) (fun _ _ _ h => h) (fun _ _ h hu => ⟨(h.1).up hu, (h.2.1).up hu, (h.2.2.1).up hu, (h.2.2.2.1).up hu, (h.2.2.2.2.1).up hu, hu.cell (h.2.2.2.2.2.1), hu.cell (h.2.2.2.2.2.2.1), below_up (h.2.2.2.2.2.2.2) hu⟩) (Or.inl ⟨by rfl, fun w' _ => yu_value ?_⟩) ?_
      rotate_left
      · (go_simp; (try exact rfl))
      try simp only [Act.put, List.setIfInBounds_toArray, List.set_cons_zero, List.set_cons_succ]
      refine wpAnyU_pure (i := 9) (d := (some 25)) (v := ?_) rfl rfl (by kernel_rfl) (fun _ _ _ h => h) (fun _ _ h hu => ⟨(h.1).up hu, (h.2.1).up hu, (h.2.2.1).up hu, (h.2.2.2.1).up hu, (h.2.2.2.2.1).up hu, hu.cell (h.2.2.2.2.2.1), hu.cell (h.2.2.2.2.2.2.1), below_up (h.2.2.2.2.2.2.2) hu⟩) (Or.inl ⟨by rfl, fun w' _ => yu_value ?_⟩) ?_
      rotate_left
      · (go_simp; (try exact rfl))
      try simp only [Act.put, List.setIfInBounds_toArray, List.set_cons_zero, List.set_cons_succ]
      refine wpAnyU_pure (i := 10) (d := (some 26)) (v := ?_) rfl rfl (by kernel_rfl) (fun _ _ _ h => h) (fun _ _ h hu => ⟨(h.1).up hu, (h.2.1).up hu, (h.2.2.1).up hu, (h.2.2.2.1).up hu, (h.2.2.2.2.1).up hu, hu.cell (h.2.2.2.2.2.1), hu.cell (h.2.2.2.2.2.2.1), below_up (h.2.2.2.2.2.2.2) hu⟩) (Or.inl ⟨by rfl, fun w' _ => yu_value ?_⟩) ?_
      rotate_left
      · (go_simp; (try exact rfl))
      try simp only [Act.put, List.setIfInBounds_toArray, List.set_cons_zero, List.set_cons_succ]
      refine wpAnyU_pure (i := 11) (d := (some 27)) (v := ?_) rfl rfl (by kernel_rfl) (fun _ _ _ h => h) (fun _ _ h hu => ⟨(h.1).up hu, (h.2.1).up hu, (h.2.2.1).up hu, (h.2.2.2.1).up hu, (h.2.2.2.2.1).up hu, hu.cell (h.2.2.2.2.2.1), hu.cell (h.2.2.2.2.2.2.1), below_up (h.2.2.2.2.2.2.2) hu⟩) (Or.inl ⟨by rfl, fun w' _ => yu_value ?_⟩) ?_
      rotate_left
      · (go_simp; (try exact rfl))
      try simp only [Act.put, List.setIfInBounds_toArray, List.set_cons_zero, List.set_cons_succ]
      refine wpAnyU_one (i := 12) rfl (by kernel_rfl) (by rfl) fun w1 hw1 => ?_
      have hcW := (hS4.up hw1).cell k (by omega)
      have hfW := (hS4.up hw1).frozen k
      go_simp
      clear hcW hfW
      have gX := (hS1.up hw1).other ⟨w.heap.size + 1 + 1 + 1, k, none⟩ (.int .u64 (q : Nat)) (by simp <;> omega)
      have gA := (hS2.up hw1).other ⟨w.heap.size + 1 + 1 + 1, k, none⟩ (.int .u64 (q : Nat)) (by simp <;> omega)
      have gB2 := (hS3.up hw1).other ⟨w.heap.size + 1 + 1 + 1, k, none⟩ (.int .u64 (q : Nat)) (by simp)
      have gQ := (hS4.up hw1).set k q
      have gR := (hS5.up hw1).other ⟨w.heap.size + 1 + 1 + 1, k, none⟩ (.int .u64 (q : Nat)) (by simp)
      have gB := (below_up hSB hw1).setCell (p := ⟨w.heap.size + 1 + 1 + 1, k, none⟩) (by simp <;> omega) (.int .u64 (q : Nat))
      clear hS1 hS2 hS3 hS4 hS5 hS6 hS7 hSB hw1
      refine wpAnyU_pure (i := 13) (d := (some 28)) (v := ?_) rfl rfl (by kernel_rfl) (fun _ _ _ h => h) (fun _ _ h hu => ⟨(h.1).up hu, (h.2.1).up hu, (h.2.2.1).up hu, (h.2.2.2.1).up hu, (h.2.2.2.2.1).up hu, hu.cell (h.2.2.2.2.2.1), hu.cell (h.2.2.2.2.2.2.1), below_up (h.2.2.2.2.2.2.2) hu⟩) (Or.inl ⟨by rfl, fun w' _ => yu_value ?_⟩) ?_
      rotate_left
      · (go_simp; (try exact rfl))
      try simp only [Act.put, List.setIfInBounds_toArray, List.set_cons_zero, List.set_cons_succ]
      refine wpAnyU_one (i := 14) rfl (by kernel_rfl) (by rfl) fun w2 hw2 => ?_
      have hcW := (gR.up hw2).cell 0 (by omega)
      have hfW := (gR.up hw2).frozen 0
      go_simp
      clear hcW hfW hSS
      refine wpAnyU_done (by kernel_rfl) (fun wF huE => ?_) _
      have fX := ((gX.up hw2).other ⟨w.heap.size + 1 + 1 + 1 + 1, 0, none⟩ (.int .u64 (r' : Nat)) (by simp <;> omega)).up huE
      have fA := ((gA.up hw2).other ⟨w.heap.size + 1 + 1 + 1 + 1, 0, none⟩ (.int .u64 (r' : Nat)) (by simp <;> omega)).up huE
      have fB2 := ((gB2.up hw2).other ⟨w.heap.size + 1 + 1 + 1 + 1, 0, none⟩ (.int .u64 (r' : Nat)) (by simp <;> omega)).up huE
      have fQ := ((gQ.up hw2).other ⟨w.heap.size + 1 + 1 + 1 + 1, 0, none⟩ (.int .u64 (r' : Nat)) (by simp)).up huE
      have fR : Row wF (w.heap.size + 1 + 1 + 1 + 1) 27 16 (upd (fun _ => 0) 0 r') := (((gR.up hw2).set 0 r').up huE).congr fun i _ => by unfold upd; split <;> rfl
      have fB := below_up ((below_up gB hw2).setCell (p := ⟨w.heap.size + 1 + 1 + 1 + 1, 0, none⟩) (by simp <;> omega) (.int .u64 (r' : Nat))) huE
      clear gX gA gB2 gQ gR gB hw2 huE
      go_wp2
      go_roundw
      case rel =>
        refine ⟨k, r', upd f k q, by omega, by go_num, hr', upd_lt Hf.out hq, fun j hj => by rw [upd_other _ _ _ (by omega)]; exact Hz.out j (by omega), ?_, fX, fA, fB2, fQ, fR, fB⟩
        have h1 := sumL_upd f q (show k < 16 by omega)
        rw [Hz.out k (by omega), Nat.zero_mul, Nat.add_zero] at h1
        have h2 := Hsum.out
        rw [bp_succ, sumL_succ (limb x) k] at h2
        rw [h1]
        exact short_step h2 HQR.out
      case measure => simp [intOf] <;> omega
    · obtain rfl : m = 0 := by omega
      have hfin := Hsum.out
      rw [bp_zero, sumL_zero, Nat.mul_one, Nat.add_zero] at hfin
      have e1 : x / y = sumL f 16 := by rw [hfin, Nat.mul_comm, Nat.mul_add_div h0, Nat.div_eq_of_lt hr, Nat.add_zero]
      have e2 : x % y = r := by rw [hfin, Nat.mul_comm, Nat.mul_add_mod, Nat.mod_eq_of_lt hr]
      have HE1 := hid e1
      have HE2 := hid e2
      clear hfin e1 e2
      go_wp2
      refine wp_region_upS (S := (fun wq => Row wq (w.heap.size + 1 + 1 + 1) 27 16 f ∧ Row wq (w.heap.size + 1 + 1 + 1 + 1) 27 16 (upd (fun _ => 0) 0 r) ∧ ExRow wq (w.heap.size + 1) 27 16 ∧ ExRow wq (w.heap.size + 1 + 1) 27 16 ∧ Below w.heap.size w wq)) (req := (fun j => j != 3)) (by kernel_rfl) (fun _ _ h hu => ⟨(h.1).up hu, (h.2.1).up hu, (h.2.2.1).up hu, (h.2.2.2.1).up hu, below_up (h.2.2.2.2) hu⟩) ⟨(by (repeat (first | assumption | ((with_reducible apply row_newc); (focus (first | rfl | (simp; done)))) | ((with_reducible apply row_newz); (focus (first | rfl | (simp; done)))) | (with_reducible apply row_same) | ((with_reducible apply row_else); (focus (first | (simp; done) | (simp; omega) | omega))) | (with_reducible apply row_alloc) | (with_reducible apply row_drew) | (with_reducible apply row_drewN) | ((with_reducible apply row_up); assumption)))), (by (repeat (first | assumption | ((with_reducible apply row_newc); (focus (first | rfl | (simp; done)))) | ((with_reducible apply row_newz); (focus (first | rfl | (simp; done)))) | (with_reducible apply row_same) | ((with_reducible apply row_else); (focus (first | (simp; done) | (simp; omega) | omega))) | (with_reducible apply row_alloc) | (with_reducible apply row_drew) | (with_reducible apply row_drewN) | ((with_reducible apply row_up); assumption)))), ⟨_, (by (repeat (first | assumption | ((with_reducible apply row_newc); (focus (first | rfl | (simp; done)))) | ((with_reducible apply row_newz); (focus (first | rfl | (simp; done)))) | (with_reducible apply row_same) | ((with_reducible apply row_else); (focus (first | (simp; done) | (simp; omega) | omega))) | (with_reducible apply row_alloc) | (with_reducible apply row_drew) | (with_reducible apply row_drewN) | ((with_reducible apply row_up); assumption))))⟩, ⟨_, (by (repeat (first | assumption | ((with_reducible apply row_newc); (focus (first | rfl | (simp; done)))) | ((with_reducible apply row_newz); (focus (first | rfl | (simp; done)))) | (with_reducible apply row_same) | ((with_reducible apply row_else); (focus (first | (simp; done) | (simp; omega) | omega))) | (with_reducible apply row_alloc) | (with_reducible apply row_drew) | (with_reducible apply row_drewN) | ((with_reducible apply row_up); assumption))))⟩, (by repeat (first | assumption | (with_reducible apply Up.of) | (with_reducible exact Below.refl _ _) | (with_reducible exact Up.refl _) | ((with_reducible apply bl_setRow); (focus (first | exact Nat.le_refl _ | (simp; done) | (simp; omega) | omega))) | (with_reducible apply below_drewN) | (with_reducible apply Below.drew) | ((with_reducible apply bl_alloc); (focus (first | exact Nat.le_refl _ | (simp; done) | (simp; omega) | omega))) | ((with_reducible apply bl_setCell); (focus (first | exact Nat.le_refl _ | (simp; done) | (simp; omega) | omega))) | ((with_reducible apply up_tr); assumption)))⟩ (fun wS hSS => ?_)
      have ⟨hS1, hS2, hS3, hS4, hSB⟩ := hSS
      clear hX hA hB2 hQ hR hB
      refine wpAnyU_take (i := 0) (d := (some 29)) (v := _) rfl rfl (by kernel_rfl) (fun _ _ _ h => h) (fun _ _ h hu => ⟨(h.1).up hu, (h.2.1).up hu, (h.2.2.1).up hu, (h.2.2.2.1).up hu, below_up (h.2.2.2.2) hu⟩) hSS (Or.inl ⟨by rfl, fun w' hSw => yu_value (run_ld undW infoW _ rfl _ rfl hSw.1)⟩) ?_
      try simp only [Act.put, List.setIfInBounds_toArray, List.set_cons_zero, List.set_cons_succ]
      refine wpAnyU_take (i := 1) (d := (some 30)) (v := _) rfl rfl (by kernel_rfl) (fun _ _ _ h => h) (fun _ _ h hu => ⟨(h.1).up hu, (h.2.1).up hu, (h.2.2.1).up hu, (h.2.2.2.1).up hu, below_up (h.2.2.2.2) hu⟩) hSS (Or.inl ⟨by rfl, fun w' hSw => yu_value (run_ld undW infoW _ rfl _ rfl hSw.2.1)⟩) ?_
      try simp only [Act.put, List.setIfInBounds_toArray, List.set_cons_zero, List.set_cons_succ]
      obtain ⟨v3, hS3⟩ := hS3
      obtain ⟨v4, hS4⟩ := hS4
      refine wpAnyU_one (i := 2) rfl (by kernel_rfl) (by rfl) fun w2 hw2 => ?_
      refine wp_st_rowN infoW rfl _ _ rfl _ rfl rfl (hS3.up hw2) ?_
      refine ⟨fun _ h => ⟨h.1.row_other _ (by omega), h.2.1.row_other _ (by omega), h.2.2.1.st f, h.2.2.2.1.st f, below_setRow h.2.2.2.2 (by omega) _⟩, ?_⟩
      refine wpAnyU_one (i := 3) rfl (by kernel_rfl) (by rfl) fun w3 hw3 => ?_
      refine wp_st_rowN infoW rfl _ _ rfl _ rfl rfl ((Row.up (((hS4.up hw2).row_other (cells 16 f) (show w.heap.size + 1 + 1 ≠ w.heap.size + 1 by omega))) hw3)) ?_
      refine ⟨fun h => by simp at h, ?_⟩
      try simp only [Act.put, List.setIfInBounds_toArray, List.set_cons_zero, List.set_cons_succ]
      refine wpAnyU_done (by kernel_rfl) (fun wF huE => ?_) _
      have gA := ((((hS3.up hw2).setRow f).up hw3).row_other (cells 16 (upd (fun _ => 0) 0 r)) (show w.heap.size + 1 ≠ w.heap.size + 1 + 1 by omega)).up huE
      have gC := (((hS4.up hw2).row_other (cells 16 f) (show w.heap.size + 1 + 1 ≠ w.heap.size + 1 by omega)).up hw3).setRow (upd (fun _ => 0) 0 r)
      replace gC := gC.up huE
      have gB := below_up (below_setRow (below_up (below_setRow (below_up hSB hw2) (show w.heap.size ≤ w.heap.size + 1 by omega) (cells 16 f)) hw3) (show w.heap.size ≤ w.heap.size + 1 + 1 by omega) (cells 16 (upd (fun _ => 0) 0 r))) huE
      clear hS1 hS2 hS3 hS4 hSB hSS hw2 hw3 huE
      go_wp2
      exact bodyPost_ret (resCC rfl undW infoW _ _ _ rfl rfl gA gC) rfl ⟨by
        rw [HE1.out, HE2.out, wide_of Hf.out, wide_one (by omega)]; rfl, gB⟩
end Go.Proofs.Ytlkolfnklbldcaa
