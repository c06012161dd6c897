/-
  wide.minus, wide.plus, wide.less: the sign, sums and differences round 2 to the 1024.
-/
import Derived.Test.YtlkolfnklbldcaaWords
namespace Go.Proofs.Ytlkolfnklbldcaa
open Go Go.RowKit
set_option maxRecDepth 100000

set_option maxHeartbeats 400000 in
theorem minus_any (x : Nat) (w : World) :
    Calls Try.prog 41 #[wideV x] w fun e w' => e = .returned (.bool (decide (9223372036854775808 ≤ limb x 15))) ∧ Up w w' := by
  have hc := cells_get 16 (limb x) 15 (by decide)
  have hl := limb_lt x 15
  unfold wideV
  generalize cells 16 (limb x) = C at *
  generalize limb x 15 = l at *
  go_enter Try.func41, Try.ntmps41
  go_wp2
  go_ret
  refine ⟨ret_bool ?_, Up.alloc _ _⟩
  rw [Bool.eq_iff_iff, bne_iff_ne, decide_eq_true_iff]
  omega

set_option maxHeartbeats 400000 in
theorem plus_any (x y : Nat) (w : World) :
    Calls Try.prog 40 #[wideV x, wideV y] w fun e w' => e = .returned (wideV ((x + y) % bp 16)) ∧ Up w w' := by
  unfold wideV
  go_enter Try.func40, Try.ntmps40
  go_wp2
  go_loopw [5, 7] (fun c i wr => ∃ (k cc : Nat) (g : Nat → Nat), k ≤ 16 ∧ i = .int .i64 k ∧ c = .int .u64 cc ∧ cc ≤ 1 ∧ (∀ i, i < 16 → g i < 18446744073709551616) ∧
      (∀ i, k ≤ i → i < 16 → g i = limb x i) ∧ sumL g k + cc * bp k = sumL (limb x) k + sumL (limb y) k ∧
      Row wr w.heap.size 27 16 g ∧ Row wr (w.heap.size + 1) 27 16 (limb y) ∧
      Row wr (w.heap.size + 1 + 1) 27 16 (fun _ => 0) ∧ Below w.heap.size w wr)
    (fun _ i _ => 16 - (intOf i).toNat)
  case atStart =>
    refine ⟨0, 0, limb x, by omega, rfl, rfl, by omega, fun i _ => limb_lt x i, fun i _ _ => rfl, by simp [sumL_zero], (((row_new _ 16 (limb x) _ rfl rfl).up (Up.alloc _ _)).up (Up.alloc _ _)), (row_new _ 16 (limb y) _ (by simp) rfl).up (Up.alloc _ _), row_new _ 16 _ _ (by simp) zeros16, ?_⟩
    exact (((Below.refl _ _).alloc (Nat.le_refl _) _).alloc (by simp) _).alloc (by simp; omega) _
  case round =>
    obtain ⟨k, cc, g, hk, rfl, rfl, hcc, hg, hgx, hsum, hX, hY, hZ, hB⟩ := hrel
    have Hs := hid hsum
    have Hgx := hid hgx
    clear hsum hgx
    by_cases hlt : k < 16
    · have hcx := hX.cell k hlt
      have hcy := hY.cell k hlt
      have hfx := hX.frozen k
      obtain ⟨r, c', hadd, hr, hc', hrl, hc1⟩ : ∃ r c' : Nat, (∀ w, (callFunc 39 #[.int .u64 (g k : Nat), .int .u64 (limb y k : Nat), .int .u64 (cc : Nat)]).run Try.prog w = .ok (.value (.tuple #[.int .u64 (r : Nat), .int .u64 (c' : Nat)])) w) ∧
          Hid (r = (g k + limb y k + cc) % 18446744073709551616) ∧ Hid (c' = (g k + limb y k + cc) / 18446744073709551616) ∧ r < 18446744073709551616 ∧ c' ≤ 1 :=
        ⟨_, _, run_add (g k) (limb y k) cc hcc, hid rfl, hid rfl, Nat.mod_lt _ (by decide), by have := hg k hlt; have := limb_lt y k; omega⟩
      go_wp2
      refine wp_region_up (S := (fun w' => w'.cell? ⟨w.heap.size, k, none⟩ = some (.int .u64 (g k : Nat)) ∧ w'.cell? ⟨w.heap.size + 1, k, none⟩ = some (.int .u64 (limb y k : Nat)))) (req := (fun j => j != 13)) (by kernel_rfl) ?_
      refine wpAnyU_pure (i := 0) (d := (some 11)) (v := ?_) rfl rfl (by kernel_rfl) (fun _ _ _ h => h) (fun _ _ h hu => ⟨hu.cell h.1, hu.cell h.2⟩) (Or.inl ⟨by rfl, fun w' _ => yu_value ?_⟩) ?_
      rotate_left
      · (go_simp; (try exact rfl))
      try simp only [Act.put, List.setIfInBounds_toArray, List.set_cons_zero, List.set_cons_succ]
      refine wpAnyU_pure (i := 1) (d := (some 12)) (v := ?_) rfl rfl (by kernel_rfl) (fun _ _ _ h => h) (fun _ _ h hu => ⟨hu.cell h.1, hu.cell h.2⟩) (Or.inl ⟨by rfl, fun w' _ => yu_value ?_⟩) ?_
      rotate_left
      · (go_simp; (try exact rfl))
      try simp only [Act.put, List.setIfInBounds_toArray, List.set_cons_zero, List.set_cons_succ]
      refine wpAnyU_pure (i := 2) (d := (some 13)) (v := ?_) rfl rfl (by kernel_rfl) (fun _ _ _ h => h) (fun _ _ h hu => ⟨hu.cell h.1, hu.cell h.2⟩) (Or.inl ⟨by rfl, fun w' _ => yu_value ?_⟩) ?_
      rotate_left
      · (go_simp; (try exact rfl))
      try simp only [Act.put, List.setIfInBounds_toArray, List.set_cons_zero, List.set_cons_succ]
      refine wpAnyU_take (i := 3) (d := (some 14)) (v := ?_) rfl rfl (by kernel_rfl) (fun _ _ _ h => h) (fun _ _ h hu => ⟨hu.cell h.1, hu.cell h.2⟩) ⟨hcx, hcy⟩ (Or.inl ⟨by rfl, fun w' hSw => yu_value ?_⟩) ?_
      rotate_left
      · ((try dsimp only at hSw); (try obtain ⟨_, _⟩ := hSw); go_simp; (try exact rfl))
      try simp only [Act.put, List.setIfInBounds_toArray, List.set_cons_zero, List.set_cons_succ]
      refine wpAnyU_pure (i := 4) (d := (some 15)) (v := ?_) rfl rfl (by kernel_rfl) (fun _ _ _ h => h) (fun _ _ h hu => ⟨hu.cell h.1, hu.cell h.2⟩) (Or.inl ⟨by rfl, fun w' _ => yu_value ?_⟩) ?_
      rotate_left
      · (go_simp; (try exact rfl))
      try simp only [Act.put, List.setIfInBounds_toArray, List.set_cons_zero, List.set_cons_succ]
      refine wpAnyU_pure (i := 5) (d := (some 16)) (v := ?_) rfl rfl (by kernel_rfl) (fun _ _ _ h => h) (fun _ _ h hu => ⟨hu.cell h.1, hu.cell h.2⟩) (Or.inl ⟨by rfl, fun w' _ => yu_value ?_⟩) ?_
      rotate_left
      · (go_simp; (try exact rfl))
      try simp only [Act.put, List.setIfInBounds_toArray, List.set_cons_zero, List.set_cons_succ]
      refine wpAnyU_take (i := 6) (d := (some 17)) (v := ?_) rfl rfl (by kernel_rfl) (fun _ _ _ h => h) (fun _ _ h hu => ⟨hu.cell h.1, hu.cell h.2⟩) ⟨hcx, hcy⟩ (Or.inl ⟨by rfl, fun w' hSw => yu_value ?_⟩) ?_
      rotate_left
      · ((try dsimp only at hSw); (try obtain ⟨_, _⟩ := hSw); go_simp; (try exact rfl))
      try simp only [Act.put, List.setIfInBounds_toArray, List.set_cons_zero, List.set_cons_succ]
      refine wpAnyU_pure (i := 7) (d := (some 18)) (v := ?_) rfl rfl (by kernel_rfl) (fun _ _ _ h => h) (fun _ _ h hu => ⟨hu.cell h.1, hu.cell h.2⟩) (Or.inl ⟨by rfl, fun w' _ => yu_value ?_⟩) ?_
      rotate_left
      · (go_simp; (try exact rfl))
      try simp only [Act.put, List.setIfInBounds_toArray, List.set_cons_zero, List.set_cons_succ]
      refine wpAnyU_pure (i := 8) (d := (some 19)) (v := ?_) rfl rfl (by kernel_rfl) (fun _ _ _ h => h) (fun _ _ h hu => ⟨hu.cell h.1, hu.cell h.2⟩) (Or.inl ⟨by rfl, fun w' _ => yu_value ?_⟩) ?_
      rotate_left
      · (go_simp; (try exact rfl))
      try simp only [Act.put, List.setIfInBounds_toArray, List.set_cons_zero, List.set_cons_succ]
      refine wpAnyU_pure (i := 9) (d := (some 10)) (v := ?_) rfl rfl (by kernel_rfl) (fun _ _ _ h => h) (fun _ _ h hu => ⟨hu.cell h.1, hu.cell h.2⟩) (Or.inl ⟨by rfl, fun w' _ => yu_value ?_⟩) ?_
      rotate_left
      · (go_simp; (try exact rfl))
      try simp only [Act.put, List.setIfInBounds_toArray, List.set_cons_zero, List.set_cons_succ]
      refine wpAnyU_pure (i := 10) (d := (some 20)) (v := ?_) rfl rfl (by kernel_rfl) (fun _ _ _ h => h) (fun _ _ h hu => ⟨hu.cell h.1, hu.cell h.2⟩) (Or.inl ⟨by rfl, fun w' _ => yu_value ?_⟩) ?_
      rotate_left
      · (go_simp; (try exact rfl))
      try simp only [Act.put, List.setIfInBounds_toArray, List.set_cons_zero, List.set_cons_succ]
      refine wpAnyU_pure (i := 11) (d := (some 21)) (v := ?_) rfl rfl (by kernel_rfl) (fun _ _ _ h => h) (fun _ _ h hu => ⟨hu.cell h.1, hu.cell h.2⟩) (Or.inl ⟨by rfl, fun w' _ => yu_value ?_⟩) ?_
      rotate_left
      · (go_simp; (try exact rfl))
      try simp only [Act.put, List.setIfInBounds_toArray, List.set_cons_zero, List.set_cons_succ]
      refine wpAnyU_pure (i := 12) (d := (some 22)) (v := ?_) rfl rfl (by kernel_rfl) (fun _ _ _ h => h) (fun _ _ h hu => ⟨hu.cell h.1, hu.cell h.2⟩) (Or.inl ⟨by rfl, fun w' _ => yu_value ?_⟩) ?_
      rotate_left
      · (go_simp; (try exact rfl))
      try simp only [Act.put, List.setIfInBounds_toArray, List.set_cons_zero, List.set_cons_succ]
      refine wpAnyU_one (i := 13) rfl (by kernel_rfl) (by rfl) fun w1 hw1 => ?_
      have h1 := (hX.up ((Up.drew _).trans hw1)).cell k hlt
      have h2 := (hX.up ((Up.drew _).trans hw1)).frozen k
      go_simp
      refine wpAnyU_pure (i := 14) (d := (some 5)) (v := ?_) rfl rfl (by kernel_rfl) (fun _ _ _ h => h) (fun _ _ h hu => ⟨hu.cell h.1, hu.cell h.2⟩) (Or.inl ⟨by rfl, fun w' _ => yu_value ?_⟩) ?_
      rotate_left
      · (go_simp; (try exact rfl))
      try simp only [Act.put, List.setIfInBounds_toArray, List.set_cons_zero, List.set_cons_succ]
      refine wpAnyU_done (by kernel_rfl) (fun w3 hw3 => ?_) _
      have hu := (Up.drew wr).trans hw1
      have hu2 := hw3
      have gX := ((hX.up hu).set k r).up hu2
      have gY := ((hY.up hu).other ⟨w.heap.size, k, none⟩ (.int .u64 (r : Nat)) (by simp)).up hu2
      have gZ := ((hZ.up hu).other ⟨w.heap.size, k, none⟩ (.int .u64 (r : Nat)) (by simp; omega)).up hu2
      have gB : Below w.heap.size w w3 := hu2.below ((hu.below hB (by have := hX.lt; omega)).setCell (p := ⟨w.heap.size, k, none⟩) (Nat.le_refl _) _) (by have := ((hX.up hu).set k r).lt; omega)
      clear hcx hcy hfx hadd h1 h2 hX hY hZ hB hw1 hw3 hu hu2
      go_wp2
      go_roundw
      case rel =>
        refine ⟨k + 1, c', upd g k r, by omega, by go_num, rfl, hc1, upd_lt hg hrl, fun i h1 h2 => by rw [upd_other _ _ _ (by omega)]; exact Hgx.out i (by omega) h2, ?_, gX, gY, gZ, gB⟩
        rw [sumL_upd_succ, hr.out, hc'.out, bp_succ, sumL_succ, sumL_succ, Hgx.out k (Nat.le_refl _) hlt]
        exact add_step _ _ _ _ _ _ _ Hs.out
      case measure => simp [intOf]; omega
    · obtain rfl : k = 16 := by omega
      go_wp2_with (first | (refine ld_row undW infoW rfl _ rfl _ rfl hX ?_) | (refine st_row infoW rfl _ _ rfl _ rfl rfl hZ ?_))
      have gZ := hZ.setRow g
      exact bodyPost_ret (res1 rfl undW infoW _ _ rfl gZ) rfl ⟨by
        have h := mod_of_carry (sumL_lt hg) Hs.out
        rw [sumL_limb, sumL_limb, ← Nat.add_mod] at h
        rw [wide_of hg, h]; rfl, below_setRow hB (by omega) _⟩

set_option maxHeartbeats 400000 in
theorem less_any (x y : Nat) (hx : x < bp 16) (hy : y < bp 16) (w : World) :
    Calls Try.prog 42 #[wideV x, wideV y] w fun e w' => e = .returned (wideV ((x + bp 16 - y) % bp 16)) ∧ Up w w' := by
  unfold wideV
  go_enter Try.func42, Try.ntmps42
  go_wp2
  go_loopw [5, 7] (fun c i wr => ∃ (k cc : Nat) (g : Nat → Nat), k ≤ 16 ∧ i = .int .i64 k ∧ c = .int .u64 cc ∧ cc ≤ 1 ∧ (∀ i, i < 16 → g i < 18446744073709551616) ∧
      (∀ i, k ≤ i → i < 16 → g i = limb x i) ∧ sumL g k + sumL (limb y) k = sumL (limb x) k + cc * bp k ∧
      Row wr w.heap.size 27 16 g ∧ Row wr (w.heap.size + 1) 27 16 (limb y) ∧
      Row wr (w.heap.size + 1 + 1) 27 16 (fun _ => 0) ∧ Below w.heap.size w wr)
    (fun _ i _ => 16 - (intOf i).toNat)
  case atStart =>
    refine ⟨0, 0, limb x, by omega, rfl, rfl, by omega, fun i _ => limb_lt x i, fun i _ _ => rfl, by simp [sumL_zero], (((row_new _ 16 (limb x) _ rfl rfl).up (Up.alloc _ _)).up (Up.alloc _ _)), (row_new _ 16 (limb y) _ (by simp) rfl).up (Up.alloc _ _), row_new _ 16 _ _ (by simp) zeros16, ?_⟩
    exact (((Below.refl _ _).alloc (Nat.le_refl _) _).alloc (by simp) _).alloc (by simp; omega) _
  case round =>
    obtain ⟨k, cc, g, hk, rfl, rfl, hcc, hg, hgx, hsum, hX, hY, hZ, hB⟩ := hrel
    have Hs := hid hsum
    have Hgx := hid hgx
    clear hsum hgx
    by_cases hlt : k < 16
    · have hcx := hX.cell k hlt
      have hcy := hY.cell k hlt
      have hfx := hX.frozen k
      obtain ⟨r, c', hadd, hr, hrl, hc1⟩ : ∃ r c' : Nat, (∀ w, (callFunc 56 #[.int .u64 (g k : Nat), .int .u64 (limb y k : Nat), .int .u64 (cc : Nat)]).run Try.prog w = .ok (.value (.tuple #[.int .u64 (r : Nat), .int .u64 (c' : Nat)])) w) ∧
          Hid (r + limb y k + cc = g k + c' * 18446744073709551616) ∧ r < 18446744073709551616 ∧ c' ≤ 1 :=
        ⟨_, _, run_sub (g k) (limb y k) cc hcc, hid (by have := hg k hlt; have := limb_lt y k; split <;> omega), Nat.mod_lt _ (by decide), by split <;> omega⟩
      go_wp2
      refine wp_region_up (S := (fun w' => w'.cell? ⟨w.heap.size, k, none⟩ = some (.int .u64 (g k : Nat)) ∧ w'.cell? ⟨w.heap.size + 1, k, none⟩ = some (.int .u64 (limb y k : Nat)))) (req := (fun j => j != 13)) (by kernel_rfl) ?_
      refine wpAnyU_pure (i := 0) (d := (some 11)) (v := ?_) rfl rfl (by kernel_rfl) (fun _ _ _ h => h) (fun _ _ h hu => ⟨hu.cell h.1, hu.cell h.2⟩) (Or.inl ⟨by rfl, fun w' _ => yu_value ?_⟩) ?_
      rotate_left
      · (go_simp; (try exact rfl))
      try simp only [Act.put, List.setIfInBounds_toArray, List.set_cons_zero, List.set_cons_succ]
      refine wpAnyU_pure (i := 1) (d := (some 12)) (v := ?_) rfl rfl (by kernel_rfl) (fun _ _ _ h => h) (fun _ _ h hu => ⟨hu.cell h.1, hu.cell h.2⟩) (Or.inl ⟨by rfl, fun w' _ => yu_value ?_⟩) ?_
      rotate_left
      · (go_simp; (try exact rfl))
      try simp only [Act.put, List.setIfInBounds_toArray, List.set_cons_zero, List.set_cons_succ]
      refine wpAnyU_pure (i := 2) (d := (some 13)) (v := ?_) rfl rfl (by kernel_rfl) (fun _ _ _ h => h) (fun _ _ h hu => ⟨hu.cell h.1, hu.cell h.2⟩) (Or.inl ⟨by rfl, fun w' _ => yu_value ?_⟩) ?_
      rotate_left
      · (go_simp; (try exact rfl))
      try simp only [Act.put, List.setIfInBounds_toArray, List.set_cons_zero, List.set_cons_succ]
      refine wpAnyU_take (i := 3) (d := (some 14)) (v := ?_) rfl rfl (by kernel_rfl) (fun _ _ _ h => h) (fun _ _ h hu => ⟨hu.cell h.1, hu.cell h.2⟩) ⟨hcx, hcy⟩ (Or.inl ⟨by rfl, fun w' hSw => yu_value ?_⟩) ?_
      rotate_left
      · ((try dsimp only at hSw); (try obtain ⟨_, _⟩ := hSw); go_simp; (try exact rfl))
      try simp only [Act.put, List.setIfInBounds_toArray, List.set_cons_zero, List.set_cons_succ]
      refine wpAnyU_pure (i := 4) (d := (some 15)) (v := ?_) rfl rfl (by kernel_rfl) (fun _ _ _ h => h) (fun _ _ h hu => ⟨hu.cell h.1, hu.cell h.2⟩) (Or.inl ⟨by rfl, fun w' _ => yu_value ?_⟩) ?_
      rotate_left
      · (go_simp; (try exact rfl))
      try simp only [Act.put, List.setIfInBounds_toArray, List.set_cons_zero, List.set_cons_succ]
      refine wpAnyU_pure (i := 5) (d := (some 16)) (v := ?_) rfl rfl (by kernel_rfl) (fun _ _ _ h => h) (fun _ _ h hu => ⟨hu.cell h.1, hu.cell h.2⟩) (Or.inl ⟨by rfl, fun w' _ => yu_value ?_⟩) ?_
      rotate_left
      · (go_simp; (try exact rfl))
      try simp only [Act.put, List.setIfInBounds_toArray, List.set_cons_zero, List.set_cons_succ]
      refine wpAnyU_take (i := 6) (d := (some 17)) (v := ?_) rfl rfl (by kernel_rfl) (fun _ _ _ h => h) (fun _ _ h hu => ⟨hu.cell h.1, hu.cell h.2⟩) ⟨hcx, hcy⟩ (Or.inl ⟨by rfl, fun w' hSw => yu_value ?_⟩) ?_
      rotate_left
      · ((try dsimp only at hSw); (try obtain ⟨_, _⟩ := hSw); go_simp; (try exact rfl))
      try simp only [Act.put, List.setIfInBounds_toArray, List.set_cons_zero, List.set_cons_succ]
      refine wpAnyU_pure (i := 7) (d := (some 18)) (v := ?_) rfl rfl (by kernel_rfl) (fun _ _ _ h => h) (fun _ _ h hu => ⟨hu.cell h.1, hu.cell h.2⟩) (Or.inl ⟨by rfl, fun w' _ => yu_value ?_⟩) ?_
      rotate_left
      · (go_simp; (try exact rfl))
      try simp only [Act.put, List.setIfInBounds_toArray, List.set_cons_zero, List.set_cons_succ]
      refine wpAnyU_pure (i := 8) (d := (some 19)) (v := ?_) rfl rfl (by kernel_rfl) (fun _ _ _ h => h) (fun _ _ h hu => ⟨hu.cell h.1, hu.cell h.2⟩) (Or.inl ⟨by rfl, fun w' _ => yu_value ?_⟩) ?_
      rotate_left
      · (go_simp; (try exact rfl))
      try simp only [Act.put, List.setIfInBounds_toArray, List.set_cons_zero, List.set_cons_succ]
      refine wpAnyU_pure (i := 9) (d := (some 10)) (v := ?_) rfl rfl (by kernel_rfl) (fun _ _ _ h => h) (fun _ _ h hu => ⟨hu.cell h.1, hu.cell h.2⟩) (Or.inl ⟨by rfl, fun w' _ => yu_value ?_⟩) ?_
      rotate_left
      · (go_simp; (try exact rfl))
      try simp only [Act.put, List.setIfInBounds_toArray, List.set_cons_zero, List.set_cons_succ]
      refine wpAnyU_pure (i := 10) (d := (some 20)) (v := ?_) rfl rfl (by kernel_rfl) (fun _ _ _ h => h) (fun _ _ h hu => ⟨hu.cell h.1, hu.cell h.2⟩) (Or.inl ⟨by rfl, fun w' _ => yu_value ?_⟩) ?_
      rotate_left
      · (go_simp; (try exact rfl))
      try simp only [Act.put, List.setIfInBounds_toArray, List.set_cons_zero, List.set_cons_succ]
      refine wpAnyU_pure (i := 11) (d := (some 21)) (v := ?_) rfl rfl (by kernel_rfl) (fun _ _ _ h => h) (fun _ _ h hu => ⟨hu.cell h.1, hu.cell h.2⟩) (Or.inl ⟨by rfl, fun w' _ => yu_value ?_⟩) ?_
      rotate_left
      · (go_simp; (try exact rfl))
      try simp only [Act.put, List.setIfInBounds_toArray, List.set_cons_zero, List.set_cons_succ]
      refine wpAnyU_pure (i := 12) (d := (some 22)) (v := ?_) rfl rfl (by kernel_rfl) (fun _ _ _ h => h) (fun _ _ h hu => ⟨hu.cell h.1, hu.cell h.2⟩) (Or.inl ⟨by rfl, fun w' _ => yu_value ?_⟩) ?_
      rotate_left
      · (go_simp; (try exact rfl))
      try simp only [Act.put, List.setIfInBounds_toArray, List.set_cons_zero, List.set_cons_succ]
      refine wpAnyU_one (i := 13) rfl (by kernel_rfl) (by rfl) fun w1 hw1 => ?_
      have h1 := (hX.up ((Up.drew _).trans hw1)).cell k hlt
      have h2 := (hX.up ((Up.drew _).trans hw1)).frozen k
      go_simp
      refine wpAnyU_pure (i := 14) (d := (some 5)) (v := ?_) rfl rfl (by kernel_rfl) (fun _ _ _ h => h) (fun _ _ h hu => ⟨hu.cell h.1, hu.cell h.2⟩) (Or.inl ⟨by rfl, fun w' _ => yu_value ?_⟩) ?_
      rotate_left
      · (go_simp; (try exact rfl))
      try simp only [Act.put, List.setIfInBounds_toArray, List.set_cons_zero, List.set_cons_succ]
      refine wpAnyU_done (by kernel_rfl) (fun w3 hw3 => ?_) _
      have hu := (Up.drew wr).trans hw1
      have hu2 := hw3
      have gX := ((hX.up hu).set k r).up hu2
      have gY := ((hY.up hu).other ⟨w.heap.size, k, none⟩ (.int .u64 (r : Nat)) (by simp)).up hu2
      have gZ := ((hZ.up hu).other ⟨w.heap.size, k, none⟩ (.int .u64 (r : Nat)) (by simp; omega)).up hu2
      have gB : Below w.heap.size w w3 := hu2.below ((hu.below hB (by have := hX.lt; omega)).setCell (p := ⟨w.heap.size, k, none⟩) (Nat.le_refl _) _) (by have := ((hX.up hu).set k r).lt; omega)
      clear hcx hcy hfx hadd h1 h2 hX hY hZ hB hw1 hw3 hu hu2
      go_wp2
      go_roundw
      case rel =>
        refine ⟨k + 1, c', upd g k r, by omega, by go_num, rfl, hc1, upd_lt hg hrl, fun i h1 h2 => by rw [upd_other _ _ _ (by omega)]; exact Hgx.out i (by omega) h2, ?_, gX, gY, gZ, gB⟩
        have e := hr.out
        rw [Hgx.out k (Nat.le_refl _) hlt] at e
        rw [sumL_upd_succ, bp_succ, sumL_succ, sumL_succ]
        exact sub_step _ _ _ _ _ _ _ _ _ Hs.out e
      case measure => simp [intOf]; omega
    · obtain rfl : k = 16 := by omega
      go_wp2_with (first | (refine ld_row undW infoW rfl _ rfl _ rfl hX ?_) | (refine st_row infoW rfl _ _ rfl _ rfl rfl hZ ?_))
      have gZ := hZ.setRow g
      exact bodyPost_ret (res1 rfl undW infoW _ _ rfl gZ) rfl ⟨by
        have h := Hs.out
        rw [sumL_limb, sumL_limb, Nat.mod_eq_of_lt hx, Nat.mod_eq_of_lt hy] at h
        have h := sub_final h (sumL_lt hg) hx hy
        rw [wide_of hg, h]; rfl, below_setRow hB (by omega) _⟩
end Go.Proofs.Ytlkolfnklbldcaa
