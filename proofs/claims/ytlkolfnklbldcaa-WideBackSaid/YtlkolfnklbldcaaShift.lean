/-
  wide: limbs moved to the left and to the right by fewer bits than a limb has.
-/
import Derived.Test.YtlkolfnklbldcaaStep
namespace Go.Proofs.Ytlkolfnklbldcaa
open Go Go.RowKit
set_option maxRecDepth 100000

section
variable {P : Program} {o : Oper} {a : Act} {x y : Operand} {t u : TypeId}
theorem op_shr (ho : o.op = .binOp .shr t x y u) {X s : Nat} (hx : a.eval x = .int .u64 (X : Nat)) (hy : a.eval y = .int .u64 (s : Nat)) (hs : s ≤ 64) (w : World) :
    (execOp a.eval o).run P w = .ok (.value (.int .u64 ((X / 2 ^ s : Nat) : Int))) w := by
  unfold execOp
  simp only [ho, hx, hy, eqGuard, binOp, shift_shr .u64 .u64 (X : Int) (s : Int) (by omega) (show (s : Int) ≤ 64 by omega)]
  simp
theorem op_shl (ho : o.op = .binOp .shl t x y u) {X s : Nat} (hx : a.eval x = .int .u64 (X : Nat)) (hy : a.eval y = .int .u64 (s : Nat)) (hs : s ≤ 64) (w : World) :
    (execOp a.eval o).run P w = .ok (.value (.int .u64 ((X * 2 ^ s % 18446744073709551616 : Nat) : Int))) w := by
  unfold execOp
  simp only [ho, hx, hy, eqGuard, binOp, shift_shl .u64 .u64 (X : Int) (s : Int) (by omega) (show (s : Int) ≤ 64 by omega), IntKind.wrap_u64]
  simp
theorem op_or (ho : o.op = .binOp .or t x y u) {X Y : Nat} (hx : a.eval x = .int .u64 (X : Nat)) (hy : a.eval y = .int .u64 (Y : Nat)) (hX : X < 18446744073709551616) (hY : Y < 18446744073709551616) (w : World) :
    (execOp a.eval o).run P w = .ok (.value (.int .u64 ((X ||| Y : Nat) : Int))) w := by
  unfold execOp
  simp only [ho, hx, hy, eqGuard, binOp, intBits_or, bits_or_u64_nat X Y hX hY]
  simp
theorem op_sub (ho : o.op = .binOp .sub t x y u) {X Y : Nat} (hx : a.eval x = .int .u64 (X : Nat)) (hy : a.eval y = .int .u64 (Y : Nat)) (hX : X < 18446744073709551616) (hY : Y ≤ X) (w : World) :
    (execOp a.eval o).run P w = .ok (.value (.int .u64 ((X - Y : Nat) : Int))) w := by
  have e : IntKind.u64.wrap ((X : Int) - (Y : Int)) = ((X - Y : Nat) : Int) := by rw [IntKind.wrap_u64]; omega
  unfold execOp
  simp only [ho, hx, hy, eqGuard, binOp, Op.intArith, e]
  simp
end

theorem or_add {X Y s : Nat} (hY : Y < 2 ^ s) : (2 ^ s * X) ||| Y = 2 ^ s * X + Y := (Nat.two_pow_add_eq_or_of_lt hY X).symm
theorem shl_mod {x s : Nat} (hs : s ≤ 64) : x * 2 ^ s % 18446744073709551616 = 2 ^ s * (x % 2 ^ (64 - s)) := by
  have e : (18446744073709551616 : Nat) = 2 ^ s * 2 ^ (64 - s) := by rw [← Nat.pow_add, show s + (64 - s) = 64 by omega]
  rw [e, Nat.mul_comm x, Nat.mul_mod_mul_left]
theorem shr_low {x s : Nat} (hs : s ≤ 64) : x * 2 ^ s / 18446744073709551616 = x / 2 ^ (64 - s) := by
  have e : (18446744073709551616 : Nat) = 2 ^ s * 2 ^ (64 - s) := by rw [← Nat.pow_add, show s + (64 - s) = 64 by omega]
  rw [e, Nat.mul_comm x, Nat.mul_div_mul_left _ _ (Nat.two_pow_pos s)]
/-- One limb moved to the right: its own high bits, and the next one's low ones. -/
def rsh (f : Nat → Nat) (s i : Nat) : Nat := f i / 2 ^ s + 2 ^ (64 - s) * (f (i + 1) % 2 ^ s)
theorem rsh_or {x y s : Nat} (hs : s ≤ 64) (hx : x < 18446744073709551616) : x / 2 ^ s ||| y * 2 ^ (64 - s) % 18446744073709551616 = x / 2 ^ s + 2 ^ (64 - s) * (y % 2 ^ s) := by
  rw [shl_mod (show 64 - s ≤ 64 by omega), show 64 - (64 - s) = s by omega, Nat.or_comm, or_add, Nat.add_comm]
  rw [Nat.div_lt_iff_lt_mul (Nat.two_pow_pos s), ← Nat.pow_add, show 64 - s + s = 64 by omega]
  exact hx
theorem rsh_lt {f : Nat → Nat} {s i : Nat} (hs : s ≤ 64) (h : f i < 18446744073709551616) : rsh f s i < 18446744073709551616 := by
  have h1 : f i / 2 ^ s < 2 ^ (64 - s) := by
    rw [Nat.div_lt_iff_lt_mul (Nat.two_pow_pos s), ← Nat.pow_add, show 64 - s + s = 64 by omega]
    exact h
  have h2 := Nat.mod_lt (f (i + 1)) (Nat.two_pow_pos s)
  have h3 : 2 ^ (64 - s) * (f (i + 1) % 2 ^ s + 1) ≤ 2 ^ (64 - s) * 2 ^ s := Nat.mul_le_mul_left _ h2
  rw [← Nat.pow_add, show 64 - s + s = 64 by omega, Nat.mul_add] at h3
  unfold rsh
  omega
theorem rsh_sum (f : Nat → Nat) {s : Nat} (hs : s ≤ 64) (k : Nat) : 2 ^ s * sumL (rsh f s) k + f 0 % 2 ^ s = sumL f k + f k % 2 ^ s * bp k := by
  induction k with
  | zero => rw [sumL_zero, sumL_zero, bp_zero]; omega
  | succ k ih =>
    have e : 2 ^ s * 2 ^ (64 - s) = (18446744073709551616 : Nat) := by rw [← Nat.pow_add, show s + (64 - s) = 64 by omega]
    have h1 := Nat.div_add_mod (f k) (2 ^ s)
    rw [sumL_succ, sumL_succ, bp_succ]
    unfold rsh at *
    generalize f (k + 1) % 2 ^ s = t at *
    generalize f k / 2 ^ s = u at *
    generalize f k % 2 ^ s = v at *
    generalize f 0 % 2 ^ s = z at *
    generalize 2 ^ (64 - s) = q at *
    generalize 2 ^ s = p at *
    generalize sumL (fun i => _) k = S at *
    generalize sumL f k = F at *
    generalize bp k = b at *
    rw [← h1]
    grind
theorem rsh_num {f : Nat → Nat} {s : Nat} (hs : s ≤ 64) {n : Nat} (hf : ∀ i, i < n + 1 → f i < 18446744073709551616) : sumL (rsh f s) n = sumL f (n + 1) / 2 ^ s % bp n := by
  have h := rsh_sum f hs n
  have h1 := Nat.div_add_mod (f n) (2 ^ s)
  have h2 := Nat.mod_lt (f 0) (Nat.two_pow_pos s)
  have h3 := sumL_lt (f := rsh f s) (k := n) fun i hi => rsh_lt hs (hf i (by omega))
  have e : sumL f (n + 1) = f 0 % 2 ^ s + 2 ^ s * (sumL (rsh f s) n + f n / 2 ^ s * bp n) := by
    rw [sumL_succ]
    generalize f n / 2 ^ s = u at *
    generalize f n % 2 ^ s = v at *
    generalize f 0 % 2 ^ s = z at *
    generalize 2 ^ s = p at *
    rw [← h1]
    grind
  rw [e, Nat.add_mul_div_left _ _ (Nat.two_pow_pos s), Nat.div_eq_of_lt h2, Nat.zero_add, Nat.add_mul_mod_self_right, Nat.mod_eq_of_lt h3]
theorem undL : Try.prog.underlying 76 = some (.array 17 25) := by kernel_rfl
theorem infoL : (Try.prog.info? 76).map (·.size) = some 17 := by kernel_rfl
/-- The value of 17 limbs. -/
def longV (f : Nat → Nat) : Value := .agg (cells 17 f)
set_option maxHeartbeats 1000000 in
theorem right_any (f : Nat → Nat) (hf : ∀ i, i < 17 → f i < 18446744073709551616) (s : Nat) (hs : s < 64) (w : World) :
    Calls Try.prog 59 #[longV f, .int .u64 (s : Nat)] w fun e w' => e = .returned (wideV (sumL f 17 / 2 ^ s % bp 16)) ∧ Up w w' := by
  rw [← rsh_num (by omega) hf]
  have hrl : ∀ i, i < 16 → rsh f s i < 18446744073709551616 := fun i hi => rsh_lt (by omega) (hf i (by omega))
  rw [← wide_of hrl]
  unfold longV
  go_enter Try.func59, Try.ntmps59
  go_wp2
  go_loopw [7] (fun i wr => ∃ (k : Nat) (g : Nat → Nat), k ≤ 16 ∧ i = .int .i64 k ∧ (∀ i, i < k → g i = rsh f s i) ∧
      Row wr w.heap.size 76 17 f ∧ Row wr (w.heap.size + 1) 27 16 (fun _ => 0) ∧ Row wr (w.heap.size + 1 + 1) 27 16 g ∧ Below w.heap.size w wr)
    (fun i _ => 16 - (intOf i).toNat)
  case atStart => exact ⟨0, fun _ => 0, by omega, rfl, fun i h => by omega, row_alloc (row_alloc (row_newc _ 17 _ rfl)), (by (repeat (first | assumption | ((with_reducible apply row_newc); (focus (first | rfl | (simp; done)))) | ((with_reducible apply row_newz); (focus (first | rfl | (simp; done)))) | (with_reducible apply row_same) | ((with_reducible apply row_else); (focus (first | (simp; done) | (simp; omega) | omega))) | (with_reducible apply row_alloc) | (with_reducible apply row_drew) | (with_reducible apply row_drewN) | ((with_reducible apply row_up); assumption)))), (by (repeat (first | assumption | ((with_reducible apply row_newc); (focus (first | rfl | (simp; done)))) | ((with_reducible apply row_newz); (focus (first | rfl | (simp; done)))) | (with_reducible apply row_same) | ((with_reducible apply row_else); (focus (first | (simp; done) | (simp; omega) | omega))) | (with_reducible apply row_alloc) | (with_reducible apply row_drew) | (with_reducible apply row_drewN) | ((with_reducible apply row_up); assumption)))), (by repeat (first | assumption | (with_reducible apply Up.of) | (with_reducible exact Below.refl _ _) | (with_reducible exact Up.refl _) | ((with_reducible apply bl_setRow); (focus (first | exact Nat.le_refl _ | (simp; done) | (simp; omega) | omega))) | (with_reducible apply below_drewN) | (with_reducible apply Below.drew) | ((with_reducible apply bl_alloc); (focus (first | exact Nat.le_refl _ | (simp; done) | (simp; omega) | omega))) | ((with_reducible apply bl_setCell); (focus (first | exact Nat.le_refl _ | (simp; done) | (simp; omega) | omega))) | ((with_reducible apply up_tr); assumption)))⟩
  case round =>
    obtain ⟨k, g, hk, rfl, hg, hX, hR, hM, hB⟩ := hrel
    have Hg := hid hg
    have Hf := hid hf
    have Hrl := hid hrl
    clear hg hf hrl
    by_cases hlt : k < 16
    · have hcx := hX.cell k (by omega)
      have hcy := hX.cell (k + 1) (by omega)
      have hf1 := Hf.out k (by omega)
      have hf2 := Hf.out (k + 1) (by omega)
      have hq : f k / 2 ^ s < 18446744073709551616 := Nat.lt_of_le_of_lt (Nat.div_le_self _ _) hf1
      have HO : Hid (f k / 2 ^ s ||| f (k + 1) * 2 ^ (64 - s) % 18446744073709551616 = rsh f s k) := hid (rsh_or (y := f (k + 1)) (show s ≤ 64 by omega) hf1)
      have hk1 : (k : Int) < 17 := by omega
      have hk2 : (k : Int) + 1 < 17 := by omega
      have hk3 : (0 : Int) ≤ (k : Int) + 1 := by omega
      have E1 : Hid (IntKind.i64.wrap ((k : Int) + 1) = (k : Int) + 1) := hid (IntWalk.i64_in _ (by omega))
      have E2 : Hid (((k : Int) + 1).toNat = k + 1) := hid (by omega)
      go_wp2
      refine wp_region_upS (S := (fun wq => Row wq w.heap.size 76 17 f ∧ Row wq (w.heap.size + 1) 27 16 (fun _ => 0) ∧ Row wq (w.heap.size + 1 + 1) 27 16 g ∧ wq.cell? ⟨w.heap.size, k, none⟩ = some (.int .u64 (f k : Nat)) ∧ wq.cell? ⟨w.heap.size, k + 1, none⟩ = some (.int .u64 (f (k + 1) : Nat)) ∧ Below w.heap.size w wq)) (req := (fun j => j != 15)) (by kernel_rfl) (fun _ _ h hu => ⟨(h.1).up hu, (h.2.1).up hu, (h.2.2.1).up hu, hu.cell (h.2.2.2.1), hu.cell (h.2.2.2.2.1), below_up (h.2.2.2.2.2) hu⟩) ⟨(by (repeat (first | assumption | ((with_reducible apply row_newc); (focus (first | rfl | (simp; done)))) | ((with_reducible apply row_newz); (focus (first | rfl | (simp; done)))) | (with_reducible apply row_same) | ((with_reducible apply row_else); (focus (first | (simp; done) | (simp; omega) | omega))) | (with_reducible apply row_alloc) | (with_reducible apply row_drew) | (with_reducible apply row_drewN) | ((with_reducible apply row_up); assumption)))), (by (repeat (first | assumption | ((with_reducible apply row_newc); (focus (first | rfl | (simp; done)))) | ((with_reducible apply row_newz); (focus (first | rfl | (simp; done)))) | (with_reducible apply row_same) | ((with_reducible apply row_else); (focus (first | (simp; done) | (simp; omega) | omega))) | (with_reducible apply row_alloc) | (with_reducible apply row_drew) | (with_reducible apply row_drewN) | ((with_reducible apply row_up); assumption)))), (by (repeat (first | assumption | ((with_reducible apply row_newc); (focus (first | rfl | (simp; done)))) | ((with_reducible apply row_newz); (focus (first | rfl | (simp; done)))) | (with_reducible apply row_same) | ((with_reducible apply row_else); (focus (first | (simp; done) | (simp; omega) | omega))) | (with_reducible apply row_alloc) | (with_reducible apply row_drew) | (with_reducible apply row_drewN) | ((with_reducible apply row_up); assumption)))), (by first | assumption | (apply Blk.cell; (focus (repeat (first | assumption | ((with_reducible apply blk_new); (focus (first | rfl | (simp; done)))) | (with_reducible apply blk_alloc) | (with_reducible apply blk_drew) | (with_reducible apply blk_drewN) | ((with_reducible apply blk_up); assumption) | (with_reducible apply blk_same) | ((with_reducible apply blk_else); (focus (first | (simp; done) | (simp; omega) | omega)))))); exact rfl)), (by first | assumption | (apply Blk.cell; (focus (repeat (first | assumption | ((with_reducible apply blk_new); (focus (first | rfl | (simp; done)))) | (with_reducible apply blk_alloc) | (with_reducible apply blk_drew) | (with_reducible apply blk_drewN) | ((with_reducible apply blk_up); assumption) | (with_reducible apply blk_same) | ((with_reducible apply blk_else); (focus (first | (simp; done) | (simp; omega) | omega)))))); exact rfl)), (by repeat (first | assumption | (with_reducible apply Up.of) | (with_reducible exact Below.refl _ _) | (with_reducible exact Up.refl _) | ((with_reducible apply bl_setRow); (focus (first | exact Nat.le_refl _ | (simp; done) | (simp; omega) | omega))) | (with_reducible apply below_drewN) | (with_reducible apply Below.drew) | ((with_reducible apply bl_alloc); (focus (first | exact Nat.le_refl _ | (simp; done) | (simp; omega) | omega))) | ((with_reducible apply bl_setCell); (focus (first | exact Nat.le_refl _ | (simp; done) | (simp; omega) | omega))) | ((with_reducible apply up_tr); assumption)))⟩ (fun wS hSS => ?_)
      have ⟨hS1, hS2, hS3, hS4, hS5, hSB⟩ := hSS
      clear hcx hcy hX hR hM hB
      refine wpAnyU_pure (i := 0) (d := (some 10)) (v := ?_) rfl rfl (by kernel_rfl) (fun _ _ _ h => h) (fun _ _ h hu => ⟨(h.1).up hu, (h.2.1).up hu, (h.2.2.1).up hu, hu.cell (h.2.2.2.1), hu.cell (h.2.2.2.2.1), below_up (h.2.2.2.2.2) hu⟩) (Or.inl ⟨by rfl, fun w' _ => yu_value ?_⟩) ?_
      rotate_left
      · (go_simp; (try exact rfl))
      try simp only [Act.put, List.setIfInBounds_toArray, List.set_cons_zero, List.set_cons_succ]
      refine wpAnyU_pure (i := 1) (d := (some 11)) (v := ?_) rfl rfl (by kernel_rfl) (fun _ _ _ h => h) (fun _ _ h hu => ⟨(h.1).up hu, (h.2.1).up hu, (h.2.2.1).up hu, hu.cell (h.2.2.2.1), hu.cell (h.2.2.2.2.1), below_up (h.2.2.2.2.2) hu⟩) (Or.inl ⟨by rfl, fun w' _ => yu_value ?_⟩) ?_
      rotate_left
      · (go_simp; (try exact rfl))
      try simp only [Act.put, List.setIfInBounds_toArray, List.set_cons_zero, List.set_cons_succ]
      refine wpAnyU_pure (i := 2) (d := (some 12)) (v := ?_) rfl rfl (by kernel_rfl) (fun _ _ _ h => h) (fun _ _ h hu => ⟨(h.1).up hu, (h.2.1).up hu, (h.2.2.1).up hu, hu.cell (h.2.2.2.1), hu.cell (h.2.2.2.2.1), below_up (h.2.2.2.2.2) hu⟩) (Or.inl ⟨by rfl, fun w' _ => yu_value ?_⟩) ?_
      rotate_left
      · (go_simp; (try exact rfl))
      try simp only [Act.put, List.setIfInBounds_toArray, List.set_cons_zero, List.set_cons_succ]
      refine wpAnyU_take (i := 3) (d := (some 13)) (v := ?_) rfl rfl (by kernel_rfl) (fun _ _ _ h => h) (fun _ _ h hu => ⟨(h.1).up hu, (h.2.1).up hu, (h.2.2.1).up hu, hu.cell (h.2.2.2.1), hu.cell (h.2.2.2.2.1), below_up (h.2.2.2.2.2) hu⟩) hSS (Or.inl ⟨by rfl, fun w' hSw => yu_value ?_⟩) ?_
      rotate_left
      · ((try dsimp only at hSw); (try obtain ⟨_, _, _, _, _, _⟩ := hSw); go_simp; (try exact rfl))
      try simp only [Act.put, List.setIfInBounds_toArray, List.set_cons_zero, List.set_cons_succ]
      refine wpAnyU_pure (i := 4) (d := (some 14)) (v := ?_) rfl rfl (by kernel_rfl) (fun _ _ _ h => h) (fun _ _ h hu => ⟨(h.1).up hu, (h.2.1).up hu, (h.2.2.1).up hu, hu.cell (h.2.2.2.1), hu.cell (h.2.2.2.2.1), below_up (h.2.2.2.2.2) hu⟩) (Or.inl ⟨by rfl, fun w' _ => yu_value ?_⟩) ?_
      rotate_left
      · (go_simp; (try exact rfl))
      try simp only [Act.put, List.setIfInBounds_toArray, List.set_cons_zero, List.set_cons_succ]
      refine wpAnyU_take (i := 5) (d := (some 15)) (v := _) rfl rfl (by kernel_rfl) (fun _ _ _ h => h) (fun _ _ h hu => ⟨(h.1).up hu, (h.2.1).up hu, (h.2.2.1).up hu, hu.cell (h.2.2.2.1), hu.cell (h.2.2.2.2.1), below_up (h.2.2.2.2.2) hu⟩) hSS (Or.inl ⟨by rfl, fun w' hSw => yu_value (op_shr rfl rfl rfl (by omega) _)⟩) ?_
      try simp only [Act.put, List.setIfInBounds_toArray, List.set_cons_zero, List.set_cons_succ]
      refine wpAnyU_pure (i := 6) (d := (some 16)) (v := ?_) rfl rfl (by kernel_rfl) (fun _ _ _ h => h) (fun _ _ h hu => ⟨(h.1).up hu, (h.2.1).up hu, (h.2.2.1).up hu, hu.cell (h.2.2.2.1), hu.cell (h.2.2.2.2.1), below_up (h.2.2.2.2.2) hu⟩) (Or.inl ⟨by rfl, fun w' _ => yu_value ?_⟩) ?_
      rotate_left
      · (go_simp; (try exact rfl))
      try simp only [Act.put, List.setIfInBounds_toArray, List.set_cons_zero, List.set_cons_succ]
      refine wpAnyU_take (i := 7) (d := (some 17)) (v := ?_) rfl rfl (by kernel_rfl) (fun _ _ _ h => h) (fun _ _ h hu => ⟨(h.1).up hu, (h.2.1).up hu, (h.2.2.1).up hu, hu.cell (h.2.2.2.1), hu.cell (h.2.2.2.2.1), below_up (h.2.2.2.2.2) hu⟩) hSS (Or.inl ⟨by rfl, fun w' hSw => yu_value ?_⟩) ?_
      rotate_left
      · (have e1 := E1.out; go_simp; (try exact rfl))
      try simp only [Act.put, List.setIfInBounds_toArray, List.set_cons_zero, List.set_cons_succ]
      refine wpAnyU_take (i := 8) (d := (some 18)) (v := ?_) rfl rfl (by kernel_rfl) (fun _ _ _ h => h) (fun _ _ h hu => ⟨(h.1).up hu, (h.2.1).up hu, (h.2.2.1).up hu, hu.cell (h.2.2.2.1), hu.cell (h.2.2.2.2.1), below_up (h.2.2.2.2.2) hu⟩) hSS (Or.inl ⟨by rfl, fun w' hSw => yu_value ?_⟩) ?_
      rotate_left
      · (have e2 := E2.out; go_simp; (try exact rfl))
      try simp only [Act.put, List.setIfInBounds_toArray, List.set_cons_zero, List.set_cons_succ]
      refine wpAnyU_take (i := 9) (d := (some 19)) (v := ?_) rfl rfl (by kernel_rfl) (fun _ _ _ h => h) (fun _ _ h hu => ⟨(h.1).up hu, (h.2.1).up hu, (h.2.2.1).up hu, hu.cell (h.2.2.2.1), hu.cell (h.2.2.2.2.1), below_up (h.2.2.2.2.2) hu⟩) hSS (Or.inl ⟨by rfl, fun w' hSw => yu_value ?_⟩) ?_
      rotate_left
      · ((try dsimp only at hSw); (try obtain ⟨_, _, _, _, _, _⟩ := hSw); go_simp; (try exact rfl))
      try simp only [Act.put, List.setIfInBounds_toArray, List.set_cons_zero, List.set_cons_succ]
      refine wpAnyU_pure (i := 10) (d := (some 20)) (v := ?_) rfl rfl (by kernel_rfl) (fun _ _ _ h => h) (fun _ _ h hu => ⟨(h.1).up hu, (h.2.1).up hu, (h.2.2.1).up hu, hu.cell (h.2.2.2.1), hu.cell (h.2.2.2.2.1), below_up (h.2.2.2.2.2) hu⟩) (Or.inl ⟨by rfl, fun w' _ => yu_value ?_⟩) ?_
      rotate_left
      · (go_simp; (try exact rfl))
      try simp only [Act.put, List.setIfInBounds_toArray, List.set_cons_zero, List.set_cons_succ]
      refine wpAnyU_take (i := 11) (d := (some 21)) (v := _) rfl rfl (by kernel_rfl) (fun _ _ _ h => h) (fun _ _ h hu => ⟨(h.1).up hu, (h.2.1).up hu, (h.2.2.1).up hu, hu.cell (h.2.2.2.1), hu.cell (h.2.2.2.2.1), below_up (h.2.2.2.2.2) hu⟩) hSS (Or.inl ⟨by rfl, fun w' hSw => yu_value (op_sub (X := 64) rfl rfl rfl (by decide) (by omega) _)⟩) ?_
      try simp only [Act.put, List.setIfInBounds_toArray, List.set_cons_zero, List.set_cons_succ]
      refine wpAnyU_take (i := 12) (d := (some 22)) (v := _) rfl rfl (by kernel_rfl) (fun _ _ _ h => h) (fun _ _ h hu => ⟨(h.1).up hu, (h.2.1).up hu, (h.2.2.1).up hu, hu.cell (h.2.2.2.1), hu.cell (h.2.2.2.2.1), below_up (h.2.2.2.2.2) hu⟩) hSS (Or.inl ⟨by rfl, fun w' hSw => yu_value (op_shl rfl rfl rfl (by omega) _)⟩) ?_
      try simp only [Act.put, List.setIfInBounds_toArray, List.set_cons_zero, List.set_cons_succ]
      refine wpAnyU_take (i := 13) (d := (some 23)) (v := _) rfl rfl (by kernel_rfl) (fun _ _ _ h => h) (fun _ _ h hu => ⟨(h.1).up hu, (h.2.1).up hu, (h.2.2.1).up hu, hu.cell (h.2.2.2.1), hu.cell (h.2.2.2.2.1), below_up (h.2.2.2.2.2) hu⟩) hSS (Or.inl ⟨by rfl, fun w' hSw => yu_value (op_or rfl rfl rfl hq (Nat.mod_lt _ (by decide)) _)⟩) ?_
      try simp only [Act.put, List.setIfInBounds_toArray, List.set_cons_zero, List.set_cons_succ]
      rw [HO.out]
      refine wpAnyU_pure (i := 14) (d := (some 24)) (v := ?_) rfl rfl (by kernel_rfl) (fun _ _ _ h => h) (fun _ _ h hu => ⟨(h.1).up hu, (h.2.1).up hu, (h.2.2.1).up hu, hu.cell (h.2.2.2.1), hu.cell (h.2.2.2.2.1), below_up (h.2.2.2.2.2) hu⟩) (Or.inl ⟨by rfl, fun w' _ => yu_value ?_⟩) ?_
      rotate_left
      · (go_simp; (try exact rfl))
      try simp only [Act.put, List.setIfInBounds_toArray, List.set_cons_zero, List.set_cons_succ]
      refine wpAnyU_one (i := 15) rfl (by kernel_rfl) (by rfl) fun w1 hw1 => ?_
      have hcW := (hS3.up hw1).cell k (by omega)
      have hfW := (hS3.up hw1).frozen k
      go_simp
      clear hcW hfW
      refine wpAnyU_done (by kernel_rfl) (fun wF huE => ?_) _
      have hu := hw1
      have gX := (hS1.up hw1).other ⟨w.heap.size + 1 + 1, k, none⟩ (.int .u64 (rsh f s k : Nat)) (by simp; omega)
      have gR := (hS2.up hw1).other ⟨w.heap.size + 1 + 1, k, none⟩ (.int .u64 (rsh f s k : Nat)) (by simp)
      have gM := (hS3.up hw1).set k (rsh f s k)
      have gB := (below_up hSB hw1).setCell (p := ⟨w.heap.size + 1 + 1, k, none⟩) (by simp; omega) (.int .u64 (rsh f s k : Nat))
      replace gX := gX.up huE
      replace gR := gR.up huE
      replace gM := gM.up huE
      replace gB := below_up gB huE
      clear hS1 hS2 hS3 hS4 hS5 hSB hSS hw1 hu huE
      go_wp2
      go_roundw
      case rel =>
        refine ⟨k + 1, upd g k (rsh f s k), by omega, by go_num, fun i hi => ?_, gX, gR, gM, gB⟩
        by_cases e : i = k
        · rw [e, upd_same]
        · rw [upd_other _ _ _ e]; exact Hg.out i (by omega)
      case measure => simp [intOf] <;> omega
    · obtain rfl : k = 16 := by omega
      replace hM := hM.congr Hg.out
      go_wp2_with (first | ((with_reducible apply ld_rowP undW infoW); exact rfl; exact rfl; focus (repeat (first | assumption | ((with_reducible apply row_newc); (focus (first | rfl | (simp; done)))) | ((with_reducible apply row_newz); (focus (first | rfl | (simp; done)))) | (with_reducible apply row_same) | ((with_reducible apply row_else); (focus (first | (simp; done) | (simp; omega) | omega))) | (with_reducible apply row_alloc) | (with_reducible apply row_drew) | (with_reducible apply row_drewN) | ((with_reducible apply row_up); assumption)))) | ((with_reducible apply st_rowP infoW); exact rfl; exact rfl; focus (repeat (first | assumption | ((with_reducible apply row_newc); (focus (first | rfl | (simp; done)))) | ((with_reducible apply row_newz); (focus (first | rfl | (simp; done)))) | (with_reducible apply row_same) | ((with_reducible apply row_else); (focus (first | (simp; done) | (simp; omega) | omega))) | (with_reducible apply row_alloc) | (with_reducible apply row_drew) | (with_reducible apply row_drewN) | ((with_reducible apply row_up); assumption)))) | ((with_reducible apply st_rowZ infoW); exact rfl; exact rfl; focus (repeat (first | assumption | ((with_reducible apply row_newc); (focus (first | rfl | (simp; done)))) | ((with_reducible apply row_newz); (focus (first | rfl | (simp; done)))) | (with_reducible apply row_same) | ((with_reducible apply row_else); (focus (first | (simp; done) | (simp; omega) | omega))) | (with_reducible apply row_alloc) | (with_reducible apply row_drew) | (with_reducible apply row_drewN) | ((with_reducible apply row_up); assumption)))))
      exact bodyPost_ret (res1 rfl undW infoW _ _ rfl (by (repeat (first | assumption | ((with_reducible apply row_newc); (focus (first | rfl | (simp; done)))) | ((with_reducible apply row_newz); (focus (first | rfl | (simp; done)))) | (with_reducible apply row_same) | ((with_reducible apply row_else); (focus (first | (simp; done) | (simp; omega) | omega))) | (with_reducible apply row_alloc) | (with_reducible apply row_drew) | (with_reducible apply row_drewN) | ((with_reducible apply row_up); assumption))))) rfl ⟨rfl, (by repeat (first | assumption | (with_reducible apply Up.of) | (with_reducible exact Below.refl _ _) | (with_reducible exact Up.refl _) | ((with_reducible apply bl_setRow); (focus (first | exact Nat.le_refl _ | (simp; done) | (simp; omega) | omega))) | (with_reducible apply below_drewN) | (with_reducible apply Below.drew) | ((with_reducible apply bl_alloc); (focus (first | exact Nat.le_refl _ | (simp; done) | (simp; omega) | omega))) | ((with_reducible apply bl_setCell); (focus (first | exact Nat.le_refl _ | (simp; done) | (simp; omega) | omega))) | ((with_reducible apply up_tr); assumption)))⟩
theorem shrP {P : Program} {t u : TypeId} {ops : Array Oper} {rest : List Oper} {Q : Exit → Act → World → Prop} {a : Act} {w : World} {d : Option Tmp} {p q : Tmp} {ty : TypeId} {pos : String} {af : Array Edge} {gd : Option (Nat × Bool)} {X Y : Nat}
    (hw : Region.wanted { dst := d, op := .binOp .shr t (.tmp p) (.tmp q) u, type := ty, pos := pos, after := af, guard := gd } (yielded ops a.tmps) = true) (hx : a.eval (.tmp p) = .int .u64 (X : Nat)) (hy : a.eval (.tmp q) = .int .u64 (Y : Nat)) (hs : Y ≤ 64)
    (h : wpList P ops Q rest (a.put d (.int .u64 ((X / 2 ^ Y : Nat) : Int))) w) : wpList P ops Q ({ dst := d, op := .binOp .shr t (.tmp p) (.tmp q) u, type := ty, pos := pos, after := af, guard := gd } :: rest) a w := wpList_run hw (op_shr rfl hx hy hs w) h
theorem shlP {P : Program} {t u : TypeId} {ops : Array Oper} {rest : List Oper} {Q : Exit → Act → World → Prop} {a : Act} {w : World} {d : Option Tmp} {p q : Tmp} {ty : TypeId} {pos : String} {af : Array Edge} {gd : Option (Nat × Bool)} {X Y : Nat}
    (hw : Region.wanted { dst := d, op := .binOp .shl t (.tmp p) (.tmp q) u, type := ty, pos := pos, after := af, guard := gd } (yielded ops a.tmps) = true) (hx : a.eval (.tmp p) = .int .u64 (X : Nat)) (hy : a.eval (.tmp q) = .int .u64 (Y : Nat)) (hs : Y ≤ 64)
    (h : wpList P ops Q rest (a.put d (.int .u64 ((X * 2 ^ Y % 18446744073709551616 : Nat) : Int))) w) : wpList P ops Q ({ dst := d, op := .binOp .shl t (.tmp p) (.tmp q) u, type := ty, pos := pos, after := af, guard := gd } :: rest) a w := wpList_run hw (op_shl rfl hx hy hs w) h
theorem orP {P : Program} {t u : TypeId} {ops : Array Oper} {rest : List Oper} {Q : Exit → Act → World → Prop} {a : Act} {w : World} {d : Option Tmp} {p q : Tmp} {ty : TypeId} {pos : String} {af : Array Edge} {gd : Option (Nat × Bool)} {X Y : Nat}
    (hw : Region.wanted { dst := d, op := .binOp .or t (.tmp p) (.tmp q) u, type := ty, pos := pos, after := af, guard := gd } (yielded ops a.tmps) = true) (hx : a.eval (.tmp p) = .int .u64 (X : Nat)) (hy : a.eval (.tmp q) = .int .u64 (Y : Nat)) (hX : X < 18446744073709551616) (hY : Y < 18446744073709551616)
    (h : wpList P ops Q rest (a.put d (.int .u64 ((X ||| Y : Nat) : Int))) w) : wpList P ops Q ({ dst := d, op := .binOp .or t (.tmp p) (.tmp q) u, type := ty, pos := pos, after := af, guard := gd } :: rest) a w := wpList_run hw (op_or rfl hx hy hX hY w) h
theorem sub64P {P : Program} {t u : TypeId} {ops : Array Oper} {rest : List Oper} {Q : Exit → Act → World → Prop} {a : Act} {w : World} {d : Option Tmp} {q : Tmp} {ty : TypeId} {pos : String} {af : Array Edge} {gd : Option (Nat × Bool)} {Y : Nat}
    (hw : Region.wanted { dst := d, op := .binOp .sub t (.const (.int .u64 64)) (.tmp q) u, type := ty, pos := pos, after := af, guard := gd } (yielded ops a.tmps) = true) (hy : a.eval (.tmp q) = .int .u64 (Y : Nat)) (hs : Y ≤ 64)
    (h : wpList P ops Q rest (a.put d (.int .u64 ((64 - Y : Nat) : Int))) w) : wpList P ops Q ({ dst := d, op := .binOp .sub t (.const (.int .u64 64)) (.tmp q) u, type := ty, pos := pos, after := af, guard := gd } :: rest) a w := wpList_run hw (op_sub (X := 64) rfl rfl hy (by decide) hs w) h

theorem lsh_step {x g s : Nat} (hs : s < 64) (hx : x < 18446744073709551616) (hg : g < 2 ^ s) :
    (g ||| x * 2 ^ s % 18446744073709551616) + x / 2 ^ (64 - s) * 18446744073709551616 = g + x * 2 ^ s ∧ x / 2 ^ (64 - s) < 2 ^ s ∧ (g ||| x * 2 ^ s % 18446744073709551616) < 18446744073709551616 := by
  have e : 2 ^ s * 2 ^ (64 - s) = (18446744073709551616 : Nat) := by rw [← Nat.pow_add, show s + (64 - s) = 64 by omega]
  have h1 : (g ||| x * 2 ^ s % 18446744073709551616) = g + x * 2 ^ s % 18446744073709551616 := by
    rw [shl_mod (by omega), Nat.or_comm, or_add hg, Nat.add_comm]
  have h2 := shr_low (x := x) (show s ≤ 64 by omega)
  have h3 := Nat.div_add_mod (x * 2 ^ s) 18446744073709551616
  have h4 : x / 2 ^ (64 - s) < 2 ^ s := by
    rw [Nat.div_lt_iff_lt_mul (Nat.two_pow_pos _), e]; exact hx
  refine ⟨by rw [h1, ← h2]; omega, h4, ?_⟩
  rw [h1, shl_mod (by omega)]
  have h5 := Nat.mod_lt x (Nat.two_pow_pos (64 - s))
  have h6 : 2 ^ s * (x % 2 ^ (64 - s) + 1) ≤ 2 ^ s * 2 ^ (64 - s) := Nat.mul_le_mul_left _ h5
  rw [e, Nat.mul_add] at h6
  omega
theorem long_of {f : Nat → Nat} (h : ∀ i, i < 17 → f i < 18446744073709551616) : Value.agg (cells 17 f) = longV (limb (sumL f 17)) := by
  unfold longV
  rw [cells_congr fun i hi => (limb_sumL h hi).symm]
theorem zeros17 : (#[.int .u64 0, .int .u64 0, .int .u64 0, .int .u64 0, .int .u64 0, .int .u64 0, .int .u64 0, .int .u64 0, .int .u64 0, .int .u64 0, .int .u64 0, .int .u64 0, .int .u64 0, .int .u64 0, .int .u64 0, .int .u64 0, .int .u64 0] : Array Value) = cells 17 (fun _ => 0) := by
  unfold cells; kernel_rfl
theorem row_newz17 {w : World} {b : Nat} (t : TypeId) (h : b = w.heap.size) : Row (w.alloc (.cells #[.int .u64 0, .int .u64 0, .int .u64 0, .int .u64 0, .int .u64 0, .int .u64 0, .int .u64 0, .int .u64 0, .int .u64 0, .int .u64 0, .int .u64 0, .int .u64 0, .int .u64 0, .int .u64 0, .int .u64 0, .int .u64 0, .int .u64 0] t)) b t 17 (fun _ => 0) :=
  row_new t 17 _ _ h zeros17
set_option maxHeartbeats 1000000 in
theorem left_any (x : Nat) (hx : x < bp 16) (s : Nat) (hs : s < 64) (w : World) :
    Calls Try.prog 68 #[wideV x, .int .u64 (s : Nat)] w fun e w' => e = .returned (longV (limb (x * 2 ^ s))) ∧ Up w w' := by
  unfold wideV
  go_enter Try.func68, Try.ntmps68
  go_wp2
  go_loopw [7] (fun i wr => ∃ (k : Nat) (g : Nat → Nat), k ≤ 16 ∧ i = .int .i64 k ∧ (∀ i, i < 17 → g i < 18446744073709551616) ∧ sumL g (k + 1) = sumL (limb x) k * 2 ^ s ∧ g k < 2 ^ s ∧ (∀ i, k < i → i < 17 → g i = 0) ∧
      Row wr w.heap.size 27 16 (limb x) ∧ Row wr (w.heap.size + 1) 76 17 (fun _ => 0) ∧ Row wr (w.heap.size + 1 + 1) 76 17 g ∧ Below w.heap.size w wr)
    (fun i _ => 16 - (intOf i).toNat)
  case atStart => exact ⟨0, fun _ => 0, by omega, rfl, fun i h => by simp, by simp [sumL_succ, sumL_zero], Nat.two_pow_pos s, fun _ _ _ => rfl, (by (repeat (first | assumption | ((with_reducible apply row_newc); (focus (first | rfl | (simp; done)))) | ((with_reducible apply row_newz); (focus (first | rfl | (simp; done)))) | (with_reducible apply row_same) | ((with_reducible apply row_else); (focus (first | (simp; done) | (simp; omega) | omega))) | (with_reducible apply row_alloc) | (with_reducible apply row_drew) | (with_reducible apply row_drewN) | ((with_reducible apply row_up); assumption)))), row_alloc (row_newz17 _ (by simp)), row_newz17 _ (by simp), (by repeat (first | assumption | (with_reducible apply Up.of) | (with_reducible exact Below.refl _ _) | (with_reducible exact Up.refl _) | ((with_reducible apply bl_setRow); (focus (first | exact Nat.le_refl _ | (simp; done) | (simp; omega) | omega))) | (with_reducible apply below_drewN) | (with_reducible apply Below.drew) | ((with_reducible apply bl_alloc); (focus (first | exact Nat.le_refl _ | (simp; done) | (simp; omega) | omega))) | ((with_reducible apply bl_setCell); (focus (first | exact Nat.le_refl _ | (simp; done) | (simp; omega) | omega))) | ((with_reducible apply up_tr); assumption)))⟩
  case round =>
    obtain ⟨k, g, hk, rfl, hg, hsum, hgk, hg0, hX, hR, hM, hB⟩ := hrel
    have Hg := hid hg
    have Hg0 := hid hg0
    have Hsum := hid hsum
    clear hg hsum hg0
    by_cases hlt : k < 16
    · obtain ⟨r1, e1⟩ : ∃ r1, r1 = g k ||| limb x k * 2 ^ s % 18446744073709551616 := ⟨_, rfl⟩
      obtain ⟨r2, e2⟩ : ∃ r2, r2 = limb x k / 2 ^ (64 - s) := ⟨_, rfl⟩
      have hst := lsh_step hs (limb_lt x k) hgk
      rw [← e1, ← e2] at hst
      obtain ⟨hst1, hst2, hst3⟩ := hst
      have hr2 : r2 < 18446744073709551616 := by rw [e2]; exact Nat.lt_of_le_of_lt (Nat.div_le_self _ _) (limb_lt x k)
      have He1 := hid e1.symm
      have He2 := hid e2.symm
      have Hst1 := hid hst1
      clear e1 e2 hst1
      have hk1 : (k : Int) < 17 := by omega
      have hk2 : (k : Int) + 1 < 17 := by omega
      have hk3 : (0 : Int) ≤ (k : Int) + 1 := by omega
      have hgk64 := Hg.out k (by omega)
      have E1 : Hid (IntKind.i64.wrap ((k : Int) + 1) = (k : Int) + 1) := hid (IntWalk.i64_in _ (by omega))
      have E2 : Hid (((k : Int) + 1).toNat = k + 1) := hid (by omega)
      have hcx := hX.cell k (by omega)
      have hcy := hM.cell k (by omega)
      go_wp2
      refine wp_region_upS (S := (fun wq => Row wq w.heap.size 27 16 (limb x) ∧ Row wq (w.heap.size + 1) 76 17 (fun _ => 0) ∧ Row wq (w.heap.size + 1 + 1) 76 17 g ∧ wq.cell? ⟨w.heap.size, k, none⟩ = some (.int .u64 (limb x k : Nat)) ∧ wq.cell? ⟨w.heap.size + 1 + 1, k, none⟩ = some (.int .u64 (g k : Nat)) ∧ Below w.heap.size w wq)) (req := (fun j => j != 10)) (by kernel_rfl) (fun _ _ h hu => ⟨(h.1).up hu, (h.2.1).up hu, (h.2.2.1).up hu, hu.cell (h.2.2.2.1), hu.cell (h.2.2.2.2.1), below_up (h.2.2.2.2.2) hu⟩) ⟨(by (repeat (first | assumption | ((with_reducible apply row_newc); (focus (first | rfl | (simp; done)))) | ((with_reducible apply row_newz); (focus (first | rfl | (simp; done)))) | (with_reducible apply row_same) | ((with_reducible apply row_else); (focus (first | (simp; done) | (simp; omega) | omega))) | (with_reducible apply row_alloc) | (with_reducible apply row_drew) | (with_reducible apply row_drewN) | ((with_reducible apply row_up); assumption)))), (by (repeat (first | assumption | ((with_reducible apply row_newc); (focus (first | rfl | (simp; done)))) | ((with_reducible apply row_newz); (focus (first | rfl | (simp; done)))) | (with_reducible apply row_same) | ((with_reducible apply row_else); (focus (first | (simp; done) | (simp; omega) | omega))) | (with_reducible apply row_alloc) | (with_reducible apply row_drew) | (with_reducible apply row_drewN) | ((with_reducible apply row_up); assumption)))), (by (repeat (first | assumption | ((with_reducible apply row_newc); (focus (first | rfl | (simp; done)))) | ((with_reducible apply row_newz); (focus (first | rfl | (simp; done)))) | (with_reducible apply row_same) | ((with_reducible apply row_else); (focus (first | (simp; done) | (simp; omega) | omega))) | (with_reducible apply row_alloc) | (with_reducible apply row_drew) | (with_reducible apply row_drewN) | ((with_reducible apply row_up); assumption)))), (by first | assumption | (apply Blk.cell; (focus (repeat (first | assumption | ((with_reducible apply blk_new); (focus (first | rfl | (simp; done)))) | (with_reducible apply blk_alloc) | (with_reducible apply blk_drew) | (with_reducible apply blk_drewN) | ((with_reducible apply blk_up); assumption) | (with_reducible apply blk_same) | ((with_reducible apply blk_else); (focus (first | (simp; done) | (simp; omega) | omega)))))); exact rfl)), (by first | assumption | (apply Blk.cell; (focus (repeat (first | assumption | ((with_reducible apply blk_new); (focus (first | rfl | (simp; done)))) | (with_reducible apply blk_alloc) | (with_reducible apply blk_drew) | (with_reducible apply blk_drewN) | ((with_reducible apply blk_up); assumption) | (with_reducible apply blk_same) | ((with_reducible apply blk_else); (focus (first | (simp; done) | (simp; omega) | omega)))))); exact rfl)), (by repeat (first | assumption | (with_reducible apply Up.of) | (with_reducible exact Below.refl _ _) | (with_reducible exact Up.refl _) | ((with_reducible apply bl_setRow); (focus (first | exact Nat.le_refl _ | (simp; done) | (simp; omega) | omega))) | (with_reducible apply below_drewN) | (with_reducible apply Below.drew) | ((with_reducible apply bl_alloc); (focus (first | exact Nat.le_refl _ | (simp; done) | (simp; omega) | omega))) | ((with_reducible apply bl_setCell); (focus (first | exact Nat.le_refl _ | (simp; done) | (simp; omega) | omega))) | ((with_reducible apply up_tr); assumption)))⟩ (fun wS hSS => ?_)
      have ⟨hS1, hS2, hS3, hS4, hS5, hSB⟩ := hSS
      clear hcx hcy hX hR hM hB
      refine wpAnyU_pure (i := 0) (d := (some 10)) (v := ?_) rfl rfl (by kernel_rfl) (fun _ _ _ h => h) (fun _ _ h hu => ⟨(h.1).up hu, (h.2.1).up hu, (h.2.2.1).up hu, hu.cell (h.2.2.2.1), hu.cell (h.2.2.2.2.1), below_up (h.2.2.2.2.2) hu⟩) (Or.inl ⟨by rfl, fun w' _ => yu_value ?_⟩) ?_
      rotate_left
      · (go_simp; (try exact rfl))
      try simp only [Act.put, List.setIfInBounds_toArray, List.set_cons_zero, List.set_cons_succ]
      refine wpAnyU_pure (i := 1) (d := (some 11)) (v := ?_) rfl rfl (by kernel_rfl) (fun _ _ _ h => h) (fun _ _ h hu => ⟨(h.1).up hu, (h.2.1).up hu, (h.2.2.1).up hu, hu.cell (h.2.2.2.1), hu.cell (h.2.2.2.2.1), below_up (h.2.2.2.2.2) hu⟩) (Or.inl ⟨by rfl, fun w' _ => yu_value ?_⟩) ?_
      rotate_left
      · (go_simp; (try exact rfl))
      try simp only [Act.put, List.setIfInBounds_toArray, List.set_cons_zero, List.set_cons_succ]
      refine wpAnyU_take (i := 2) (d := (some 12)) (v := ?_) rfl rfl (by kernel_rfl) (fun _ _ _ h => h) (fun _ _ h hu => ⟨(h.1).up hu, (h.2.1).up hu, (h.2.2.1).up hu, hu.cell (h.2.2.2.1), hu.cell (h.2.2.2.2.1), below_up (h.2.2.2.2.2) hu⟩) hSS (Or.inl ⟨by rfl, fun w' hSw => yu_value ?_⟩) ?_
      rotate_left
      · ((try dsimp only at hSw); (try obtain ⟨_, _, _, _, _, _⟩ := hSw); go_simp; (try exact rfl))
      try simp only [Act.put, List.setIfInBounds_toArray, List.set_cons_zero, List.set_cons_succ]
      refine wpAnyU_pure (i := 3) (d := (some 13)) (v := ?_) rfl rfl (by kernel_rfl) (fun _ _ _ h => h) (fun _ _ h hu => ⟨(h.1).up hu, (h.2.1).up hu, (h.2.2.1).up hu, hu.cell (h.2.2.2.1), hu.cell (h.2.2.2.2.1), below_up (h.2.2.2.2.2) hu⟩) (Or.inl ⟨by rfl, fun w' _ => yu_value ?_⟩) ?_
      rotate_left
      · (go_simp; (try exact rfl))
      try simp only [Act.put, List.setIfInBounds_toArray, List.set_cons_zero, List.set_cons_succ]
      refine wpAnyU_pure (i := 4) (d := (some 14)) (v := ?_) rfl rfl (by kernel_rfl) (fun _ _ _ h => h) (fun _ _ h hu => ⟨(h.1).up hu, (h.2.1).up hu, (h.2.2.1).up hu, hu.cell (h.2.2.2.1), hu.cell (h.2.2.2.2.1), below_up (h.2.2.2.2.2) hu⟩) (Or.inl ⟨by rfl, fun w' _ => yu_value ?_⟩) ?_
      rotate_left
      · (go_simp; (try exact rfl))
      try simp only [Act.put, List.setIfInBounds_toArray, List.set_cons_zero, List.set_cons_succ]
      refine wpAnyU_take (i := 5) (d := (some 15)) (v := ?_) rfl rfl (by kernel_rfl) (fun _ _ _ h => h) (fun _ _ h hu => ⟨(h.1).up hu, (h.2.1).up hu, (h.2.2.1).up hu, hu.cell (h.2.2.2.1), hu.cell (h.2.2.2.2.1), below_up (h.2.2.2.2.2) hu⟩) hSS (Or.inl ⟨by rfl, fun w' hSw => yu_value ?_⟩) ?_
      rotate_left
      · ((try dsimp only at hSw); (try obtain ⟨_, _, _, _, _, _⟩ := hSw); go_simp; (try exact rfl))
      try simp only [Act.put, List.setIfInBounds_toArray, List.set_cons_zero, List.set_cons_succ]
      refine wpAnyU_pure (i := 6) (d := (some 16)) (v := ?_) rfl rfl (by kernel_rfl) (fun _ _ _ h => h) (fun _ _ h hu => ⟨(h.1).up hu, (h.2.1).up hu, (h.2.2.1).up hu, hu.cell (h.2.2.2.1), hu.cell (h.2.2.2.2.1), below_up (h.2.2.2.2.2) hu⟩) (Or.inl ⟨by rfl, fun w' _ => yu_value ?_⟩) ?_
      rotate_left
      · (go_simp; (try exact rfl))
      try simp only [Act.put, List.setIfInBounds_toArray, List.set_cons_zero, List.set_cons_succ]
      refine wpAnyU_take (i := 7) (d := (some 17)) (v := _) rfl rfl (by kernel_rfl) (fun _ _ _ h => h) (fun _ _ h hu => ⟨(h.1).up hu, (h.2.1).up hu, (h.2.2.1).up hu, hu.cell (h.2.2.2.1), hu.cell (h.2.2.2.2.1), below_up (h.2.2.2.2.2) hu⟩) hSS (Or.inl ⟨by rfl, fun w' hSw => yu_value (op_shl rfl rfl rfl (Nat.le_of_lt hs) _)⟩) ?_
      try simp only [Act.put, List.setIfInBounds_toArray, List.set_cons_zero, List.set_cons_succ]
      refine wpAnyU_take (i := 8) (d := (some 18)) (v := _) rfl rfl (by kernel_rfl) (fun _ _ _ h => h) (fun _ _ h hu => ⟨(h.1).up hu, (h.2.1).up hu, (h.2.2.1).up hu, hu.cell (h.2.2.2.1), hu.cell (h.2.2.2.2.1), below_up (h.2.2.2.2.2) hu⟩) hSS (Or.inl ⟨by rfl, fun w' hSw => yu_value (op_or rfl rfl rfl hgk64 (Nat.mod_lt _ (by decide)) _)⟩) ?_
      try simp only [Act.put, List.setIfInBounds_toArray, List.set_cons_zero, List.set_cons_succ]
      rw [He1.out]
      refine wpAnyU_pure (i := 9) (d := (some 19)) (v := ?_) rfl rfl (by kernel_rfl) (fun _ _ _ h => h) (fun _ _ h hu => ⟨(h.1).up hu, (h.2.1).up hu, (h.2.2.1).up hu, hu.cell (h.2.2.2.1), hu.cell (h.2.2.2.2.1), below_up (h.2.2.2.2.2) hu⟩) (Or.inl ⟨by rfl, fun w' _ => yu_value ?_⟩) ?_
      rotate_left
      · (go_simp; (try exact rfl))
      try simp only [Act.put, List.setIfInBounds_toArray, List.set_cons_zero, List.set_cons_succ]
      refine wpAnyU_one (i := 10) rfl (by kernel_rfl) (by rfl) fun w1 hw1 => ?_
      have hcW := (hS3.up hw1).cell k (by omega)
      have hfW := (hS3.up hw1).frozen k
      go_simp
      clear hcW hfW
      refine wpAnyU_done (by kernel_rfl) (fun wF huE => ?_) _
      have gX := ((hS1.up hw1).other ⟨w.heap.size + 1 + 1, k, none⟩ (.int .u64 (r1 : Nat)) (by simp; omega)).up huE
      have gR := ((hS2.up hw1).other ⟨w.heap.size + 1 + 1, k, none⟩ (.int .u64 (r1 : Nat)) (by simp)).up huE
      have gM := ((hS3.up hw1).set k r1).up huE
      have gB := below_up ((below_up hSB hw1).setCell (p := ⟨w.heap.size + 1 + 1, k, none⟩) (by simp; omega) (.int .u64 (r1 : Nat))) huE
      clear hS1 hS2 hS3 hS4 hS5 hSB hSS hw1 huE
      have hcx := gX.cell k (by omega)
      have hcy := gM.cell (k + 1) (by omega)
      have hfy := gM.frozen (k + 1)
      have fX := gX.other ⟨w.heap.size + 1 + 1, k + 1, none⟩ (.int .u64 (r2 : Nat)) (by simp; omega)
      have fR := gR.other ⟨w.heap.size + 1 + 1, k + 1, none⟩ (.int .u64 (r2 : Nat)) (by simp)
      have fM := gM.set (k + 1) r2
      have fB := gB.setCell (p := ⟨w.heap.size + 1 + 1, k + 1, none⟩) (by simp; omega) (.int .u64 (r2 : Nat))
      have hs' := Nat.le_of_lt hs
      have hs64 : 64 - s ≤ 64 := Nat.sub_le _ _
      go_wp2_with (first | ((with_reducible apply sub64P); exact rfl; exact rfl; exact hs') | ((with_reducible apply shrP); exact rfl; exact rfl; exact rfl; exact hs64; rw [He2.out]))
      go_roundw
      case rel =>
        refine ⟨k + 1, upd (upd g k r1) (k + 1) r2, by omega, by go_num, upd_lt (upd_lt Hg.out hst3) hr2, ?_, by rw [upd_same]; exact hst2, fun i h1 h2 => by rw [upd_other _ _ _ (by omega), upd_other _ _ _ (by omega)]; exact Hg0.out i (by omega) h2, fX, fR, fM, fB⟩
        have h1 := Hsum.out
        have h2 := Hst1.out
        rw [sumL_succ] at h1
        rw [sumL_upd_succ, sumL_upd_succ, sumL_succ, Nat.add_mul, ← h1, bp_succ]
        have h3 : (r1 + r2 * 18446744073709551616) * bp k = (g k + limb x k * 2 ^ s) * bp k := by rw [h2]
        clear h1 h2 Hsum Hst1 He1 He2 hst2 hgk
        generalize limb x k = xk at *
        generalize g k = gk at *
        generalize bp k = b at *
        generalize 2 ^ s = p at *
        generalize sumL g k = S at *
        grind
      case measure => simp [intOf] <;> omega
    · obtain rfl : k = 16 := by omega
      have hfin := Hsum.out
      rw [sumL_limb, Nat.mod_eq_of_lt hx] at hfin
      have hfin2 := hid hfin
      clear hfin
      go_wp2_with (first | ((with_reducible apply ld_rowP undL infoL); exact rfl; exact rfl; exact hM) | ((with_reducible apply st_rowP infoL); exact rfl; exact rfl; exact hR))
      exact bodyPost_ret (res1 rfl undL infoL _ _ rfl (hR.setRow g)) rfl ⟨by rw [← hfin2.out, ← long_of Hg.out], (by repeat (first | assumption | (with_reducible apply Up.of) | (with_reducible exact Below.refl _ _) | (with_reducible exact Up.refl _) | ((with_reducible apply bl_setRow); (focus (first | exact Nat.le_refl _ | (simp; done) | (simp; omega) | omega))) | (with_reducible apply below_drewN) | (with_reducible apply Below.drew) | ((with_reducible apply bl_alloc); (focus (first | exact Nat.le_refl _ | (simp; done) | (simp; omega) | omega))) | ((with_reducible apply bl_setCell); (focus (first | exact Nat.le_refl _ | (simp; done) | (simp; omega) | omega))) | ((with_reducible apply up_tr); assumption)))⟩
end Go.Proofs.Ytlkolfnklbldcaa
