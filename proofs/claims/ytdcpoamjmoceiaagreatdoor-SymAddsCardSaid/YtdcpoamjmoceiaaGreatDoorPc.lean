/-
  What the claim's law is built of: Shift, Times, Mul, Num, Half, Div64, Short, Divide, Div, Round, Known, Pow, RefA, RefB, RefC, Sy3, Sy4.
-/
import Derived.Test.YtdcpoamjmoceiaaGreatDoorPb
import Derived.Deep.DeepCutAuto
import Derived.Deep.QuietTactic
import Derived.BigQuiet
import Derived.Deep.CutBlock
import Derived.ChangeSame
import Derived.Lib.MinMax
import Derived.Laws.AppendOwnNone
/-
  wide: limbs moved to the left and to the right by fewer bits than a limb has.
-/
namespace Go.Proofs.YtdcpoamjmoceiaaGreatDoor
open Go Go.RowKit
set_option maxRecDepth 100000

section
variable {P : Program} {o : Oper} {a : Act} {x y : Operand} {t u : TypeId}
theorem op_shr (ho : o.op = .binOp .shr t x y u) {X s : Nat} (hx : a.eval x = .int .u64 (X : Nat)) (hy : a.eval y = .int .u64 (s : Nat)) (hs : s ≤ 64) (w : World) :
    (execOp a.eval o).run P w = .ok (.value (.int .u64 ((X / 2 ^ s : Nat) : Int))) w := by
  unfold execOp
  simp only [ho, hx, hy, eqGuard, binOp, shift_shr .u64 .u64 (X : Int) (s : Int) (by omega) (show (s : Int) ≤ 64 by omega)]
  simp
theorem op_shl (ho : o.op = .binOp .shl t x y u) {X s : Nat} (hx : a.eval x = .int .u64 (X : Nat)) (hy : a.eval y = .int .u64 (s : Nat)) (hs : s ≤ 64) (w : World) :
    (execOp a.eval o).run P w = .ok (.value (.int .u64 ((X * 2 ^ s % 18446744073709551616 : Nat) : Int))) w := by
  unfold execOp
  simp only [ho, hx, hy, eqGuard, binOp, shift_shl .u64 .u64 (X : Int) (s : Int) (by omega) (show (s : Int) ≤ 64 by omega), IntKind.wrap_u64]
  simp
theorem op_or (ho : o.op = .binOp .or t x y u) {X Y : Nat} (hx : a.eval x = .int .u64 (X : Nat)) (hy : a.eval y = .int .u64 (Y : Nat)) (hX : X < 18446744073709551616) (hY : Y < 18446744073709551616) (w : World) :
    (execOp a.eval o).run P w = .ok (.value (.int .u64 ((X ||| Y : Nat) : Int))) w := by
  unfold execOp
  simp only [ho, hx, hy, eqGuard, binOp, intBits_or, bits_or_u64_nat X Y hX hY]
  simp
theorem op_sub (ho : o.op = .binOp .sub t x y u) {X Y : Nat} (hx : a.eval x = .int .u64 (X : Nat)) (hy : a.eval y = .int .u64 (Y : Nat)) (hX : X < 18446744073709551616) (hY : Y ≤ X) (w : World) :
    (execOp a.eval o).run P w = .ok (.value (.int .u64 ((X - Y : Nat) : Int))) w := by
  have e : IntKind.u64.wrap ((X : Int) - (Y : Int)) = ((X - Y : Nat) : Int) := by rw [IntKind.wrap_u64]; omega
  unfold execOp
  simp only [ho, hx, hy, eqGuard, binOp, Op.intArith, e]
  simp
end

theorem or_add {X Y s : Nat} (hY : Y < 2 ^ s) : (2 ^ s * X) ||| Y = 2 ^ s * X + Y := (Nat.two_pow_add_eq_or_of_lt hY X).symm
theorem shl_mod {x s : Nat} (hs : s ≤ 64) : x * 2 ^ s % 18446744073709551616 = 2 ^ s * (x % 2 ^ (64 - s)) := by
  have e : (18446744073709551616 : Nat) = 2 ^ s * 2 ^ (64 - s) := by rw [← Nat.pow_add, show s + (64 - s) = 64 by omega]
  rw [e, Nat.mul_comm x, Nat.mul_mod_mul_left]
/-- One limb moved to the right: its own high bits, and the next one's low ones. -/
def rsh (f : Nat → Nat) (s i : Nat) : Nat := f i / 2 ^ s + 2 ^ (64 - s) * (f (i + 1) % 2 ^ s)
theorem rsh_or {x y s : Nat} (hs : s ≤ 64) (hx : x < 18446744073709551616) : x / 2 ^ s ||| y * 2 ^ (64 - s) % 18446744073709551616 = x / 2 ^ s + 2 ^ (64 - s) * (y % 2 ^ s) := by
  rw [shl_mod (show 64 - s ≤ 64 by omega), show 64 - (64 - s) = s by omega, Nat.or_comm, or_add, Nat.add_comm]
  rw [Nat.div_lt_iff_lt_mul (Nat.two_pow_pos s), ← Nat.pow_add, show 64 - s + s = 64 by omega]
  exact hx
theorem rsh_lt {f : Nat → Nat} {s i : Nat} (hs : s ≤ 64) (h : f i < 18446744073709551616) : rsh f s i < 18446744073709551616 := by
  have h1 : f i / 2 ^ s < 2 ^ (64 - s) := by
    rw [Nat.div_lt_iff_lt_mul (Nat.two_pow_pos s), ← Nat.pow_add, show 64 - s + s = 64 by omega]
    exact h
  have h2 := Nat.mod_lt (f (i + 1)) (Nat.two_pow_pos s)
  have h3 : 2 ^ (64 - s) * (f (i + 1) % 2 ^ s + 1) ≤ 2 ^ (64 - s) * 2 ^ s := Nat.mul_le_mul_left _ h2
  rw [← Nat.pow_add, show 64 - s + s = 64 by omega, Nat.mul_add] at h3
  unfold rsh
  omega
theorem rsh_sum (f : Nat → Nat) {s : Nat} (hs : s ≤ 64) (k : Nat) : 2 ^ s * sumL (rsh f s) k + f 0 % 2 ^ s = sumL f k + f k % 2 ^ s * bp k := by
  induction k with
  | zero => rw [sumL_zero, sumL_zero, bp_zero]; omega
  | succ k ih =>
    have e : 2 ^ s * 2 ^ (64 - s) = (18446744073709551616 : Nat) := by rw [← Nat.pow_add, show s + (64 - s) = 64 by omega]
    have h1 := Nat.div_add_mod (f k) (2 ^ s)
    rw [sumL_succ, sumL_succ, bp_succ]
    unfold rsh at *
    generalize f (k + 1) % 2 ^ s = t at *
    generalize f k / 2 ^ s = u at *
    generalize f k % 2 ^ s = v at *
    generalize f 0 % 2 ^ s = z at *
    generalize 2 ^ (64 - s) = q at *
    generalize 2 ^ s = p at *
    generalize sumL (fun i => _) k = S at *
    generalize sumL f k = F at *
    generalize bp k = b at *
    rw [← h1]
    grind
theorem rsh_num {f : Nat → Nat} {s : Nat} (hs : s ≤ 64) {n : Nat} (hf : ∀ i, i < n + 1 → f i < 18446744073709551616) : sumL (rsh f s) n = sumL f (n + 1) / 2 ^ s % bp n := by
  have h := rsh_sum f hs n
  have h1 := Nat.div_add_mod (f n) (2 ^ s)
  have h2 := Nat.mod_lt (f 0) (Nat.two_pow_pos s)
  have h3 := sumL_lt (f := rsh f s) (k := n) fun i hi => rsh_lt hs (hf i (by omega))
  have e : sumL f (n + 1) = f 0 % 2 ^ s + 2 ^ s * (sumL (rsh f s) n + f n / 2 ^ s * bp n) := by
    rw [sumL_succ]
    generalize f n / 2 ^ s = u at *
    generalize f n % 2 ^ s = v at *
    generalize f 0 % 2 ^ s = z at *
    generalize 2 ^ s = p at *
    rw [← h1]
    grind
  rw [e, Nat.add_mul_div_left _ _ (Nat.two_pow_pos s), Nat.div_eq_of_lt h2, Nat.zero_add, Nat.add_mul_mod_self_right, Nat.mod_eq_of_lt h3]
theorem undL : Tryz.prog.underlying 162 = some (.array 17 52) := by kernel_rfl
theorem infoL : (Tryz.prog.info? 162).map (·.size) = some 17 := by kernel_rfl
/-- The value of 17 limbs. -/
def longV (f : Nat → Nat) : Value := .agg (cells 17 f)
set_option maxHeartbeats 1000000 in
theorem right_any (f : Nat → Nat) (hf : ∀ i, i < 17 → f i < 18446744073709551616) (s : Nat) (hs : s < 64) (w : World) :
    Calls Tryz.prog 116 #[longV f, .int .u64 (s : Nat)] w fun e w' => e = .returned (wideV (sumL f 17 / 2 ^ s % bp 16)) ∧ Up w w' := by
  rw [← rsh_num (by omega) hf]
  have hrl : ∀ i, i < 16 → rsh f s i < 18446744073709551616 := fun i hi => rsh_lt (by omega) (hf i (by omega))
  rw [← wide_of hrl]
  unfold longV
  go_enter Tryz.func116, Tryz.ntmps116
  go_wp2
  go_loopw [7] (fun i wr => ∃ (k : Nat) (g : Nat → Nat), k ≤ 16 ∧ i = .int .i64 k ∧ (∀ i, i < k → g i = rsh f s i) ∧
      Row wr w.heap.size 162 17 f ∧ Row wr (w.heap.size + 1) 54 16 (fun _ => 0) ∧ Row wr (w.heap.size + 1 + 1) 54 16 g ∧ Below w.heap.size w wr)
    (fun i _ => 16 - (intOf i).toNat)
  case atStart => exact ⟨0, fun _ => 0, by omega, rfl, fun i h => by omega, row_alloc (row_alloc (row_newc _ 17 _ rfl)), (by (repeat (first | assumption | ((with_reducible apply row_newc); (focus (first | rfl | (simp; done)))) | ((with_reducible apply row_newz); (focus (first | rfl | (simp; done)))) | (with_reducible apply row_same) | ((with_reducible apply row_else); (focus (first | (simp; done) | (simp; omega) | omega))) | (with_reducible apply row_alloc) | (with_reducible apply row_drew) | (with_reducible apply row_drewN) | ((with_reducible apply row_up); assumption)))), (by (repeat (first | assumption | ((with_reducible apply row_newc); (focus (first | rfl | (simp; done)))) | ((with_reducible apply row_newz); (focus (first | rfl | (simp; done)))) | (with_reducible apply row_same) | ((with_reducible apply row_else); (focus (first | (simp; done) | (simp; omega) | omega))) | (with_reducible apply row_alloc) | (with_reducible apply row_drew) | (with_reducible apply row_drewN) | ((with_reducible apply row_up); assumption)))), (by repeat (first | assumption | (with_reducible apply Up.of) | (with_reducible exact Below.refl _ _) | (with_reducible exact Up.refl _) | ((with_reducible apply bl_setRow); (focus (first | exact Nat.le_refl _ | (simp; done) | (simp; omega) | omega))) | (with_reducible apply below_drewN) | (with_reducible apply Below.drew) | ((with_reducible apply bl_alloc); (focus (first | exact Nat.le_refl _ | (simp; done) | (simp; omega) | omega))) | ((with_reducible apply bl_setCell); (focus (first | exact Nat.le_refl _ | (simp; done) | (simp; omega) | omega))) | ((with_reducible apply up_tr); assumption)))⟩
  case round =>
    obtain ⟨k, g, hk, rfl, hg, hX, hR, hM, hB⟩ := hrel
    have Hg := hid hg
    have Hf := hid hf
    have Hrl := hid hrl
    clear hg hf hrl
    by_cases hlt : k < 16
    · have hcx := hX.cell k (by omega)
      have hcy := hX.cell (k + 1) (by omega)
      have hf1 := Hf.out k (by omega)
      have hf2 := Hf.out (k + 1) (by omega)
      have hq : f k / 2 ^ s < 18446744073709551616 := Nat.lt_of_le_of_lt (Nat.div_le_self _ _) hf1
      have HO : Hid (f k / 2 ^ s ||| f (k + 1) * 2 ^ (64 - s) % 18446744073709551616 = rsh f s k) := hid (rsh_or (y := f (k + 1)) (show s ≤ 64 by omega) hf1)
      have hk1 : (k : Int) < 17 := by omega
      have hk2 : (k : Int) + 1 < 17 := by omega
      have hk3 : (0 : Int) ≤ (k : Int) + 1 := by omega
      have E1 : Hid (IntKind.i64.wrap ((k : Int) + 1) = (k : Int) + 1) := hid (IntWalk.i64_in _ (by omega))
      have E2 : Hid (((k : Int) + 1).toNat = k + 1) := hid (by omega)
      go_wp2
      refine wp_region_upS (S := (fun wq => Row wq w.heap.size 162 17 f ∧ Row wq (w.heap.size + 1) 54 16 (fun _ => 0) ∧ Row wq (w.heap.size + 1 + 1) 54 16 g ∧ wq.cell? ⟨w.heap.size, k, none⟩ = some (.int .u64 (f k : Nat)) ∧ wq.cell? ⟨w.heap.size, k + 1, none⟩ = some (.int .u64 (f (k + 1) : Nat)) ∧ Below w.heap.size w wq)) (req := (fun j => j != 15)) (by kernel_rfl) (fun _ _ h hu => ⟨(h.1).up hu, (h.2.1).up hu, (h.2.2.1).up hu, hu.cell (h.2.2.2.1), hu.cell (h.2.2.2.2.1), below_up (h.2.2.2.2.2) hu⟩) ⟨(by (repeat (first | assumption | ((with_reducible apply row_newc); (focus (first | rfl | (simp; done)))) | ((with_reducible apply row_newz); (focus (first | rfl | (simp; done)))) | (with_reducible apply row_same) | ((with_reducible apply row_else); (focus (first | (simp; done) | (simp; omega) | omega))) | (with_reducible apply row_alloc) | (with_reducible apply row_drew) | (with_reducible apply row_drewN) | ((with_reducible apply row_up); assumption)))), (by (repeat (first | assumption | ((with_reducible apply row_newc); (focus (first | rfl | (simp; done)))) | ((with_reducible apply row_newz); (focus (first | rfl | (simp; done)))) | (with_reducible apply row_same) | ((with_reducible apply row_else); (focus (first | (simp; done) | (simp; omega) | omega))) | (with_reducible apply row_alloc) | (with_reducible apply row_drew) | (with_reducible apply row_drewN) | ((with_reducible apply row_up); assumption)))), (by (repeat (first | assumption | ((with_reducible apply row_newc); (focus (first | rfl | (simp; done)))) | ((with_reducible apply row_newz); (focus (first | rfl | (simp; done)))) | (with_reducible apply row_same) | ((with_reducible apply row_else); (focus (first | (simp; done) | (simp; omega) | omega))) | (with_reducible apply row_alloc) | (with_reducible apply row_drew) | (with_reducible apply row_drewN) | ((with_reducible apply row_up); assumption)))), (by first | assumption | (apply Blk.cell; (focus (repeat (first | assumption | ((with_reducible apply blk_new); (focus (first | rfl | (simp; done)))) | (with_reducible apply blk_alloc) | (with_reducible apply blk_drew) | (with_reducible apply blk_drewN) | ((with_reducible apply blk_up); assumption) | (with_reducible apply blk_same) | ((with_reducible apply blk_else); (focus (first | (simp; done) | (simp; omega) | omega)))))); exact rfl)), (by first | assumption | (apply Blk.cell; (focus (repeat (first | assumption | ((with_reducible apply blk_new); (focus (first | rfl | (simp; done)))) | (with_reducible apply blk_alloc) | (with_reducible apply blk_drew) | (with_reducible apply blk_drewN) | ((with_reducible apply blk_up); assumption) | (with_reducible apply blk_same) | ((with_reducible apply blk_else); (focus (first | (simp; done) | (simp; omega) | omega)))))); exact rfl)), (by repeat (first | assumption | (with_reducible apply Up.of) | (with_reducible exact Below.refl _ _) | (with_reducible exact Up.refl _) | ((with_reducible apply bl_setRow); (focus (first | exact Nat.le_refl _ | (simp; done) | (simp; omega) | omega))) | (with_reducible apply below_drewN) | (with_reducible apply Below.drew) | ((with_reducible apply bl_alloc); (focus (first | exact Nat.le_refl _ | (simp; done) | (simp; omega) | omega))) | ((with_reducible apply bl_setCell); (focus (first | exact Nat.le_refl _ | (simp; done) | (simp; omega) | omega))) | ((with_reducible apply up_tr); assumption)))⟩ (fun wS hSS => ?_)
      have ⟨hS1, hS2, hS3, hS4, hS5, hSB⟩ := hSS
      clear hcx hcy hX hR hM hB
      refine wpAnyU_pure (i := 0) (d := (some 10)) (v := ?_) rfl rfl (by kernel_rfl) (fun _ _ _ h => h) (fun _ _ h hu => ⟨(h.1).up hu, (h.2.1).up hu, (h.2.2.1).up hu, hu.cell (h.2.2.2.1), hu.cell (h.2.2.2.2.1), below_up (h.2.2.2.2.2) hu⟩) (Or.inl ⟨by rfl, fun w' _ => yu_value ?_⟩) ?_
      rotate_left
      · (go_simp; (try exact rfl))
      try simp only [Act.put, List.setIfInBounds_toArray, List.set_cons_zero, List.set_cons_succ]
      refine wpAnyU_pure (i := 1) (d := (some 11)) (v := ?_) rfl rfl (by kernel_rfl) (fun _ _ _ h => h) (fun _ _ h hu => ⟨(h.1).up hu, (h.2.1).up hu, (h.2.2.1).up hu, hu.cell (h.2.2.2.1), hu.cell (h.2.2.2.2.1), below_up (h.2.2.2.2.2) hu⟩) (Or.inl ⟨by rfl, fun w' _ => yu_value ?_⟩) ?_
      rotate_left
      · (go_simp; (try exact rfl))
      try simp only [Act.put, List.setIfInBounds_toArray, List.set_cons_zero, List.set_cons_succ]
      refine wpAnyU_pure (i := 2) (d := (some 12)) (v := ?_) rfl rfl (by kernel_rfl) (fun _ _ _ h => h) (fun _ _ h hu => ⟨(h.1).up hu, (h.2.1).up hu, (h.2.2.1).up hu, hu.cell (h.2.2.2.1), hu.cell (h.2.2.2.2.1), below_up (h.2.2.2.2.2) hu⟩) (Or.inl ⟨by rfl, fun w' _ => yu_value ?_⟩) ?_
      rotate_left
      · (go_simp; (try exact rfl))
      try simp only [Act.put, List.setIfInBounds_toArray, List.set_cons_zero, List.set_cons_succ]
      refine wpAnyU_take (i := 3) (d := (some 13)) (v := ?_) rfl rfl (by kernel_rfl) (fun _ _ _ h => h) (fun _ _ h hu => ⟨(h.1).up hu, (h.2.1).up hu, (h.2.2.1).up hu, hu.cell (h.2.2.2.1), hu.cell (h.2.2.2.2.1), below_up (h.2.2.2.2.2) hu⟩) hSS (Or.inl ⟨by rfl, fun w' hSw => yu_value ?_⟩) ?_
      rotate_left
      · ((try dsimp only at hSw); (try obtain ⟨_, _, _, _, _, _⟩ := hSw); go_simp; (try exact rfl))
      try simp only [Act.put, List.setIfInBounds_toArray, List.set_cons_zero, List.set_cons_succ]
      refine wpAnyU_pure (i := 4) (d := (some 14)) (v := ?_) rfl rfl (by kernel_rfl) (fun _ _ _ h => h) (fun _ _ h hu => ⟨(h.1).up hu, (h.2.1).up hu, (h.2.2.1).up hu, hu.cell (h.2.2.2.1), hu.cell (h.2.2.2.2.1), below_up (h.2.2.2.2.2) hu⟩) (Or.inl ⟨by rfl, fun w' _ => yu_value ?_⟩) ?_
      rotate_left
      · (go_simp; (try exact rfl))
      try simp only [Act.put, List.setIfInBounds_toArray, List.set_cons_zero, List.set_cons_succ]
      refine wpAnyU_take (i := 5) (d := (some 15)) (v := _) rfl rfl (by kernel_rfl) (fun _ _ _ h => h) (fun _ _ h hu => ⟨(h.1).up hu, (h.2.1).up hu, (h.2.2.1).up hu, hu.cell (h.2.2.2.1), hu.cell (h.2.2.2.2.1), below_up (h.2.2.2.2.2) hu⟩) hSS (Or.inl ⟨by rfl, fun w' hSw => yu_value (op_shr rfl rfl rfl (by omega) _)⟩) ?_
      try simp only [Act.put, List.setIfInBounds_toArray, List.set_cons_zero, List.set_cons_succ]
      refine wpAnyU_pure (i := 6) (d := (some 16)) (v := ?_) rfl rfl (by kernel_rfl) (fun _ _ _ h => h) (fun _ _ h hu => ⟨(h.1).up hu, (h.2.1).up hu, (h.2.2.1).up hu, hu.cell (h.2.2.2.1), hu.cell (h.2.2.2.2.1), below_up (h.2.2.2.2.2) hu⟩) (Or.inl ⟨by rfl, fun w' _ => yu_value ?_⟩) ?_
      rotate_left
      · (go_simp; (try exact rfl))
      try simp only [Act.put, List.setIfInBounds_toArray, List.set_cons_zero, List.set_cons_succ]
      refine wpAnyU_take (i := 7) (d := (some 17)) (v := ?_) rfl rfl (by kernel_rfl) (fun _ _ _ h => h) (fun _ _ h hu => ⟨(h.1).up hu, (h.2.1).up hu, (h.2.2.1).up hu, hu.cell (h.2.2.2.1), hu.cell (h.2.2.2.2.1), below_up (h.2.2.2.2.2) hu⟩) hSS (Or.inl ⟨by rfl, fun w' hSw => yu_value ?_⟩) ?_
      rotate_left
      · (have e1 := E1.out; go_simp; (try exact rfl))
      try simp only [Act.put, List.setIfInBounds_toArray, List.set_cons_zero, List.set_cons_succ]
      refine wpAnyU_take (i := 8) (d := (some 18)) (v := ?_) rfl rfl (by kernel_rfl) (fun _ _ _ h => h) (fun _ _ h hu => ⟨(h.1).up hu, (h.2.1).up hu, (h.2.2.1).up hu, hu.cell (h.2.2.2.1), hu.cell (h.2.2.2.2.1), below_up (h.2.2.2.2.2) hu⟩) hSS (Or.inl ⟨by rfl, fun w' hSw => yu_value ?_⟩) ?_
      rotate_left
      · (have e2 := E2.out; go_simp; (try exact rfl))
      try simp only [Act.put, List.setIfInBounds_toArray, List.set_cons_zero, List.set_cons_succ]
      refine wpAnyU_take (i := 9) (d := (some 19)) (v := ?_) rfl rfl (by kernel_rfl) (fun _ _ _ h => h) (fun _ _ h hu => ⟨(h.1).up hu, (h.2.1).up hu, (h.2.2.1).up hu, hu.cell (h.2.2.2.1), hu.cell (h.2.2.2.2.1), below_up (h.2.2.2.2.2) hu⟩) hSS (Or.inl ⟨by rfl, fun w' hSw => yu_value ?_⟩) ?_
      rotate_left
      · ((try dsimp only at hSw); (try obtain ⟨_, _, _, _, _, _⟩ := hSw); go_simp; (try exact rfl))
      try simp only [Act.put, List.setIfInBounds_toArray, List.set_cons_zero, List.set_cons_succ]
      refine wpAnyU_pure (i := 10) (d := (some 20)) (v := ?_) rfl rfl (by kernel_rfl) (fun _ _ _ h => h) (fun _ _ h hu => ⟨(h.1).up hu, (h.2.1).up hu, (h.2.2.1).up hu, hu.cell (h.2.2.2.1), hu.cell (h.2.2.2.2.1), below_up (h.2.2.2.2.2) hu⟩) (Or.inl ⟨by rfl, fun w' _ => yu_value ?_⟩) ?_
      rotate_left
      · (go_simp; (try exact rfl))
      try simp only [Act.put, List.setIfInBounds_toArray, List.set_cons_zero, List.set_cons_succ]
      refine wpAnyU_take (i := 11) (d := (some 21)) (v := _) rfl rfl (by kernel_rfl) (fun _ _ _ h => h) (fun _ _ h hu => ⟨(h.1).up hu, (h.2.1).up hu, (h.2.2.1).up hu, hu.cell (h.2.2.2.1), hu.cell (h.2.2.2.2.1), below_up (h.2.2.2.2.2) hu⟩) hSS (Or.inl ⟨by rfl, fun w' hSw => yu_value (op_sub (X := 64) rfl rfl rfl (by decide) (by omega) _)⟩) ?_
      try simp only [Act.put, List.setIfInBounds_toArray, List.set_cons_zero, List.set_cons_succ]
      refine wpAnyU_take (i := 12) (d := (some 22)) (v := _) rfl rfl (by kernel_rfl) (fun _ _ _ h => h) (fun _ _ h hu => ⟨(h.1).up hu, (h.2.1).up hu, (h.2.2.1).up hu, hu.cell (h.2.2.2.1), hu.cell (h.2.2.2.2.1), below_up (h.2.2.2.2.2) hu⟩) hSS (Or.inl ⟨by rfl, fun w' hSw => yu_value (op_shl rfl rfl rfl (by omega) _)⟩) ?_
      try simp only [Act.put, List.setIfInBounds_toArray, List.set_cons_zero, List.set_cons_succ]
      refine wpAnyU_take (i := 13) (d := (some 23)) (v := _) rfl rfl (by kernel_rfl) (fun _ _ _ h => h) (fun _ _ h hu => ⟨(h.1).up hu, (h.2.1).up hu, (h.2.2.1).up hu, hu.cell (h.2.2.2.1), hu.cell (h.2.2.2.2.1), below_up (h.2.2.2.2.2) hu⟩) hSS (Or.inl ⟨by rfl, fun w' hSw => yu_value (op_or rfl rfl rfl hq (Nat.mod_lt _ (by decide)) _)⟩) ?_
      try simp only [Act.put, List.setIfInBounds_toArray, List.set_cons_zero, List.set_cons_succ]
      rw [HO.out]
      refine wpAnyU_pure (i := 14) (d := (some 24)) (v := ?_) rfl rfl (by kernel_rfl) (fun _ _ _ h => h) (fun _ _ h hu => ⟨(h.1).up hu, (h.2.1).up hu, (h.2.2.1).up hu, hu.cell (h.2.2.2.1), hu.cell (h.2.2.2.2.1), below_up (h.2.2.2.2.2) hu⟩) (Or.inl ⟨by rfl, fun w' _ => yu_value ?_⟩) ?_
      rotate_left
      · (go_simp; (try exact rfl))
      try simp only [Act.put, List.setIfInBounds_toArray, List.set_cons_zero, List.set_cons_succ]
      refine wpAnyU_one (i := 15) rfl (by kernel_rfl) (by rfl) fun w1 hw1 => ?_
      have hcW := (hS3.up hw1).cell k (by omega)
      have hfW := (hS3.up hw1).frozen k
      go_simp
      clear hcW hfW
      refine wpAnyU_done (by kernel_rfl) (fun wF huE => ?_) _
      have hu := hw1
      have gX := (hS1.up hw1).other ⟨w.heap.size + 1 + 1, k, none⟩ (.int .u64 (rsh f s k : Nat)) (by simp; omega)
      have gR := (hS2.up hw1).other ⟨w.heap.size + 1 + 1, k, none⟩ (.int .u64 (rsh f s k : Nat)) (by simp)
      have gM := (hS3.up hw1).set k (rsh f s k)
      have gB := (below_up hSB hw1).setCell (p := ⟨w.heap.size + 1 + 1, k, none⟩) (by simp; omega) (.int .u64 (rsh f s k : Nat))
      replace gX := gX.up huE
      replace gR := gR.up huE
      replace gM := gM.up huE
      replace gB := below_up gB huE
      clear hS1 hS2 hS3 hS4 hS5 hSB hSS hw1 hu huE
      go_wp2
      go_roundw
      case rel =>
        refine ⟨k + 1, upd g k (rsh f s k), by omega, by go_num, fun i hi => ?_, gX, gR, gM, gB⟩
        by_cases e : i = k
        · rw [e, upd_same]
        · rw [upd_other _ _ _ e]; exact Hg.out i (by omega)
      case measure => simp [intOf] <;> omega
    · obtain rfl : k = 16 := by omega
      replace hM := hM.congr Hg.out
      go_wp2_with (first | ((with_reducible apply ld_rowP undW infoW); exact rfl; exact rfl; focus (repeat (first | assumption | ((with_reducible apply row_newc); (focus (first | rfl | (simp; done)))) | ((with_reducible apply row_newz); (focus (first | rfl | (simp; done)))) | (with_reducible apply row_same) | ((with_reducible apply row_else); (focus (first | (simp; done) | (simp; omega) | omega))) | (with_reducible apply row_alloc) | (with_reducible apply row_drew) | (with_reducible apply row_drewN) | ((with_reducible apply row_up); assumption)))) | ((with_reducible apply st_rowP infoW); exact rfl; exact rfl; focus (repeat (first | assumption | ((with_reducible apply row_newc); (focus (first | rfl | (simp; done)))) | ((with_reducible apply row_newz); (focus (first | rfl | (simp; done)))) | (with_reducible apply row_same) | ((with_reducible apply row_else); (focus (first | (simp; done) | (simp; omega) | omega))) | (with_reducible apply row_alloc) | (with_reducible apply row_drew) | (with_reducible apply row_drewN) | ((with_reducible apply row_up); assumption)))) | ((with_reducible apply st_rowZ infoW); exact rfl; exact rfl; focus (repeat (first | assumption | ((with_reducible apply row_newc); (focus (first | rfl | (simp; done)))) | ((with_reducible apply row_newz); (focus (first | rfl | (simp; done)))) | (with_reducible apply row_same) | ((with_reducible apply row_else); (focus (first | (simp; done) | (simp; omega) | omega))) | (with_reducible apply row_alloc) | (with_reducible apply row_drew) | (with_reducible apply row_drewN) | ((with_reducible apply row_up); assumption)))))
      exact bodyPost_ret (res1 rfl undW infoW _ _ rfl (by (repeat (first | assumption | ((with_reducible apply row_newc); (focus (first | rfl | (simp; done)))) | ((with_reducible apply row_newz); (focus (first | rfl | (simp; done)))) | (with_reducible apply row_same) | ((with_reducible apply row_else); (focus (first | (simp; done) | (simp; omega) | omega))) | (with_reducible apply row_alloc) | (with_reducible apply row_drew) | (with_reducible apply row_drewN) | ((with_reducible apply row_up); assumption))))) rfl ⟨rfl, (by repeat (first | assumption | (with_reducible apply Up.of) | (with_reducible exact Below.refl _ _) | (with_reducible exact Up.refl _) | ((with_reducible apply bl_setRow); (focus (first | exact Nat.le_refl _ | (simp; done) | (simp; omega) | omega))) | (with_reducible apply below_drewN) | (with_reducible apply Below.drew) | ((with_reducible apply bl_alloc); (focus (first | exact Nat.le_refl _ | (simp; done) | (simp; omega) | omega))) | ((with_reducible apply bl_setCell); (focus (first | exact Nat.le_refl _ | (simp; done) | (simp; omega) | omega))) | ((with_reducible apply up_tr); assumption)))⟩
theorem zeros17 : (#[.int .u64 0, .int .u64 0, .int .u64 0, .int .u64 0, .int .u64 0, .int .u64 0, .int .u64 0, .int .u64 0, .int .u64 0, .int .u64 0, .int .u64 0, .int .u64 0, .int .u64 0, .int .u64 0, .int .u64 0, .int .u64 0, .int .u64 0] : Array Value) = cells 17 (fun _ => 0) := by
  unfold cells; kernel_rfl
theorem row_newz17 {w : World} {b : Nat} (t : TypeId) (h : b = w.heap.size) : Row (w.alloc (.cells #[.int .u64 0, .int .u64 0, .int .u64 0, .int .u64 0, .int .u64 0, .int .u64 0, .int .u64 0, .int .u64 0, .int .u64 0, .int .u64 0, .int .u64 0, .int .u64 0, .int .u64 0, .int .u64 0, .int .u64 0, .int .u64 0, .int .u64 0] t)) b t 17 (fun _ => 0) :=
  row_new t 17 _ _ h zeros17
end Go.Proofs.YtdcpoamjmoceiaaGreatDoor
/-
  wide: products of amounts, limb by limb.
-/
namespace Go.Proofs.YtdcpoamjmoceiaaGreatDoor
open Go Go.RowKit
set_option maxRecDepth 100000

theorem sumL_upd (f : Nat → Nat) {k n : Nat} (v : Nat) (h : k < n) : sumL (upd f k v) n + f k * bp k = sumL f n + v * bp k := by
  induction n with
  | zero => omega
  | succ n ih =>
    rw [sumL_succ, sumL_succ]
    by_cases e : k = n
    · subst e
      rw [sumL_upd_above f (Nat.le_refl k), upd_same]
      omega
    · have := ih (by omega)
      rw [upd_other f k v (show n ≠ k by omega)]
      omega
theorem times_step {S P X sk yk r c c' b bi bk : Nat} {S' : Nat} (h : S + c * (bi * bk) = P + X * bi * b) (hu : S' + sk * (bi * bk) = S + r * (bi * bk)) (hr : r + c' * 18446744073709551616 = X * yk + sk + c) :
    S' + c' * (bi * bk * 18446744073709551616) = P + X * bi * (b + yk * bk) := by
  have h2 : (r + c' * 18446744073709551616) * (bi * bk) = (X * yk + sk + c) * (bi * bk) := by rw [hr]
  have h3 : S' + c' * (bi * bk * 18446744073709551616) + sk * (bi * bk) = P + X * bi * (b + yk * bk) + sk * (bi * bk) := by grind
  omega
theorem step_up (x y a b : Nat) (hx : x < 18446744073709551616) (hy : y < 18446744073709551616) (ha : a < 18446744073709551616) (hb' : b < 18446744073709551616) {r c : Nat} (hr : r = (x * y + a + b) % 18446744073709551616) (hc : c = (x * y + a + b) / 18446744073709551616) (w : World) :
    Calls Tryz.prog 115 #[.int .u64 x, .int .u64 y, .int .u64 a, .int .u64 b] w fun e w' => e = .returned (.tuple #[.int .u64 (r : Nat), .int .u64 (c : Nat)]) ∧ Up w w' := by
  refine (step_any x y a b hx hy ha hb' w).mono ?_
  rintro e w' ⟨rfl, rfl⟩
  exact ⟨by rw [hr, hc], Up.refl _⟩
theorem step_bound {x y a b r c : Nat} (hx : x < 18446744073709551616) (hy : y < 18446744073709551616) (ha : a < 18446744073709551616) (hb' : b < 18446744073709551616) (hr : r = (x * y + a + b) % 18446744073709551616) (hc : c = (x * y + a + b) / 18446744073709551616) :
    r < 18446744073709551616 ∧ c < 18446744073709551616 ∧ r + c * 18446744073709551616 = x * y + a + b := by
  have h1 : x * y ≤ 18446744073709551615 * 18446744073709551615 := Nat.mul_le_mul (by omega) (by omega)
  generalize x * y = p at *
  omega
theorem sumL_zeros (n : Nat) : sumL (fun _ => 0) n = 0 := by
  induction n with
  | zero => exact sumL_zero _
  | succ n ih => rw [sumL_succ, ih]; simp
/-- An amount's product, or nought and false. -/
def prodV (p : Nat) : Value := .tuple #[wideV (if p < bp 16 then p else 0), .bool (decide (p < bp 16))]
theorem limb_len (x : Nat) (hx : x < bp 16) : sumL (limb x) (lenL (limb x) 16) = x := by
  rw [lenL_sum, sumL_limb, Nat.mod_eq_of_lt hx]
theorem long_prod {x y : Nat} (hx : x < bp 16) (hy : y < bp 16) (h : 17 < lenL (limb x) 16 + lenL (limb y) 16) : ¬ x * y < bp 16 := by
  have h1 := lenL_le (limb x) 16
  have h2 := lenL_le (limb y) 16
  have h3 := bp_le_of_len (limb x) 16 (by omega)
  have h4 := bp_le_of_len (limb y) 16 (by omega)
  rw [sumL_limb, Nat.mod_eq_of_lt hx] at h3
  rw [sumL_limb, Nat.mod_eq_of_lt hy] at h4
  have h5 := Nat.mul_le_mul h3 h4
  rw [← bp_add] at h5
  have h6 := bp_mono (show 16 ≤ lenL (limb x) 16 - 1 + (lenL (limb y) 16 - 1) by omega)
  omega
theorem zeroW : wideV 0 = .agg (cells 16 (fun _ => 0)) := by
  unfold wideV
  rw [zero_limb, enc_zero]
set_option maxHeartbeats 2000000 in
theorem times_any (x y : Nat) (hx : x < bp 16) (hy : y < bp 16) (w : World) :
    Calls Tryz.prog 98 #[wideV x, wideV y] w fun e w' => e = .returned (prodV (x * y)) ∧ Up w w' := by
  have HLX := hid (length_any x)
  have HLY := hid (length_any y)
  have hlx := lenL_le (limb x) 16
  have hly := lenL_le (limb y) 16
  have HSX := hid (limb_len x hx)
  have HSY := hid (limb_len y hy)
  by_cases hnm : 17 < lenL (limb x) 16 + lenL (limb y) 16
  · have e : prodV (x * y) = .tuple #[.agg (cells 16 (fun _ => 0)), .bool false] := by
      have h := long_prod hx hy hnm
      unfold prodV
      rw [if_neg h, decide_eq_false h, zeroW]
    rw [e]
    clear e HSX HSY
    generalize lenL (limb x) 16 = n at *
    generalize lenL (limb y) 16 = m at *
    unfold wideV at *
    go_enter Tryz.func98, Tryz.ntmps98
    go_wp2
    refine wp_region_upS (S := (fun wq => Row wq w.heap.size 54 16 (limb x) ∧ Row wq (w.heap.size + 1) 54 16 (limb y) ∧ Row wq (w.heap.size + 1 + 1) 54 16 (fun _ => 0) ∧ Below w.heap.size w wq)) (req := (fun _ => true)) (by kernel_rfl) (fun _ _ h hu => ⟨(h.1).up hu, (h.2.1).up hu, (h.2.2.1).up hu, below_up (h.2.2.2) hu⟩) ⟨(by (repeat (first | assumption | ((with_reducible apply row_newc); (focus (first | rfl | (simp; done)))) | ((with_reducible apply row_newz); (focus (first | rfl | (simp; done)))) | (with_reducible apply row_same) | ((with_reducible apply row_else); (focus (first | (simp; done) | (simp; omega) | omega))) | (with_reducible apply row_alloc) | (with_reducible apply row_drew) | (with_reducible apply row_drewN) | ((with_reducible apply row_up); assumption)))), (by (repeat (first | assumption | ((with_reducible apply row_newc); (focus (first | rfl | (simp; done)))) | ((with_reducible apply row_newz); (focus (first | rfl | (simp; done)))) | (with_reducible apply row_same) | ((with_reducible apply row_else); (focus (first | (simp; done) | (simp; omega) | omega))) | (with_reducible apply row_alloc) | (with_reducible apply row_drew) | (with_reducible apply row_drewN) | ((with_reducible apply row_up); assumption)))), (by (repeat (first | assumption | ((with_reducible apply row_newc); (focus (first | rfl | (simp; done)))) | ((with_reducible apply row_newz); (focus (first | rfl | (simp; done)))) | (with_reducible apply row_same) | ((with_reducible apply row_else); (focus (first | (simp; done) | (simp; omega) | omega))) | (with_reducible apply row_alloc) | (with_reducible apply row_drew) | (with_reducible apply row_drewN) | ((with_reducible apply row_up); assumption)))), (by repeat (first | assumption | (with_reducible apply Up.of) | (with_reducible exact Below.refl _ _) | (with_reducible exact Up.refl _) | ((with_reducible apply bl_setRow); (focus (first | exact Nat.le_refl _ | (simp; done) | (simp; omega) | omega))) | (with_reducible apply below_drewN) | (with_reducible apply Below.drew) | ((with_reducible apply bl_alloc); (focus (first | exact Nat.le_refl _ | (simp; done) | (simp; omega) | omega))) | ((with_reducible apply bl_setCell); (focus (first | exact Nat.le_refl _ | (simp; done) | (simp; omega) | omega))) | ((with_reducible apply up_tr); assumption)))⟩ (fun wS hSS => ?_)
    have ⟨hS1, hS2, hS3, hSB⟩ := hSS
    refine wpAnyU_take (i := 0) (d := (some 12)) (v := _) rfl rfl (by kernel_rfl) (fun _ _ _ h => h) (fun _ _ h hu => ⟨(h.1).up hu, (h.2.1).up hu, (h.2.2.1).up hu, below_up (h.2.2.2) hu⟩) hSS (Or.inl ⟨by rfl, fun w' hSw => yu_value (run_ld undW infoW _ rfl _ rfl hSw.1)⟩) ?_
    try simp only [Act.put, List.setIfInBounds_toArray, List.set_cons_zero, List.set_cons_succ]
    refine wpAnyU_take (i := 1) (d := (some 13)) (v := _) rfl rfl (by kernel_rfl) (fun _ _ _ h => h) (fun _ _ h hu => ⟨(h.1).up hu, (h.2.1).up hu, (h.2.2.1).up hu, below_up (h.2.2.2) hu⟩) hSS (Or.inl ⟨by rfl, fun w' hSw => yu_call ?_ (HLX.out _)⟩) ?_
    · go_simp
    try simp only [Act.put, List.setIfInBounds_toArray, List.set_cons_zero, List.set_cons_succ]
    refine wpAnyU_take (i := 2) (d := (some 14)) (v := _) rfl rfl (by kernel_rfl) (fun _ _ _ h => h) (fun _ _ h hu => ⟨(h.1).up hu, (h.2.1).up hu, (h.2.2.1).up hu, below_up (h.2.2.2) hu⟩) hSS (Or.inl ⟨by rfl, fun w' hSw => yu_value (run_ld undW infoW _ rfl _ rfl hSw.2.1)⟩) ?_
    try simp only [Act.put, List.setIfInBounds_toArray, List.set_cons_zero, List.set_cons_succ]
    refine wpAnyU_take (i := 3) (d := (some 15)) (v := _) rfl rfl (by kernel_rfl) (fun _ _ _ h => h) (fun _ _ h hu => ⟨(h.1).up hu, (h.2.1).up hu, (h.2.2.1).up hu, below_up (h.2.2.2) hu⟩) hSS (Or.inl ⟨by rfl, fun w' hSw => yu_call ?_ (HLY.out _)⟩) ?_
    · go_simp
    try simp only [Act.put, List.setIfInBounds_toArray, List.set_cons_zero, List.set_cons_succ]
    refine wpAnyU_pure (i := 4) (d := (some 6)) (v := ?_) rfl rfl (by kernel_rfl) (fun _ _ _ h => h) (fun _ _ h hu => ⟨(h.1).up hu, (h.2.1).up hu, (h.2.2.1).up hu, below_up (h.2.2.2) hu⟩) (Or.inl ⟨by rfl, fun w' _ => yu_value ?_⟩) ?_
    rotate_left
    · (go_simp; (try exact rfl))
    try simp only [Act.put, List.setIfInBounds_toArray, List.set_cons_zero, List.set_cons_succ]
    refine wpAnyU_pure (i := 5) (d := (some 7)) (v := ?_) rfl rfl (by kernel_rfl) (fun _ _ _ h => h) (fun _ _ h hu => ⟨(h.1).up hu, (h.2.1).up hu, (h.2.2.1).up hu, below_up (h.2.2.2) hu⟩) (Or.inl ⟨by rfl, fun w' _ => yu_value ?_⟩) ?_
    rotate_left
    · (go_simp; (try exact rfl))
    try simp only [Act.put, List.setIfInBounds_toArray, List.set_cons_zero, List.set_cons_succ]
    refine wpAnyU_done (by kernel_rfl) (fun wE huE => ?_) _
    have ⟨hS1, hS2, hS3, hSB⟩ := ((fun _ _ h hu => ⟨(h.1).up hu, (h.2.1).up hu, (h.2.2.1).up hu, below_up (h.2.2.2) hu⟩) : ∀ w1 w2 : World, (fun wq => Row wq w.heap.size 54 16 (limb x) ∧ Row wq (w.heap.size + 1) 54 16 (limb y) ∧ Row wq (w.heap.size + 1 + 1) 54 16 (fun _ => 0) ∧ Below w.heap.size w wq) w1 → Up w1 w2 → (fun wq => Row wq w.heap.size 54 16 (limb x) ∧ Row wq (w.heap.size + 1) 54 16 (limb y) ∧ Row wq (w.heap.size + 1 + 1) 54 16 (fun _ => 0) ∧ Below w.heap.size w wq) w2) _ _ hSS huE
    clear huE hSS
    go_wp2_with (first | ((with_reducible apply ld_rowP undW infoW); exact rfl; exact rfl; focus (repeat (first | assumption | ((with_reducible apply row_newc); (focus (first | rfl | (simp; done)))) | ((with_reducible apply row_newz); (focus (first | rfl | (simp; done)))) | (with_reducible apply row_same) | ((with_reducible apply row_else); (focus (first | (simp; done) | (simp; omega) | omega))) | (with_reducible apply row_alloc) | (with_reducible apply row_drew) | (with_reducible apply row_drewN) | ((with_reducible apply row_up); assumption)))) | ((with_reducible apply st_rowP infoW); exact rfl; exact rfl; focus (repeat (first | assumption | ((with_reducible apply row_newc); (focus (first | rfl | (simp; done)))) | ((with_reducible apply row_newz); (focus (first | rfl | (simp; done)))) | (with_reducible apply row_same) | ((with_reducible apply row_else); (focus (first | (simp; done) | (simp; omega) | omega))) | (with_reducible apply row_alloc) | (with_reducible apply row_drew) | (with_reducible apply row_drewN) | ((with_reducible apply row_up); assumption)))) | ((with_reducible apply st_rowZ infoW); exact rfl; exact rfl; focus (repeat (first | assumption | ((with_reducible apply row_newc); (focus (first | rfl | (simp; done)))) | ((with_reducible apply row_newz); (focus (first | rfl | (simp; done)))) | (with_reducible apply row_same) | ((with_reducible apply row_else); (focus (first | (simp; done) | (simp; omega) | omega))) | (with_reducible apply row_alloc) | (with_reducible apply row_drew) | (with_reducible apply row_drewN) | ((with_reducible apply row_up); assumption)))))
    exact bodyPost_ret (res2 rfl undW infoW _ _ rfl (by (repeat (first | assumption | ((with_reducible apply row_newc); (focus (first | rfl | (simp; done)))) | ((with_reducible apply row_newz); (focus (first | rfl | (simp; done)))) | (with_reducible apply row_same) | ((with_reducible apply row_else); (focus (first | (simp; done) | (simp; omega) | omega))) | (with_reducible apply row_alloc) | (with_reducible apply row_drew) | (with_reducible apply row_drewN) | ((with_reducible apply row_up); assumption))))) rfl ⟨rfl, (by repeat (first | assumption | (with_reducible apply Up.of) | (with_reducible exact Below.refl _ _) | (with_reducible exact Up.refl _) | ((with_reducible apply bl_setRow); (focus (first | exact Nat.le_refl _ | (simp; done) | (simp; omega) | omega))) | (with_reducible apply below_drewN) | (with_reducible apply Below.drew) | ((with_reducible apply bl_alloc); (focus (first | exact Nat.le_refl _ | (simp; done) | (simp; omega) | omega))) | ((with_reducible apply bl_setCell); (focus (first | exact Nat.le_refl _ | (simp; done) | (simp; omega) | omega))) | ((with_reducible apply up_tr); assumption)))⟩
  · generalize lenL (limb x) 16 = n at *
    generalize lenL (limb y) 16 = m at *
    have hlb := bp16
    have h19 : decide (17 < (n : Int) + (m : Int)) = false := decide_eq_false (by omega)
    unfold wideV at *
    go_enter Tryz.func98, Tryz.ntmps98
    go_wp2
    refine wp_region_upS (S := (fun wq => Row wq w.heap.size 54 16 (limb x) ∧ Row wq (w.heap.size + 1) 54 16 (limb y) ∧ Row wq (w.heap.size + 1 + 1) 54 16 (fun _ => 0) ∧ Below w.heap.size w wq)) (req := (fun _ => true)) (by kernel_rfl) (fun _ _ h hu => ⟨(h.1).up hu, (h.2.1).up hu, (h.2.2.1).up hu, below_up (h.2.2.2) hu⟩) ⟨(by (repeat (first | assumption | ((with_reducible apply row_newc); (focus (first | rfl | (simp; done)))) | ((with_reducible apply row_newz); (focus (first | rfl | (simp; done)))) | (with_reducible apply row_same) | ((with_reducible apply row_else); (focus (first | (simp; done) | (simp; omega) | omega))) | (with_reducible apply row_alloc) | (with_reducible apply row_drew) | (with_reducible apply row_drewN) | ((with_reducible apply row_up); assumption)))), (by (repeat (first | assumption | ((with_reducible apply row_newc); (focus (first | rfl | (simp; done)))) | ((with_reducible apply row_newz); (focus (first | rfl | (simp; done)))) | (with_reducible apply row_same) | ((with_reducible apply row_else); (focus (first | (simp; done) | (simp; omega) | omega))) | (with_reducible apply row_alloc) | (with_reducible apply row_drew) | (with_reducible apply row_drewN) | ((with_reducible apply row_up); assumption)))), (by (repeat (first | assumption | ((with_reducible apply row_newc); (focus (first | rfl | (simp; done)))) | ((with_reducible apply row_newz); (focus (first | rfl | (simp; done)))) | (with_reducible apply row_same) | ((with_reducible apply row_else); (focus (first | (simp; done) | (simp; omega) | omega))) | (with_reducible apply row_alloc) | (with_reducible apply row_drew) | (with_reducible apply row_drewN) | ((with_reducible apply row_up); assumption)))), (by repeat (first | assumption | (with_reducible apply Up.of) | (with_reducible exact Below.refl _ _) | (with_reducible exact Up.refl _) | ((with_reducible apply bl_setRow); (focus (first | exact Nat.le_refl _ | (simp; done) | (simp; omega) | omega))) | (with_reducible apply below_drewN) | (with_reducible apply Below.drew) | ((with_reducible apply bl_alloc); (focus (first | exact Nat.le_refl _ | (simp; done) | (simp; omega) | omega))) | ((with_reducible apply bl_setCell); (focus (first | exact Nat.le_refl _ | (simp; done) | (simp; omega) | omega))) | ((with_reducible apply up_tr); assumption)))⟩ (fun wS hSS => ?_)
    have ⟨hS1, hS2, hS3, hSB⟩ := hSS
    refine wpAnyU_take (i := 0) (d := (some 12)) (v := _) rfl rfl (by kernel_rfl) (fun _ _ _ h => h) (fun _ _ h hu => ⟨(h.1).up hu, (h.2.1).up hu, (h.2.2.1).up hu, below_up (h.2.2.2) hu⟩) hSS (Or.inl ⟨by rfl, fun w' hSw => yu_value (run_ld undW infoW _ rfl _ rfl hSw.1)⟩) ?_
    try simp only [Act.put, List.setIfInBounds_toArray, List.set_cons_zero, List.set_cons_succ]
    refine wpAnyU_take (i := 1) (d := (some 13)) (v := _) rfl rfl (by kernel_rfl) (fun _ _ _ h => h) (fun _ _ h hu => ⟨(h.1).up hu, (h.2.1).up hu, (h.2.2.1).up hu, below_up (h.2.2.2) hu⟩) hSS (Or.inl ⟨by rfl, fun w' hSw => yu_call ?_ (HLX.out _)⟩) ?_
    · go_simp
    try simp only [Act.put, List.setIfInBounds_toArray, List.set_cons_zero, List.set_cons_succ]
    refine wpAnyU_take (i := 2) (d := (some 14)) (v := _) rfl rfl (by kernel_rfl) (fun _ _ _ h => h) (fun _ _ h hu => ⟨(h.1).up hu, (h.2.1).up hu, (h.2.2.1).up hu, below_up (h.2.2.2) hu⟩) hSS (Or.inl ⟨by rfl, fun w' hSw => yu_value (run_ld undW infoW _ rfl _ rfl hSw.2.1)⟩) ?_
    try simp only [Act.put, List.setIfInBounds_toArray, List.set_cons_zero, List.set_cons_succ]
    refine wpAnyU_take (i := 3) (d := (some 15)) (v := _) rfl rfl (by kernel_rfl) (fun _ _ _ h => h) (fun _ _ h hu => ⟨(h.1).up hu, (h.2.1).up hu, (h.2.2.1).up hu, below_up (h.2.2.2) hu⟩) hSS (Or.inl ⟨by rfl, fun w' hSw => yu_call ?_ (HLY.out _)⟩) ?_
    · go_simp
    try simp only [Act.put, List.setIfInBounds_toArray, List.set_cons_zero, List.set_cons_succ]
    refine wpAnyU_pure (i := 4) (d := (some 6)) (v := ?_) rfl rfl (by kernel_rfl) (fun _ _ _ h => h) (fun _ _ h hu => ⟨(h.1).up hu, (h.2.1).up hu, (h.2.2.1).up hu, below_up (h.2.2.2) hu⟩) (Or.inl ⟨by rfl, fun w' _ => yu_value ?_⟩) ?_
    rotate_left
    · (go_simp; (try exact rfl))
    try simp only [Act.put, List.setIfInBounds_toArray, List.set_cons_zero, List.set_cons_succ]
    refine wpAnyU_pure (i := 5) (d := (some 7)) (v := ?_) rfl rfl (by kernel_rfl) (fun _ _ _ h => h) (fun _ _ h hu => ⟨(h.1).up hu, (h.2.1).up hu, (h.2.2.1).up hu, below_up (h.2.2.2) hu⟩) (Or.inl ⟨by rfl, fun w' _ => yu_value ?_⟩) ?_
    rotate_left
    · (go_simp; (try exact rfl))
    try simp only [Act.put, List.setIfInBounds_toArray, List.set_cons_zero, List.set_cons_succ]
    refine wpAnyU_done (by kernel_rfl) (fun wE huE => ?_) _
    have ⟨hS1, hS2, hS3, hSB⟩ := ((fun _ _ h hu => ⟨(h.1).up hu, (h.2.1).up hu, (h.2.2.1).up hu, below_up (h.2.2.2) hu⟩) : ∀ w1 w2 : World, (fun wq => Row wq w.heap.size 54 16 (limb x) ∧ Row wq (w.heap.size + 1) 54 16 (limb y) ∧ Row wq (w.heap.size + 1 + 1) 54 16 (fun _ => 0) ∧ Below w.heap.size w wq) w1 → Up w1 w2 → (fun wq => Row wq w.heap.size 54 16 (limb x) ∧ Row wq (w.heap.size + 1) 54 16 (limb y) ∧ Row wq (w.heap.size + 1 + 1) 54 16 (fun _ => 0) ∧ Below w.heap.size w wq) w2) _ _ hSS huE
    clear huE hSS
    have hsz := hS3.lt
    go_wp2_with (first | ((with_reducible apply ld_rowP undW infoW); exact rfl; exact rfl; focus (repeat (first | assumption | ((with_reducible apply row_newc); (focus (first | rfl | (simp; done)))) | ((with_reducible apply row_newz); (focus (first | rfl | (simp; done)))) | (with_reducible apply row_same) | ((with_reducible apply row_else); (focus (first | (simp; done) | (simp; omega) | omega))) | (with_reducible apply row_alloc) | (with_reducible apply row_drew) | (with_reducible apply row_drewN) | ((with_reducible apply row_up); assumption)))) | ((with_reducible apply st_rowP infoW); exact rfl; exact rfl; focus (repeat (first | assumption | ((with_reducible apply row_newc); (focus (first | rfl | (simp; done)))) | ((with_reducible apply row_newz); (focus (first | rfl | (simp; done)))) | (with_reducible apply row_same) | ((with_reducible apply row_else); (focus (first | (simp; done) | (simp; omega) | omega))) | (with_reducible apply row_alloc) | (with_reducible apply row_drew) | (with_reducible apply row_drewN) | ((with_reducible apply row_up); assumption)))) | ((with_reducible apply st_rowZ infoW); exact rfl; exact rfl; focus (repeat (first | assumption | ((with_reducible apply row_newc); (focus (first | rfl | (simp; done)))) | ((with_reducible apply row_newz); (focus (first | rfl | (simp; done)))) | (with_reducible apply row_same) | ((with_reducible apply row_else); (focus (first | (simp; done) | (simp; omega) | omega))) | (with_reducible apply row_alloc) | (with_reducible apply row_drew) | (with_reducible apply row_drewN) | ((with_reducible apply row_up); assumption)))))
    go_loopw [22] (fun t wr => ∃ (i : Nat) (S : Nat → Nat), i ≤ n ∧ t = .int .i64 i ∧ (∀ j, j < 17 → S j < 18446744073709551616) ∧ sumL S 17 = sumL (limb x) i * sumL (limb y) m ∧ (∀ j, i + m ≤ j → j < 17 → S j = 0) ∧
        Row wr w.heap.size 54 16 (limb x) ∧ Row wr (w.heap.size + 1) 54 16 (limb y) ∧ Row wr (w.heap.size + 1 + 1) 54 16 (fun _ => 0) ∧ Row wr wE.heap.size 162 17 S ∧ Below w.heap.size w wr)
      (fun t _ => n - (intOf t).toNat)
    case atStart => exact ⟨0, fun _ => 0, by omega, rfl, fun i h => by simp, by rw [sumL_zero, Nat.zero_mul]; exact sumL_zeros 17, fun _ _ _ => rfl, (by (repeat (first | assumption | ((with_reducible apply row_newc); (focus (first | rfl | (simp; done)))) | ((with_reducible apply row_newz); (focus (first | rfl | (simp; done)))) | (with_reducible apply row_same) | ((with_reducible apply row_else); (focus (first | (simp; done) | (simp; omega) | omega))) | (with_reducible apply row_alloc) | (with_reducible apply row_drew) | (with_reducible apply row_drewN) | ((with_reducible apply row_up); assumption)))), (by (repeat (first | assumption | ((with_reducible apply row_newc); (focus (first | rfl | (simp; done)))) | ((with_reducible apply row_newz); (focus (first | rfl | (simp; done)))) | (with_reducible apply row_same) | ((with_reducible apply row_else); (focus (first | (simp; done) | (simp; omega) | omega))) | (with_reducible apply row_alloc) | (with_reducible apply row_drew) | (with_reducible apply row_drewN) | ((with_reducible apply row_up); assumption)))), (by (repeat (first | assumption | ((with_reducible apply row_newc); (focus (first | rfl | (simp; done)))) | ((with_reducible apply row_newz); (focus (first | rfl | (simp; done)))) | (with_reducible apply row_same) | ((with_reducible apply row_else); (focus (first | (simp; done) | (simp; omega) | omega))) | (with_reducible apply row_alloc) | (with_reducible apply row_drew) | (with_reducible apply row_drewN) | ((with_reducible apply row_up); assumption)))), row_newz17 _ rfl, bl_alloc (by omega) hSB⟩
    case round =>
      obtain ⟨i, S, hi, rfl, hSb, hsum, hz, hX, hY, hR, hM, hB⟩ := hrel
      have HSb := hid hSb
      have Hsum := hid hsum
      have Hz := hid hz
      clear hSb hsum hz hS1 hS2 hS3 hSB
      obtain ⟨wo, rfl⟩ : ∃ wo : World, wo = wr := ⟨_, rfl⟩
      by_cases hlt : i < n
      · have hi16 : (i : Int) < 16 := by omega
        go_wp2
        go_loopw [10, 26] (fun tc t wi => ∃ (k c : Nat) (S' : Nat → Nat), k ≤ m ∧ t = .int .i64 k ∧ tc = .int .u64 c ∧ c < 18446744073709551616 ∧ (∀ j, j < 17 → S' j < 18446744073709551616) ∧
            sumL S' 17 + c * (bp i * bp k) = sumL (limb x) i * sumL (limb y) m + limb x i * bp i * sumL (limb y) k ∧ (∀ j, i + m ≤ j → j < 17 → S' j = 0) ∧
            Row wi w.heap.size 54 16 (limb x) ∧ Row wi (w.heap.size + 1) 54 16 (limb y) ∧ Row wi (w.heap.size + 1 + 1) 54 16 (fun _ => 0) ∧ Row wi wE.heap.size 162 17 S' ∧ Below w.heap.size w wi)
          (fun _ t _ => m - (intOf t).toNat)
        case atStart => exact ⟨0, 0, S, by omega, rfl, rfl, by omega, HSb.out, by rw [sumL_zero, Hsum.out]; omega, Hz.out, hX, hY, hR, hM, hB⟩
        case round =>
          clear hX hY hR hM hB HSb Hsum Hz
          obtain ⟨k, c, S', hk, rfl, rfl, hc, hSb, hsum, hz, hX, hY, hR, hM, hB⟩ := hrel
          have HSb := hid hSb
          have Hsum := hid hsum
          have Hz := hid hz
          clear hSb hsum hz
          by_cases hkt : k < m
          · obtain ⟨r, er⟩ : ∃ r, r = (limb x i * limb y k + S' (i + k) + c) % 18446744073709551616 := ⟨_, rfl⟩
            obtain ⟨c', ec⟩ : ∃ c', c' = (limb x i * limb y k + S' (i + k) + c) / 18446744073709551616 := ⟨_, rfl⟩
            have hlx' := limb_lt x i
            have hly' := limb_lt y k
            have hsk := HSb.out (i + k) (by omega)
            have HC := hid (fun w => step_up _ _ _ _ hlx' hly' hsk hc er ec w)
            obtain ⟨hr, hc', hrc⟩ := step_bound hlx' hly' hsk hc er ec
            have Hrc := hid hrc
            clear er ec hrc
            have hk16 : (k : Int) < 16 := by omega
            have hik : (i : Int) + (k : Int) < 17 := by omega
            have hik0 : (0 : Int) ≤ (i : Int) + (k : Int) := by omega
            have E1 : Hid (IntKind.i64.wrap ((i : Int) + (k : Int)) = (i : Int) + (k : Int)) := hid (IntWalk.i64_in _ (by omega))
            have E2 : Hid (((i : Int) + (k : Int)).toNat = i + k) := hid (by omega)
            have hcx := hX.cell i (by omega)
            have hcy := hY.cell k (by omega)
            have hcs := hM.cell (i + k) (by omega)
            go_wp2
            refine wp_region_upS (S := (fun wq => Row wq w.heap.size 54 16 (limb x) ∧ Row wq (w.heap.size + 1) 54 16 (limb y) ∧ Row wq (w.heap.size + 1 + 1) 54 16 (fun _ => 0) ∧ Row wq wE.heap.size 162 17 S' ∧ wq.cell? ⟨w.heap.size, i, none⟩ = some (.int .u64 (limb x i : Nat)) ∧ wq.cell? ⟨w.heap.size + 1, k, none⟩ = some (.int .u64 (limb y k : Nat)) ∧ wq.cell? ⟨wE.heap.size, i + k, none⟩ = some (.int .u64 (S' (i + k) : Nat)) ∧ Below w.heap.size w wq)) (req := (fun j => j != 20)) (by kernel_rfl) (fun _ _ h hu => ⟨(h.1).up hu, (h.2.1).up hu, (h.2.2.1).up hu, (h.2.2.2.1).up hu, hu.cell (h.2.2.2.2.1), hu.cell (h.2.2.2.2.2.1), hu.cell (h.2.2.2.2.2.2.1), below_up (h.2.2.2.2.2.2.2) hu⟩) ⟨(by (repeat (first | assumption | ((with_reducible apply row_newc); (focus (first | rfl | (simp; done)))) | ((with_reducible apply row_newz); (focus (first | rfl | (simp; done)))) | (with_reducible apply row_same) | ((with_reducible apply row_else); (focus (first | (simp; done) | (simp; omega) | omega))) | (with_reducible apply row_alloc) | (with_reducible apply row_drew) | (with_reducible apply row_drewN) | ((with_reducible apply row_up); assumption)))), (by (repeat (first | assumption | ((with_reducible apply row_newc); (focus (first | rfl | (simp; done)))) | ((with_reducible apply row_newz); (focus (first | rfl | (simp; done)))) | (with_reducible apply row_same) | ((with_reducible apply row_else); (focus (first | (simp; done) | (simp; omega) | omega))) | (with_reducible apply row_alloc) | (with_reducible apply row_drew) | (with_reducible apply row_drewN) | ((with_reducible apply row_up); assumption)))), (by (repeat (first | assumption | ((with_reducible apply row_newc); (focus (first | rfl | (simp; done)))) | ((with_reducible apply row_newz); (focus (first | rfl | (simp; done)))) | (with_reducible apply row_same) | ((with_reducible apply row_else); (focus (first | (simp; done) | (simp; omega) | omega))) | (with_reducible apply row_alloc) | (with_reducible apply row_drew) | (with_reducible apply row_drewN) | ((with_reducible apply row_up); assumption)))), (by (repeat (first | assumption | ((with_reducible apply row_newc); (focus (first | rfl | (simp; done)))) | ((with_reducible apply row_newz); (focus (first | rfl | (simp; done)))) | (with_reducible apply row_same) | ((with_reducible apply row_else); (focus (first | (simp; done) | (simp; omega) | omega))) | (with_reducible apply row_alloc) | (with_reducible apply row_drew) | (with_reducible apply row_drewN) | ((with_reducible apply row_up); assumption)))), (by first | assumption | (apply Blk.cell; (focus (repeat (first | assumption | ((with_reducible apply blk_new); (focus (first | rfl | (simp; done)))) | (with_reducible apply blk_alloc) | (with_reducible apply blk_drew) | (with_reducible apply blk_drewN) | ((with_reducible apply blk_up); assumption) | (with_reducible apply blk_same) | ((with_reducible apply blk_else); (focus (first | (simp; done) | (simp; omega) | omega)))))); exact rfl)), (by first | assumption | (apply Blk.cell; (focus (repeat (first | assumption | ((with_reducible apply blk_new); (focus (first | rfl | (simp; done)))) | (with_reducible apply blk_alloc) | (with_reducible apply blk_drew) | (with_reducible apply blk_drewN) | ((with_reducible apply blk_up); assumption) | (with_reducible apply blk_same) | ((with_reducible apply blk_else); (focus (first | (simp; done) | (simp; omega) | omega)))))); exact rfl)), (by first | assumption | (apply Blk.cell; (focus (repeat (first | assumption | ((with_reducible apply blk_new); (focus (first | rfl | (simp; done)))) | (with_reducible apply blk_alloc) | (with_reducible apply blk_drew) | (with_reducible apply blk_drewN) | ((with_reducible apply blk_up); assumption) | (with_reducible apply blk_same) | ((with_reducible apply blk_else); (focus (first | (simp; done) | (simp; omega) | omega)))))); exact rfl)), (by repeat (first | assumption | (with_reducible apply Up.of) | (with_reducible exact Below.refl _ _) | (with_reducible exact Up.refl _) | ((with_reducible apply bl_setRow); (focus (first | exact Nat.le_refl _ | (simp; done) | (simp; omega) | omega))) | (with_reducible apply below_drewN) | (with_reducible apply Below.drew) | ((with_reducible apply bl_alloc); (focus (first | exact Nat.le_refl _ | (simp; done) | (simp; omega) | omega))) | ((with_reducible apply bl_setCell); (focus (first | exact Nat.le_refl _ | (simp; done) | (simp; omega) | omega))) | ((with_reducible apply up_tr); assumption)))⟩ (fun wS hSS => ?_)
            have ⟨hS1, hS2, hS3, hS4, hS5, hS6, hS7, hSB⟩ := hSS
            clear hcx hcy hcs hX hY hR hM hB
            refine wpAnyU_pure (i := 0) (d := (some 30)) (v := ?_) rfl rfl (by kernel_rfl) (fun _ _ _ h => h) (fun _ _ h hu => ⟨(h.1).up hu, (h.2.1).up hu, (h.2.2.1).up hu, (h.2.2.2.1).up hu, hu.cell (h.2.2.2.2.1), hu.cell (h.2.2.2.2.2.1), hu.cell (h.2.2.2.2.2.2.1), below_up (h.2.2.2.2.2.2.2) hu⟩) (Or.inl ⟨by rfl, fun w' _ => yu_value ?_⟩) ?_
            rotate_left
            · (go_simp; (try exact rfl))
            try simp only [Act.put, List.setIfInBounds_toArray, List.set_cons_zero, List.set_cons_succ]
            refine wpAnyU_pure (i := 1) (d := (some 31)) (v := ?_) rfl rfl (by kernel_rfl) (fun _ _ _ h => h) (fun _ _ h hu => ⟨(h.1).up hu, (h.2.1).up hu, (h.2.2.1).up hu, (h.2.2.2.1).up hu, hu.cell (h.2.2.2.2.1), hu.cell (h.2.2.2.2.2.1), hu.cell (h.2.2.2.2.2.2.1), below_up (h.2.2.2.2.2.2.2) hu⟩) (Or.inl ⟨by rfl, fun w' _ => yu_value ?_⟩) ?_
            rotate_left
            · (go_simp; (try exact rfl))
            try simp only [Act.put, List.setIfInBounds_toArray, List.set_cons_zero, List.set_cons_succ]
            refine wpAnyU_take (i := 2) (d := (some 32)) (v := ?_) rfl rfl (by kernel_rfl) (fun _ _ _ h => h) (fun _ _ h hu => ⟨(h.1).up hu, (h.2.1).up hu, (h.2.2.1).up hu, (h.2.2.2.1).up hu, hu.cell (h.2.2.2.2.1), hu.cell (h.2.2.2.2.2.1), hu.cell (h.2.2.2.2.2.2.1), below_up (h.2.2.2.2.2.2.2) hu⟩) hSS (Or.inl ⟨by rfl, fun w' hSw => yu_value ?_⟩) ?_
            rotate_left
            · (have e1 := E1.out; go_simp; (try exact rfl))
            try simp only [Act.put, List.setIfInBounds_toArray, List.set_cons_zero, List.set_cons_succ]
            refine wpAnyU_pure (i := 3) (d := (some 33)) (v := ?_) rfl rfl (by kernel_rfl) (fun _ _ _ h => h) (fun _ _ h hu => ⟨(h.1).up hu, (h.2.1).up hu, (h.2.2.1).up hu, (h.2.2.2.1).up hu, hu.cell (h.2.2.2.2.1), hu.cell (h.2.2.2.2.2.1), hu.cell (h.2.2.2.2.2.2.1), below_up (h.2.2.2.2.2.2.2) hu⟩) (Or.inl ⟨by rfl, fun w' _ => yu_value ?_⟩) ?_
            rotate_left
            · (go_simp; (try exact rfl))
            try simp only [Act.put, List.setIfInBounds_toArray, List.set_cons_zero, List.set_cons_succ]
            refine wpAnyU_pure (i := 4) (d := (some 34)) (v := ?_) rfl rfl (by kernel_rfl) (fun _ _ _ h => h) (fun _ _ h hu => ⟨(h.1).up hu, (h.2.1).up hu, (h.2.2.1).up hu, (h.2.2.2.1).up hu, hu.cell (h.2.2.2.2.1), hu.cell (h.2.2.2.2.2.1), hu.cell (h.2.2.2.2.2.2.1), below_up (h.2.2.2.2.2.2.2) hu⟩) (Or.inl ⟨by rfl, fun w' _ => yu_value ?_⟩) ?_
            rotate_left
            · (go_simp; (try exact rfl))
            try simp only [Act.put, List.setIfInBounds_toArray, List.set_cons_zero, List.set_cons_succ]
            refine wpAnyU_take (i := 5) (d := (some 35)) (v := ?_) rfl rfl (by kernel_rfl) (fun _ _ _ h => h) (fun _ _ h hu => ⟨(h.1).up hu, (h.2.1).up hu, (h.2.2.1).up hu, (h.2.2.2.1).up hu, hu.cell (h.2.2.2.2.1), hu.cell (h.2.2.2.2.2.1), hu.cell (h.2.2.2.2.2.2.1), below_up (h.2.2.2.2.2.2.2) hu⟩) hSS (Or.inl ⟨by rfl, fun w' hSw => yu_value ?_⟩) ?_
            rotate_left
            · ((try dsimp only at hSw); (try obtain ⟨_, _, _, _, _, _, _, _⟩ := hSw); go_simp; (try exact rfl))
            try simp only [Act.put, List.setIfInBounds_toArray, List.set_cons_zero, List.set_cons_succ]
            refine wpAnyU_pure (i := 6) (d := (some 36)) (v := ?_) rfl rfl (by kernel_rfl) (fun _ _ _ h => h) (fun _ _ h hu => ⟨(h.1).up hu, (h.2.1).up hu, (h.2.2.1).up hu, (h.2.2.2.1).up hu, hu.cell (h.2.2.2.2.1), hu.cell (h.2.2.2.2.2.1), hu.cell (h.2.2.2.2.2.2.1), below_up (h.2.2.2.2.2.2.2) hu⟩) (Or.inl ⟨by rfl, fun w' _ => yu_value ?_⟩) ?_
            rotate_left
            · (go_simp; (try exact rfl))
            try simp only [Act.put, List.setIfInBounds_toArray, List.set_cons_zero, List.set_cons_succ]
            refine wpAnyU_pure (i := 7) (d := (some 37)) (v := ?_) rfl rfl (by kernel_rfl) (fun _ _ _ h => h) (fun _ _ h hu => ⟨(h.1).up hu, (h.2.1).up hu, (h.2.2.1).up hu, (h.2.2.2.1).up hu, hu.cell (h.2.2.2.2.1), hu.cell (h.2.2.2.2.2.1), hu.cell (h.2.2.2.2.2.2.1), below_up (h.2.2.2.2.2.2.2) hu⟩) (Or.inl ⟨by rfl, fun w' _ => yu_value ?_⟩) ?_
            rotate_left
            · (go_simp; (try exact rfl))
            try simp only [Act.put, List.setIfInBounds_toArray, List.set_cons_zero, List.set_cons_succ]
            refine wpAnyU_take (i := 8) (d := (some 38)) (v := ?_) rfl rfl (by kernel_rfl) (fun _ _ _ h => h) (fun _ _ h hu => ⟨(h.1).up hu, (h.2.1).up hu, (h.2.2.1).up hu, (h.2.2.2.1).up hu, hu.cell (h.2.2.2.2.1), hu.cell (h.2.2.2.2.2.1), hu.cell (h.2.2.2.2.2.2.1), below_up (h.2.2.2.2.2.2.2) hu⟩) hSS (Or.inl ⟨by rfl, fun w' hSw => yu_value ?_⟩) ?_
            rotate_left
            · ((try dsimp only at hSw); (try obtain ⟨_, _, _, _, _, _, _, _⟩ := hSw); go_simp; (try exact rfl))
            try simp only [Act.put, List.setIfInBounds_toArray, List.set_cons_zero, List.set_cons_succ]
            refine wpAnyU_pure (i := 9) (d := (some 39)) (v := ?_) rfl rfl (by kernel_rfl) (fun _ _ _ h => h) (fun _ _ h hu => ⟨(h.1).up hu, (h.2.1).up hu, (h.2.2.1).up hu, (h.2.2.2.1).up hu, hu.cell (h.2.2.2.2.1), hu.cell (h.2.2.2.2.2.1), hu.cell (h.2.2.2.2.2.2.1), below_up (h.2.2.2.2.2.2.2) hu⟩) (Or.inl ⟨by rfl, fun w' _ => yu_value ?_⟩) ?_
            rotate_left
            · (go_simp; (try exact rfl))
            try simp only [Act.put, List.setIfInBounds_toArray, List.set_cons_zero, List.set_cons_succ]
            refine wpAnyU_pure (i := 10) (d := (some 40)) (v := ?_) rfl rfl (by kernel_rfl) (fun _ _ _ h => h) (fun _ _ h hu => ⟨(h.1).up hu, (h.2.1).up hu, (h.2.2.1).up hu, (h.2.2.2.1).up hu, hu.cell (h.2.2.2.2.1), hu.cell (h.2.2.2.2.2.1), hu.cell (h.2.2.2.2.2.2.1), below_up (h.2.2.2.2.2.2.2) hu⟩) (Or.inl ⟨by rfl, fun w' _ => yu_value ?_⟩) ?_
            rotate_left
            · (go_simp; (try exact rfl))
            try simp only [Act.put, List.setIfInBounds_toArray, List.set_cons_zero, List.set_cons_succ]
            refine wpAnyU_take (i := 11) (d := (some 41)) (v := ?_) rfl rfl (by kernel_rfl) (fun _ _ _ h => h) (fun _ _ h hu => ⟨(h.1).up hu, (h.2.1).up hu, (h.2.2.1).up hu, (h.2.2.2.1).up hu, hu.cell (h.2.2.2.2.1), hu.cell (h.2.2.2.2.2.1), hu.cell (h.2.2.2.2.2.2.1), below_up (h.2.2.2.2.2.2.2) hu⟩) hSS (Or.inl ⟨by rfl, fun w' hSw => yu_value ?_⟩) ?_
            rotate_left
            · (have e1 := E1.out; go_simp; (try exact rfl))
            try simp only [Act.put, List.setIfInBounds_toArray, List.set_cons_zero, List.set_cons_succ]
            refine wpAnyU_take (i := 12) (d := (some 42)) (v := ?_) rfl rfl (by kernel_rfl) (fun _ _ _ h => h) (fun _ _ h hu => ⟨(h.1).up hu, (h.2.1).up hu, (h.2.2.1).up hu, (h.2.2.2.1).up hu, hu.cell (h.2.2.2.2.1), hu.cell (h.2.2.2.2.2.1), hu.cell (h.2.2.2.2.2.2.1), below_up (h.2.2.2.2.2.2.2) hu⟩) hSS (Or.inl ⟨by rfl, fun w' hSw => yu_value ?_⟩) ?_
            rotate_left
            · (have e2 := E2.out; go_simp; (try exact rfl))
            try simp only [Act.put, List.setIfInBounds_toArray, List.set_cons_zero, List.set_cons_succ]
            refine wpAnyU_take (i := 13) (d := (some 43)) (v := ?_) rfl rfl (by kernel_rfl) (fun _ _ _ h => h) (fun _ _ h hu => ⟨(h.1).up hu, (h.2.1).up hu, (h.2.2.1).up hu, (h.2.2.2.1).up hu, hu.cell (h.2.2.2.2.1), hu.cell (h.2.2.2.2.2.1), hu.cell (h.2.2.2.2.2.2.1), below_up (h.2.2.2.2.2.2.2) hu⟩) hSS (Or.inl ⟨by rfl, fun w' hSw => yu_value ?_⟩) ?_
            rotate_left
            · ((try dsimp only at hSw); (try obtain ⟨_, _, _, _, _, _, _, _⟩ := hSw); go_simp; (try exact rfl))
            try simp only [Act.put, List.setIfInBounds_toArray, List.set_cons_zero, List.set_cons_succ]
            refine wpAnyU_pure (i := 14) (d := (some 44)) (v := ?_) rfl rfl (by kernel_rfl) (fun _ _ _ h => h) (fun _ _ h hu => ⟨(h.1).up hu, (h.2.1).up hu, (h.2.2.1).up hu, (h.2.2.2.1).up hu, hu.cell (h.2.2.2.2.1), hu.cell (h.2.2.2.2.2.1), hu.cell (h.2.2.2.2.2.2.1), below_up (h.2.2.2.2.2.2.2) hu⟩) (Or.inl ⟨by rfl, fun w' _ => yu_value ?_⟩) ?_
            rotate_left
            · (go_simp; (try exact rfl))
            try simp only [Act.put, List.setIfInBounds_toArray, List.set_cons_zero, List.set_cons_succ]
            refine wpAnyU_take (i := 15) (d := (some 45)) (v := _) rfl rfl (by kernel_rfl) (fun _ _ _ h => h) (fun _ _ h hu => ⟨(h.1).up hu, (h.2.1).up hu, (h.2.2.1).up hu, (h.2.2.2.1).up hu, hu.cell (h.2.2.2.2.1), hu.cell (h.2.2.2.2.2.1), hu.cell (h.2.2.2.2.2.2.1), below_up (h.2.2.2.2.2.2.2) hu⟩) hSS (Or.inl ⟨by rfl, fun w' hSw => yu_call ?_ (HC.out _)⟩) ?_
            · go_simp
            try simp only [Act.put, List.setIfInBounds_toArray, List.set_cons_zero, List.set_cons_succ]
            refine wpAnyU_pure (i := 16) (d := (some 29)) (v := ?_) rfl rfl (by kernel_rfl) (fun _ _ _ h => h) (fun _ _ h hu => ⟨(h.1).up hu, (h.2.1).up hu, (h.2.2.1).up hu, (h.2.2.2.1).up hu, hu.cell (h.2.2.2.2.1), hu.cell (h.2.2.2.2.2.1), hu.cell (h.2.2.2.2.2.2.1), below_up (h.2.2.2.2.2.2.2) hu⟩) (Or.inl ⟨by rfl, fun w' _ => yu_value ?_⟩) ?_
            rotate_left
            · (go_simp; (try exact rfl))
            try simp only [Act.put, List.setIfInBounds_toArray, List.set_cons_zero, List.set_cons_succ]
            refine wpAnyU_pure (i := 17) (d := (some 46)) (v := ?_) rfl rfl (by kernel_rfl) (fun _ _ _ h => h) (fun _ _ h hu => ⟨(h.1).up hu, (h.2.1).up hu, (h.2.2.1).up hu, (h.2.2.2.1).up hu, hu.cell (h.2.2.2.2.1), hu.cell (h.2.2.2.2.2.1), hu.cell (h.2.2.2.2.2.2.1), below_up (h.2.2.2.2.2.2.2) hu⟩) (Or.inl ⟨by rfl, fun w' _ => yu_value ?_⟩) ?_
            rotate_left
            · (go_simp; (try exact rfl))
            try simp only [Act.put, List.setIfInBounds_toArray, List.set_cons_zero, List.set_cons_succ]
            refine wpAnyU_pure (i := 18) (d := (some 47)) (v := ?_) rfl rfl (by kernel_rfl) (fun _ _ _ h => h) (fun _ _ h hu => ⟨(h.1).up hu, (h.2.1).up hu, (h.2.2.1).up hu, (h.2.2.2.1).up hu, hu.cell (h.2.2.2.2.1), hu.cell (h.2.2.2.2.2.1), hu.cell (h.2.2.2.2.2.2.1), below_up (h.2.2.2.2.2.2.2) hu⟩) (Or.inl ⟨by rfl, fun w' _ => yu_value ?_⟩) ?_
            rotate_left
            · (go_simp; (try exact rfl))
            try simp only [Act.put, List.setIfInBounds_toArray, List.set_cons_zero, List.set_cons_succ]
            refine wpAnyU_take (i := 19) (d := (some 48)) (v := ?_) rfl rfl (by kernel_rfl) (fun _ _ _ h => h) (fun _ _ h hu => ⟨(h.1).up hu, (h.2.1).up hu, (h.2.2.1).up hu, (h.2.2.2.1).up hu, hu.cell (h.2.2.2.2.1), hu.cell (h.2.2.2.2.2.1), hu.cell (h.2.2.2.2.2.2.1), below_up (h.2.2.2.2.2.2.2) hu⟩) hSS (Or.inl ⟨by rfl, fun w' hSw => yu_value ?_⟩) ?_
            rotate_left
            · (have e2 := E2.out; go_simp; (try exact rfl))
            try simp only [Act.put, List.setIfInBounds_toArray, List.set_cons_zero, List.set_cons_succ]
            refine wpAnyU_one (i := 20) rfl (by kernel_rfl) (by rfl) fun w1 hw1 => ?_
            have hcW := (hS4.up hw1).cell (i+k) (by omega)
            have hfW := (hS4.up hw1).frozen (i+k)
            go_simp
            clear hcW hfW
            refine wpAnyU_pure (i := 21) (d := (some 10)) (v := ?_) rfl rfl (by kernel_rfl) (fun _ _ _ h => h) (fun _ _ h hu => ⟨(h.1).up hu, (h.2.1).up hu, (h.2.2.1).up hu, (h.2.2.2.1).up hu, hu.cell (h.2.2.2.2.1), hu.cell (h.2.2.2.2.2.1), hu.cell (h.2.2.2.2.2.2.1), below_up (h.2.2.2.2.2.2.2) hu⟩) (Or.inl ⟨by rfl, fun w' _ => yu_value ?_⟩) ?_
            rotate_left
            · (go_simp; (try exact rfl))
            try simp only [Act.put, List.setIfInBounds_toArray, List.set_cons_zero, List.set_cons_succ]
            refine wpAnyU_done (by kernel_rfl) (fun wF huE => ?_) _
            have hne := hS4.lt
            have gX := ((hS1.up hw1).other ⟨wE.heap.size, i + k, none⟩ (.int .u64 (r : Nat)) (by simp; omega)).up huE
            have gY := ((hS2.up hw1).other ⟨wE.heap.size, i + k, none⟩ (.int .u64 (r : Nat)) (by simp; omega)).up huE
            have gR := ((hS3.up hw1).other ⟨wE.heap.size, i + k, none⟩ (.int .u64 (r : Nat)) (by simp; omega)).up huE
            have gM := ((hS4.up hw1).set (i + k) r).up huE
            have gB := below_up ((below_up hSB hw1).setCell (p := ⟨wE.heap.size, i + k, none⟩) (by simp; omega) (.int .u64 (r : Nat))) huE
            clear hS1 hS2 hS3 hS4 hS5 hS6 hS7 hSB hSS hw1 huE hne
            go_wp2
            go_roundw
            case rel =>
              refine ⟨k + 1, c', upd S' (i + k) r, by omega, by go_num, rfl, hc', upd_lt HSb.out hr, ?_, fun j h1 h2 => by rw [upd_other _ _ _ (by omega)]; exact Hz.out j h1 h2, gX, gY, gR, gM, gB⟩
              have h2 := sumL_upd S' r (show i + k < 17 by omega)
              rw [bp_add] at h2
              rw [bp_succ, sumL_succ (limb y) k, ← Nat.mul_assoc (bp i)]
              exact times_step Hsum.out h2 Hrc.out
            case measure => simp [intOf] <;> omega
          · obtain rfl : k = m := by omega
            have him : (i : Int) + (k : Int) < 17 := by omega
            have him0 : (0 : Int) ≤ (i : Int) + (k : Int) := by omega
            have E2 : ((i : Int) + (k : Int)).toNat = i + k := by omega
            have hcs := hM.cell (i + k) (by omega)
            have hfs := hM.frozen (i + k)
            have gX := hX.other ⟨wE.heap.size, i + k, none⟩ (.int .u64 (c : Nat)) (by simp; omega)
            have gY := hY.other ⟨wE.heap.size, i + k, none⟩ (.int .u64 (c : Nat)) (by simp; omega)
            have gR := hR.other ⟨wE.heap.size, i + k, none⟩ (.int .u64 (c : Nat)) (by simp; omega)
            have gM := hM.set (i + k) c
            have gB := hB.setCell (p := ⟨wE.heap.size, i + k, none⟩) (by simp; omega) (.int .u64 (c : Nat))
            clear hX hY hR hM hB
            go_wp2
            go_roundw
            case rel =>
              refine ⟨i + 1, upd S' (i + k) c, by omega, by go_num, upd_lt HSb.out hc, ?_, fun j h1 h2 => by rw [upd_other _ _ _ (by omega)]; exact Hz.out j (by omega) h2, gX, gY, gR, gM, gB⟩
              have h2 := sumL_upd S' c (show i + k < 17 by omega)
              have h3 := Hz.out (i + k) (Nat.le_refl _) (by omega)
              have h4 := Hsum.out
              rw [bp_add, h3, Nat.zero_mul, Nat.add_zero] at h2
              rw [h2, sumL_succ (limb x) i, Nat.add_mul]
              exact h4
            case measure => simp [intOf] <;> omega
      · obtain rfl : i = n := by omega
        have hprod := Hsum.out
        rw [HSX.out, HSY.out, sumL_succ] at hprod
        have hlt16 := sumL_lt (f := S) (k := 16) fun j hj => HSb.out j (by omega)
        have hfull : sumL S 17 = x * y := by rw [sumL_succ]; exact hprod
        have hcs := hM.cell 16 (by omega)
        have hRA := right_any S HSb.out 0 (by decide)
        rw [hfull, Nat.pow_zero, Nat.div_one] at hRA
        by_cases h0 : S 16 = 0
        · have hp : x * y < bp 16 := by rw [← hprod, h0]; omega
          have e : prodV (x * y) = .tuple #[wideV (x * y), .bool true] := by
            unfold prodV; rw [if_pos hp, decide_eq_true hp]
          have He := hid e
          rw [Nat.mod_eq_of_lt hp] at hRA
          unfold longV at hRA
          have HRA := hid hRA
          rw [h0] at hcs
          clear hfull hlt16 hprod h0 hRA e HSX HSY Hz Hsum
          go_wp2_with (first | ((with_reducible apply ld_rowP undL infoL); exact rfl; exact rfl; exact hM) | ((with_reducible apply st_rowP infoW); exact rfl; exact rfl; focus (repeat (first | assumption | ((with_reducible apply row_newc); (focus (first | rfl | (simp; done)))) | ((with_reducible apply row_newz); (focus (first | rfl | (simp; done)))) | (with_reducible apply row_same) | ((with_reducible apply row_else); (focus (first | (simp; done) | (simp; omega) | omega))) | (with_reducible apply row_alloc) | (with_reducible apply row_drew) | (with_reducible apply row_drewN) | ((with_reducible apply row_up); assumption)))) | ((with_reducible apply st_rowZ infoW); exact rfl; exact rfl; focus (repeat (first | assumption | ((with_reducible apply row_newc); (focus (first | rfl | (simp; done)))) | ((with_reducible apply row_newz); (focus (first | rfl | (simp; done)))) | (with_reducible apply row_same) | ((with_reducible apply row_else); (focus (first | (simp; done) | (simp; omega) | omega))) | (with_reducible apply row_alloc) | (with_reducible apply row_drew) | (with_reducible apply row_drewN) | ((with_reducible apply row_up); assumption)))) | (go_at_call 116; refine (HRA.out _).mono ?_; rintro e w' ⟨rfl, hu⟩))
          exact bodyPost_ret (res2 rfl undW infoW _ _ rfl (by (repeat (first | assumption | ((with_reducible apply row_newc); (focus (first | rfl | (simp; done)))) | ((with_reducible apply row_newz); (focus (first | rfl | (simp; done)))) | (with_reducible apply row_same) | ((with_reducible apply row_else); (focus (first | (simp; done) | (simp; omega) | omega))) | (with_reducible apply row_alloc) | (with_reducible apply row_drew) | (with_reducible apply row_drewN) | ((with_reducible apply row_up); assumption))))) rfl ⟨by rw [He.out]; rfl, (by repeat (first | assumption | (with_reducible apply Up.of) | (with_reducible exact Below.refl _ _) | (with_reducible exact Up.refl _) | ((with_reducible apply bl_setRow); (focus (first | exact Nat.le_refl _ | (simp; done) | (simp; omega) | omega))) | (with_reducible apply below_drewN) | (with_reducible apply Below.drew) | ((with_reducible apply bl_alloc); (focus (first | exact Nat.le_refl _ | (simp; done) | (simp; omega) | omega))) | ((with_reducible apply bl_setCell); (focus (first | exact Nat.le_refl _ | (simp; done) | (simp; omega) | omega))) | ((with_reducible apply up_tr); assumption)))⟩
        · have hp : ¬ x * y < bp 16 := by
            have : 1 * bp 16 ≤ S 16 * bp 16 := Nat.mul_le_mul_right _ (by omega)
            rw [← hprod]; omega
          have e : prodV (x * y) = .tuple #[.agg (cells 16 (fun _ => 0)), .bool false] := by
            unfold prodV
            rw [if_neg hp, decide_eq_false hp, zeroW]
          have He := hid e
          have hb16 : ((S 16 : Int) != 0) = true := by simp; omega
          clear hfull hlt16 hprod hRA e HSX HSY Hz Hsum h0
          generalize S 16 = top at *
          go_wp2_with (first | ((with_reducible apply st_rowP infoW); exact rfl; exact rfl; focus (repeat (first | assumption | ((with_reducible apply row_newc); (focus (first | rfl | (simp; done)))) | ((with_reducible apply row_newz); (focus (first | rfl | (simp; done)))) | (with_reducible apply row_same) | ((with_reducible apply row_else); (focus (first | (simp; done) | (simp; omega) | omega))) | (with_reducible apply row_alloc) | (with_reducible apply row_drew) | (with_reducible apply row_drewN) | ((with_reducible apply row_up); assumption)))) | ((with_reducible apply st_rowZ infoW); exact rfl; exact rfl; focus (repeat (first | assumption | ((with_reducible apply row_newc); (focus (first | rfl | (simp; done)))) | ((with_reducible apply row_newz); (focus (first | rfl | (simp; done)))) | (with_reducible apply row_same) | ((with_reducible apply row_else); (focus (first | (simp; done) | (simp; omega) | omega))) | (with_reducible apply row_alloc) | (with_reducible apply row_drew) | (with_reducible apply row_drewN) | ((with_reducible apply row_up); assumption)))))
          exact bodyPost_ret (res2 rfl undW infoW _ _ rfl (by (repeat (first | assumption | ((with_reducible apply row_newc); (focus (first | rfl | (simp; done)))) | ((with_reducible apply row_newz); (focus (first | rfl | (simp; done)))) | (with_reducible apply row_same) | ((with_reducible apply row_else); (focus (first | (simp; done) | (simp; omega) | omega))) | (with_reducible apply row_alloc) | (with_reducible apply row_drew) | (with_reducible apply row_drewN) | ((with_reducible apply row_up); assumption))))) rfl ⟨by rw [He.out]; rfl, (by repeat (first | assumption | (with_reducible apply Up.of) | (with_reducible exact Below.refl _ _) | (with_reducible exact Up.refl _) | ((with_reducible apply bl_setRow); (focus (first | exact Nat.le_refl _ | (simp; done) | (simp; omega) | omega))) | (with_reducible apply below_drewN) | (with_reducible apply Below.drew) | ((with_reducible apply bl_alloc); (focus (first | exact Nat.le_refl _ | (simp; done) | (simp; omega) | omega))) | ((with_reducible apply bl_setCell); (focus (first | exact Nat.le_refl _ | (simp; done) | (simp; omega) | omega))) | ((with_reducible apply up_tr); assumption)))⟩
end Go.Proofs.YtdcpoamjmoceiaaGreatDoor
/-
  wide.Mul: the product of two whole numbers, or that a wide number has none.
-/
namespace Go.Proofs.YtdcpoamjmoceiaaGreatDoor
open Go Go.RowKit
set_option maxRecDepth 100000

theorem wp_st_rowN {P : Program} {t : TypeId} {n : Nat} {o : Oper} {a : Act} {w : World} {K : Act → World → Prop} {Q : Exit → Act → World → Prop} (hi : (P.info? t).map (·.size) = some n) (hd : o.dst = none) (x y : Operand) (ho : o.op = .store t x y) (g : Nat)
    (hx : a.eval x = .pointer (some ⟨g, 0, none⟩)) {f v : Nat → Nat} (hy : a.eval y = .agg (cells n v)) (hC : Row w g t n f) (h : K a (w.setRow g (cells n v))) : o.wp P a w K Q :=
  wp_st_row hi x y ho g hx hy hC (by rw [hd]; exact h)
theorem run_allocW {o : Oper} {a : Act} (ho : o.op = .alloc 54) (w : World) :
    (execOp a.eval o).run Tryz.prog w = .ok (.value (.pointer (some ⟨w.heap.size, 0, none⟩))) (w.alloc (.cells (cells 16 (fun _ => 0)) 54)) := by
  rw [← zeros16]
  unfold execOp
  rw [ho]
  dsimp only
  go_simp
theorem wpAnyU_allocW {ops : Array Oper} {Q : Exit → Act → World → Prop} {md : Region.Mode} {S : World → Prop} {req : Nat → Bool} {i : Nat} {o : Oper} {d : Option Tmp} {fuel : Nat} {listed : Array Bool} {a : Act} {w : World}
    (hi : ops[i]? = some o) (hd : o.dst = d) (hr : Region.ready md ops listed = [i]) (hw : Region.wanted o (yielded ops a.tmps) = true) (ho : o.op = .alloc 54) (hSup : ∀ w w', S w → Up w w' → S w')
    (h : ∀ w1, Up w w1 → wpAnyU Tryz.prog md ops Q S req fuel (listed.setIfInBounds i true) (a.put d (.pointer (some ⟨w1.heap.size, 0, none⟩))) (w1.alloc (.cells (cells 16 (fun _ => 0)) 54))) : wpAnyU Tryz.prog md ops Q S req (fuel + 1) listed a w := by
  subst hd
  refine wpAnyU_one hi hr hw fun w1 hw1 => ?_
  unfold Oper.wp
  rw [run_allocW ho w1]
  exact ⟨fun _ hS => hSup _ _ hS (Up.alloc _ _), h w1 hw1⟩
theorem pm_mul (a b : Int) {sa sb : Bool} (ha : sa = decide (a < 0)) (hb' : sb = decide (b < 0)) : pm (sa != sb) (a.natAbs * b.natAbs) = a * b := by
  subst ha; subst hb'
  by_cases h1 : a < 0
  · obtain ⟨n, e⟩ : ∃ n : Nat, a = -(n : Int) := ⟨a.natAbs, by omega⟩
    by_cases h2 : b < 0
    · obtain ⟨m, f⟩ : ∃ m : Nat, b = -(m : Int) := ⟨b.natAbs, by omega⟩
      rw [decide_eq_true h1, decide_eq_true h2, e, f, Int.natAbs_neg, Int.natAbs_neg, Int.neg_mul_neg]
      rfl
    · obtain ⟨m, f⟩ : ∃ m : Nat, b = (m : Int) := ⟨b.natAbs, by omega⟩
      rw [decide_eq_true h1, decide_eq_false h2, e, f, Int.natAbs_neg, Int.neg_mul]
      rfl
  · obtain ⟨n, e⟩ : ∃ n : Nat, a = (n : Int) := ⟨a.natAbs, by omega⟩
    by_cases h2 : b < 0
    · obtain ⟨m, f⟩ : ∃ m : Nat, b = -(m : Int) := ⟨b.natAbs, by omega⟩
      rw [decide_eq_false h1, decide_eq_true h2, e, f, Int.natAbs_neg, Int.mul_neg]
      rfl
    · obtain ⟨m, f⟩ : ∃ m : Nat, b = (m : Int) := ⟨b.natAbs, by omega⟩
      rw [decide_eq_false h1, decide_eq_false h2, e, f]
      rfl
theorem mul_not {a b : Int} (h : ¬ a.natAbs * b.natAbs < bp 16) : ¬ InR (a * b) := fun hr => by
  have h1 := enc_natAbs hr
  rw [Int.natAbs_mul] at h1
  exact h h1.2
set_option maxHeartbeats 2000000 in
theorem mul_z {a b : Int} (ha : InR a) (hb' : InR b) (w : World) :
    Calls Tryz.prog 77 #[wideV (enc a), wideV (enc b)] w fun e w' => e = .returned (opt (a * b)) ∧ Up w w' := by
  have HA := hid (fun w => amount_z ha w)
  have HB := hid (fun w => amount_z hb' w)
  have hT := fun w => times_any _ _ (enc_natAbs ha).2 (enc_natAbs hb').2 w
  have hMA := fun w => minus_z ha w
  have hMB := fun w => minus_z hb' w
  obtain ⟨sa, ea⟩ : ∃ sa, sa = decide (a < 0) := ⟨_, rfl⟩
  obtain ⟨sb, eb⟩ : ∃ sb, sb = decide (b < 0) := ⟨_, rfl⟩
  rw [← ea] at hMA
  rw [← eb] at hMB
  have HMA := hid hMA
  have HMB := hid hMB
  clear hMA hMB
  by_cases hp : a.natAbs * b.natAbs < bp 16
  · have hv : prodV (a.natAbs * b.natAbs) = .tuple #[wideV (a.natAbs * b.natAbs), .bool true] := by
      unfold prodV; rw [if_pos hp, decide_eq_true hp]
    rw [hv] at hT
    have HT := hid hT
    have hS := fun w => signed_any hp (!(sa == sb)) w
    have epm := pm_mul a b ea eb
    change pm (!(sa == sb)) _ = _ at epm
    rw [epm] at hS
    have HS := hid hS
    clear hT hS hv ea eb epm
    generalize a.natAbs * b.natAbs = p at *
    generalize a.natAbs = m at *
    generalize b.natAbs = n at *
    obtain ⟨v, ok, ho⟩ : ∃ v ok, opt (a * b) = .tuple #[.agg (cells 16 (limb v)), .bool ok] := ⟨_, _, rfl⟩
    rw [ho] at HS ⊢
    clear ho
    unfold wideV at *
    go_enter Tryz.func77, Tryz.ntmps77
    go_wp2
    refine wp_region_upS (S := (fun wq => Row wq w.heap.size 54 16 (limb (enc a)) ∧ Row wq (w.heap.size + 1) 54 16 (limb (enc b)) ∧ Row wq (w.heap.size + 1 + 1) 54 16 (fun _ => 0) ∧ Below w.heap.size w wq)) (req := (fun j => j != 9)) (by kernel_rfl) (fun _ _ h hu => ⟨(h.1).up hu, (h.2.1).up hu, (h.2.2.1).up hu, below_up (h.2.2.2) hu⟩) ⟨(by (repeat (first | assumption | ((with_reducible apply row_newc); (focus (first | rfl | (simp; done)))) | ((with_reducible apply row_newz); (focus (first | rfl | (simp; done)))) | (with_reducible apply row_same) | ((with_reducible apply row_else); (focus (first | (simp; done) | (simp; omega) | omega))) | (with_reducible apply row_alloc) | (with_reducible apply row_drew) | (with_reducible apply row_drewN) | ((with_reducible apply row_up); assumption)))), (by (repeat (first | assumption | ((with_reducible apply row_newc); (focus (first | rfl | (simp; done)))) | ((with_reducible apply row_newz); (focus (first | rfl | (simp; done)))) | (with_reducible apply row_same) | ((with_reducible apply row_else); (focus (first | (simp; done) | (simp; omega) | omega))) | (with_reducible apply row_alloc) | (with_reducible apply row_drew) | (with_reducible apply row_drewN) | ((with_reducible apply row_up); assumption)))), (by (repeat (first | assumption | ((with_reducible apply row_newc); (focus (first | rfl | (simp; done)))) | ((with_reducible apply row_newz); (focus (first | rfl | (simp; done)))) | (with_reducible apply row_same) | ((with_reducible apply row_else); (focus (first | (simp; done) | (simp; omega) | omega))) | (with_reducible apply row_alloc) | (with_reducible apply row_drew) | (with_reducible apply row_drewN) | ((with_reducible apply row_up); assumption)))), (by repeat (first | assumption | (with_reducible apply Up.of) | (with_reducible exact Below.refl _ _) | (with_reducible exact Up.refl _) | ((with_reducible apply bl_setRow); (focus (first | exact Nat.le_refl _ | (simp; done) | (simp; omega) | omega))) | (with_reducible apply below_drewN) | (with_reducible apply Below.drew) | ((with_reducible apply bl_alloc); (focus (first | exact Nat.le_refl _ | (simp; done) | (simp; omega) | omega))) | ((with_reducible apply bl_setCell); (focus (first | exact Nat.le_refl _ | (simp; done) | (simp; omega) | omega))) | ((with_reducible apply up_tr); assumption)))⟩ (fun wS hSS => ?_)
    have ⟨hS1, hS2, hS3, hSB⟩ := hSS
    refine wpAnyU_take (i := 0) (d := (some 9)) (v := _) rfl rfl (by kernel_rfl) (fun _ _ _ h => h) (fun _ _ h hu => ⟨(h.1).up hu, (h.2.1).up hu, (h.2.2.1).up hu, below_up (h.2.2.2) hu⟩) hSS (Or.inl ⟨by rfl, fun w' hSw => yu_value (run_ld undW infoW _ rfl _ rfl hSw.1)⟩) ?_
    try simp only [Act.put, List.setIfInBounds_toArray, List.set_cons_zero, List.set_cons_succ]
    refine wpAnyU_take (i := 1) (d := (some 10)) (v := _) rfl rfl (by kernel_rfl) (fun _ _ _ h => h) (fun _ _ h hu => ⟨(h.1).up hu, (h.2.1).up hu, (h.2.2.1).up hu, below_up (h.2.2.2) hu⟩) hSS (Or.inl ⟨by rfl, fun w' hSw => yu_call ?_ (HA.out _)⟩) ?_
    · go_simp
    try simp only [Act.put, List.setIfInBounds_toArray, List.set_cons_zero, List.set_cons_succ]
    refine wpAnyU_take (i := 2) (d := (some 11)) (v := _) rfl rfl (by kernel_rfl) (fun _ _ _ h => h) (fun _ _ h hu => ⟨(h.1).up hu, (h.2.1).up hu, (h.2.2.1).up hu, below_up (h.2.2.2) hu⟩) hSS (Or.inl ⟨by rfl, fun w' hSw => yu_value (run_ld undW infoW _ rfl _ rfl hSw.2.1)⟩) ?_
    try simp only [Act.put, List.setIfInBounds_toArray, List.set_cons_zero, List.set_cons_succ]
    refine wpAnyU_take (i := 3) (d := (some 12)) (v := _) rfl rfl (by kernel_rfl) (fun _ _ _ h => h) (fun _ _ h hu => ⟨(h.1).up hu, (h.2.1).up hu, (h.2.2.1).up hu, below_up (h.2.2.2) hu⟩) hSS (Or.inl ⟨by rfl, fun w' hSw => yu_call ?_ (HB.out _)⟩) ?_
    · go_simp
    try simp only [Act.put, List.setIfInBounds_toArray, List.set_cons_zero, List.set_cons_succ]
    refine wpAnyU_take (i := 4) (d := (some 13)) (v := _) rfl rfl (by kernel_rfl) (fun _ _ _ h => h) (fun _ _ h hu => ⟨(h.1).up hu, (h.2.1).up hu, (h.2.2.1).up hu, below_up (h.2.2.2) hu⟩) hSS (Or.inl ⟨by rfl, fun w' hSw => yu_call ?_ (HT.out _)⟩) ?_
    · go_simp
    try simp only [Act.put, List.setIfInBounds_toArray, List.set_cons_zero, List.set_cons_succ]
    refine wpAnyU_pure (i := 5) (d := (some 8)) (v := ?_) rfl rfl (by kernel_rfl) (fun _ _ _ h => h) (fun _ _ h hu => ⟨(h.1).up hu, (h.2.1).up hu, (h.2.2.1).up hu, below_up (h.2.2.2) hu⟩) (Or.inl ⟨by rfl, fun w' _ => yu_value ?_⟩) ?_
    rotate_left
    · (go_simp; (try exact rfl))
    try simp only [Act.put, List.setIfInBounds_toArray, List.set_cons_zero, List.set_cons_succ]
    refine wpAnyU_pure (i := 6) (d := (some 14)) (v := ?_) rfl rfl (by kernel_rfl) (fun _ _ _ h => h) (fun _ _ h hu => ⟨(h.1).up hu, (h.2.1).up hu, (h.2.2.1).up hu, below_up (h.2.2.2) hu⟩) (Or.inl ⟨by rfl, fun w' _ => yu_value ?_⟩) ?_
    rotate_left
    · (go_simp; (try exact rfl))
    try simp only [Act.put, List.setIfInBounds_toArray, List.set_cons_zero, List.set_cons_succ]
    refine wpAnyU_pure (i := 7) (d := (some 15)) (v := ?_) rfl rfl (by kernel_rfl) (fun _ _ _ h => h) (fun _ _ h hu => ⟨(h.1).up hu, (h.2.1).up hu, (h.2.2.1).up hu, below_up (h.2.2.2) hu⟩) (Or.inl ⟨by rfl, fun w' _ => yu_value ?_⟩) ?_
    rotate_left
    · (go_simp; (try exact rfl))
    try simp only [Act.put, List.setIfInBounds_toArray, List.set_cons_zero, List.set_cons_succ]
    refine wpAnyU_allocW (i := 8) (d := (some 6)) rfl rfl (by kernel_rfl) (by rfl) rfl (fun _ _ h hu => ⟨(h.1).up hu, (h.2.1).up hu, (h.2.2.1).up hu, below_up (h.2.2.2) hu⟩) fun w1 hw1 => ?_
    try simp only [Act.put, List.setIfInBounds_toArray, List.set_cons_zero, List.set_cons_succ]
    refine wpAnyU_one (i := 9) rfl (by kernel_rfl) (by rfl) fun w2 hw2 => ?_
    refine wp_st_rowN infoW rfl _ _ rfl _ rfl rfl ((Row.up (row_newc _ 16 _ rfl) hw2)) ?_
    refine ⟨fun h => by simp at h, ?_⟩
    try simp only [Act.put, List.setIfInBounds_toArray, List.set_cons_zero, List.set_cons_succ]
    refine wpAnyU_pure (i := 10) (d := (some 7)) (v := ?_) rfl rfl (by kernel_rfl) (fun _ _ _ h => h) (fun _ _ h hu => ⟨(h.1).up hu, (h.2.1).up hu, (h.2.2.1).up hu, below_up (h.2.2.2) hu⟩) (Or.inl ⟨by rfl, fun w' _ => yu_value ?_⟩) ?_
    rotate_left
    · (go_simp; (try exact rfl))
    try simp only [Act.put, List.setIfInBounds_toArray, List.set_cons_zero, List.set_cons_succ]
    refine wpAnyU_done (by kernel_rfl) (fun wF huE => ?_) _
    have gX := ((((hS1.up hw1).up (Up.alloc _ _)).up hw2).row_other (cells 16 (limb p)) (show w.heap.size ≠ w1.heap.size by have := (hS1.up hw1).lt; omega)).up huE
    have gY := ((((hS2.up hw1).up (Up.alloc _ _)).up hw2).row_other (cells 16 (limb p)) (show w.heap.size + 1 ≠ w1.heap.size by have := (hS2.up hw1).lt; omega)).up huE
    have gR := ((((hS3.up hw1).up (Up.alloc _ _)).up hw2).row_other (cells 16 (limb p)) (show w.heap.size + 1 + 1 ≠ w1.heap.size by have := (hS3.up hw1).lt; omega)).up huE
    have gP := ((Row.up (row_newc 54 16 (fun _ => 0) (rfl : w1.heap.size = w1.heap.size)) hw2).setRow (limb p)).up huE
    have gB : Below w.heap.size w wF := below_up (below_setRow (below_up ((below_up hSB hw1).alloc (by have := (hS3.up hw1).lt; omega) _) hw2) (by have := (hS3.up hw1).lt; omega) _) huE
    have hne := (hS3.up hw1).lt
    clear hS1 hS2 hS3 hSB hSS hw1 hw2 huE
    generalize w1.heap.size = pb at *
    go_wp2
    refine wp_region_upS (S := (fun wq => Row wq w.heap.size 54 16 (limb (enc a)) ∧ Row wq (w.heap.size + 1) 54 16 (limb (enc b)) ∧ Row wq (w.heap.size + 1 + 1) 54 16 (fun _ => 0) ∧ Row wq pb 54 16 (limb p) ∧ Below w.heap.size w wq)) (req := (fun j => j != 9)) (by kernel_rfl) (fun _ _ h hu => ⟨(h.1).up hu, (h.2.1).up hu, (h.2.2.1).up hu, (h.2.2.2.1).up hu, below_up (h.2.2.2.2) hu⟩) ⟨(by (repeat (first | assumption | ((with_reducible apply row_newc); (focus (first | rfl | (simp; done)))) | ((with_reducible apply row_newz); (focus (first | rfl | (simp; done)))) | (with_reducible apply row_same) | ((with_reducible apply row_else); (focus (first | (simp; done) | (simp; omega) | omega))) | (with_reducible apply row_alloc) | (with_reducible apply row_drew) | (with_reducible apply row_drewN) | ((with_reducible apply row_up); assumption)))), (by (repeat (first | assumption | ((with_reducible apply row_newc); (focus (first | rfl | (simp; done)))) | ((with_reducible apply row_newz); (focus (first | rfl | (simp; done)))) | (with_reducible apply row_same) | ((with_reducible apply row_else); (focus (first | (simp; done) | (simp; omega) | omega))) | (with_reducible apply row_alloc) | (with_reducible apply row_drew) | (with_reducible apply row_drewN) | ((with_reducible apply row_up); assumption)))), (by (repeat (first | assumption | ((with_reducible apply row_newc); (focus (first | rfl | (simp; done)))) | ((with_reducible apply row_newz); (focus (first | rfl | (simp; done)))) | (with_reducible apply row_same) | ((with_reducible apply row_else); (focus (first | (simp; done) | (simp; omega) | omega))) | (with_reducible apply row_alloc) | (with_reducible apply row_drew) | (with_reducible apply row_drewN) | ((with_reducible apply row_up); assumption)))), (by (repeat (first | assumption | ((with_reducible apply row_newc); (focus (first | rfl | (simp; done)))) | ((with_reducible apply row_newz); (focus (first | rfl | (simp; done)))) | (with_reducible apply row_same) | ((with_reducible apply row_else); (focus (first | (simp; done) | (simp; omega) | omega))) | (with_reducible apply row_alloc) | (with_reducible apply row_drew) | (with_reducible apply row_drewN) | ((with_reducible apply row_up); assumption)))), (by repeat (first | assumption | (with_reducible apply Up.of) | (with_reducible exact Below.refl _ _) | (with_reducible exact Up.refl _) | ((with_reducible apply bl_setRow); (focus (first | exact Nat.le_refl _ | (simp; done) | (simp; omega) | omega))) | (with_reducible apply below_drewN) | (with_reducible apply Below.drew) | ((with_reducible apply bl_alloc); (focus (first | exact Nat.le_refl _ | (simp; done) | (simp; omega) | omega))) | ((with_reducible apply bl_setCell); (focus (first | exact Nat.le_refl _ | (simp; done) | (simp; omega) | omega))) | ((with_reducible apply up_tr); assumption)))⟩ (fun wS hSS => ?_)
    have ⟨hS1, hS2, hS3, hS4, hSB⟩ := hSS
    clear gX gY gR gP gB
    refine wpAnyU_take (i := 0) (d := (some 19)) (v := _) rfl rfl (by kernel_rfl) (fun _ _ _ h => h) (fun _ _ h hu => ⟨(h.1).up hu, (h.2.1).up hu, (h.2.2.1).up hu, (h.2.2.2.1).up hu, below_up (h.2.2.2.2) hu⟩) hSS (Or.inl ⟨by rfl, fun w' hSw => yu_value (run_ld undW infoW _ rfl _ rfl hSw.2.2.2.1)⟩) ?_
    try simp only [Act.put, List.setIfInBounds_toArray, List.set_cons_zero, List.set_cons_succ]
    refine wpAnyU_take (i := 1) (d := (some 20)) (v := _) rfl rfl (by kernel_rfl) (fun _ _ _ h => h) (fun _ _ h hu => ⟨(h.1).up hu, (h.2.1).up hu, (h.2.2.1).up hu, (h.2.2.2.1).up hu, below_up (h.2.2.2.2) hu⟩) hSS (Or.inl ⟨by rfl, fun w' hSw => yu_value (run_ld undW infoW _ rfl _ rfl hSw.1)⟩) ?_
    try simp only [Act.put, List.setIfInBounds_toArray, List.set_cons_zero, List.set_cons_succ]
    refine wpAnyU_take (i := 2) (d := (some 21)) (v := _) rfl rfl (by kernel_rfl) (fun _ _ _ h => h) (fun _ _ h hu => ⟨(h.1).up hu, (h.2.1).up hu, (h.2.2.1).up hu, (h.2.2.2.1).up hu, below_up (h.2.2.2.2) hu⟩) hSS (Or.inl ⟨by rfl, fun w' hSw => yu_call ?_ (HMA.out _)⟩) ?_
    · go_simp
    try simp only [Act.put, List.setIfInBounds_toArray, List.set_cons_zero, List.set_cons_succ]
    refine wpAnyU_take (i := 3) (d := (some 22)) (v := _) rfl rfl (by kernel_rfl) (fun _ _ _ h => h) (fun _ _ h hu => ⟨(h.1).up hu, (h.2.1).up hu, (h.2.2.1).up hu, (h.2.2.2.1).up hu, below_up (h.2.2.2.2) hu⟩) hSS (Or.inl ⟨by rfl, fun w' hSw => yu_value (run_ld undW infoW _ rfl _ rfl hSw.2.1)⟩) ?_
    try simp only [Act.put, List.setIfInBounds_toArray, List.set_cons_zero, List.set_cons_succ]
    refine wpAnyU_take (i := 4) (d := (some 23)) (v := _) rfl rfl (by kernel_rfl) (fun _ _ _ h => h) (fun _ _ h hu => ⟨(h.1).up hu, (h.2.1).up hu, (h.2.2.1).up hu, (h.2.2.2.1).up hu, below_up (h.2.2.2.2) hu⟩) hSS (Or.inl ⟨by rfl, fun w' hSw => yu_call ?_ (HMB.out _)⟩) ?_
    · go_simp
    try simp only [Act.put, List.setIfInBounds_toArray, List.set_cons_zero, List.set_cons_succ]
    refine wpAnyU_pure (i := 5) (d := (some 24)) (v := ?_) rfl rfl (by kernel_rfl) (fun _ _ _ h => h) (fun _ _ h hu => ⟨(h.1).up hu, (h.2.1).up hu, (h.2.2.1).up hu, (h.2.2.2.1).up hu, below_up (h.2.2.2.2) hu⟩) (Or.inl ⟨by rfl, fun w' _ => yu_value ?_⟩) ?_
    rotate_left
    · (go_simp; (try exact rfl))
    try simp only [Act.put, List.setIfInBounds_toArray, List.set_cons_zero, List.set_cons_succ]
    refine wpAnyU_take (i := 6) (d := (some 25)) (v := _) rfl rfl (by kernel_rfl) (fun _ _ _ h => h) (fun _ _ h hu => ⟨(h.1).up hu, (h.2.1).up hu, (h.2.2.1).up hu, (h.2.2.2.1).up hu, below_up (h.2.2.2.2) hu⟩) hSS (Or.inl ⟨by rfl, fun w' hSw => yu_call ?_ (HS.out _)⟩) ?_
    · go_simp
    try simp only [Act.put, List.setIfInBounds_toArray, List.set_cons_zero, List.set_cons_succ]
    refine wpAnyU_pure (i := 7) (d := (some 26)) (v := ?_) rfl rfl (by kernel_rfl) (fun _ _ _ h => h) (fun _ _ h hu => ⟨(h.1).up hu, (h.2.1).up hu, (h.2.2.1).up hu, (h.2.2.2.1).up hu, below_up (h.2.2.2.2) hu⟩) (Or.inl ⟨by rfl, fun w' _ => yu_value ?_⟩) ?_
    rotate_left
    · (go_simp; (try exact rfl))
    try simp only [Act.put, List.setIfInBounds_toArray, List.set_cons_zero, List.set_cons_succ]
    refine wpAnyU_pure (i := 8) (d := (some 27)) (v := ?_) rfl rfl (by kernel_rfl) (fun _ _ _ h => h) (fun _ _ h hu => ⟨(h.1).up hu, (h.2.1).up hu, (h.2.2.1).up hu, (h.2.2.2.1).up hu, below_up (h.2.2.2.2) hu⟩) (Or.inl ⟨by rfl, fun w' _ => yu_value ?_⟩) ?_
    rotate_left
    · (go_simp; (try exact rfl))
    try simp only [Act.put, List.setIfInBounds_toArray, List.set_cons_zero, List.set_cons_succ]
    refine wpAnyU_one (i := 9) rfl (by kernel_rfl) (by rfl) fun w4 hw4 => ?_
    refine wp_st_rowN infoW rfl _ _ rfl _ rfl rfl ((hS3.up hw4)) ?_
    refine ⟨fun h => by simp at h, ?_⟩
    try simp only [Act.put, List.setIfInBounds_toArray, List.set_cons_zero, List.set_cons_succ]
    refine wpAnyU_pure (i := 10) (d := (some 5)) (v := ?_) rfl rfl (by kernel_rfl) (fun _ _ _ h => h) (fun _ _ h hu => ⟨(h.1).up hu, (h.2.1).up hu, (h.2.2.1).up hu, (h.2.2.2.1).up hu, below_up (h.2.2.2.2) hu⟩) (Or.inl ⟨by rfl, fun w' _ => yu_value ?_⟩) ?_
    rotate_left
    · (go_simp; (try exact rfl))
    try simp only [Act.put, List.setIfInBounds_toArray, List.set_cons_zero, List.set_cons_succ]
    refine wpAnyU_done (by kernel_rfl) (fun wF huE => ?_) _
    have gR := ((hS3.up hw4).setRow (limb v)).up huE
    have gB := below_up (below_setRow (below_up hSB hw4) (by omega) _) huE
    clear hS1 hS2 hS3 hS4 hSB hSS hw4 huE
    go_wp2
    exact bodyPost_ret (res2 rfl undW infoW _ _ rfl gR) rfl ⟨rfl, gB⟩
  · have hv : prodV (a.natAbs * b.natAbs) = .tuple #[.agg (cells 16 (fun _ => 0)), .bool false] := by
      unfold prodV
      rw [if_neg hp, decide_eq_false hp, zeroW]
    rw [hv] at hT
    have HT := hid hT
    have ho := opt_no (mul_not hp)
    rw [ho]
    clear hT hv ea eb ho hp
    generalize a.natAbs = m at *
    generalize b.natAbs = n at *
    unfold wideV at *
    go_enter Tryz.func77, Tryz.ntmps77
    go_wp2
    refine wp_region_upS (S := (fun wq => Row wq w.heap.size 54 16 (limb (enc a)) ∧ Row wq (w.heap.size + 1) 54 16 (limb (enc b)) ∧ Row wq (w.heap.size + 1 + 1) 54 16 (fun _ => 0) ∧ Below w.heap.size w wq)) (req := (fun j => j != 9)) (by kernel_rfl) (fun _ _ h hu => ⟨(h.1).up hu, (h.2.1).up hu, (h.2.2.1).up hu, below_up (h.2.2.2) hu⟩) ⟨(by (repeat (first | assumption | ((with_reducible apply row_newc); (focus (first | rfl | (simp; done)))) | ((with_reducible apply row_newz); (focus (first | rfl | (simp; done)))) | (with_reducible apply row_same) | ((with_reducible apply row_else); (focus (first | (simp; done) | (simp; omega) | omega))) | (with_reducible apply row_alloc) | (with_reducible apply row_drew) | (with_reducible apply row_drewN) | ((with_reducible apply row_up); assumption)))), (by (repeat (first | assumption | ((with_reducible apply row_newc); (focus (first | rfl | (simp; done)))) | ((with_reducible apply row_newz); (focus (first | rfl | (simp; done)))) | (with_reducible apply row_same) | ((with_reducible apply row_else); (focus (first | (simp; done) | (simp; omega) | omega))) | (with_reducible apply row_alloc) | (with_reducible apply row_drew) | (with_reducible apply row_drewN) | ((with_reducible apply row_up); assumption)))), (by (repeat (first | assumption | ((with_reducible apply row_newc); (focus (first | rfl | (simp; done)))) | ((with_reducible apply row_newz); (focus (first | rfl | (simp; done)))) | (with_reducible apply row_same) | ((with_reducible apply row_else); (focus (first | (simp; done) | (simp; omega) | omega))) | (with_reducible apply row_alloc) | (with_reducible apply row_drew) | (with_reducible apply row_drewN) | ((with_reducible apply row_up); assumption)))), (by repeat (first | assumption | (with_reducible apply Up.of) | (with_reducible exact Below.refl _ _) | (with_reducible exact Up.refl _) | ((with_reducible apply bl_setRow); (focus (first | exact Nat.le_refl _ | (simp; done) | (simp; omega) | omega))) | (with_reducible apply below_drewN) | (with_reducible apply Below.drew) | ((with_reducible apply bl_alloc); (focus (first | exact Nat.le_refl _ | (simp; done) | (simp; omega) | omega))) | ((with_reducible apply bl_setCell); (focus (first | exact Nat.le_refl _ | (simp; done) | (simp; omega) | omega))) | ((with_reducible apply up_tr); assumption)))⟩ (fun wS hSS => ?_)
    have ⟨hS1, hS2, hS3, hSB⟩ := hSS
    refine wpAnyU_take (i := 0) (d := (some 9)) (v := _) rfl rfl (by kernel_rfl) (fun _ _ _ h => h) (fun _ _ h hu => ⟨(h.1).up hu, (h.2.1).up hu, (h.2.2.1).up hu, below_up (h.2.2.2) hu⟩) hSS (Or.inl ⟨by rfl, fun w' hSw => yu_value (run_ld undW infoW _ rfl _ rfl hSw.1)⟩) ?_
    try simp only [Act.put, List.setIfInBounds_toArray, List.set_cons_zero, List.set_cons_succ]
    refine wpAnyU_take (i := 1) (d := (some 10)) (v := _) rfl rfl (by kernel_rfl) (fun _ _ _ h => h) (fun _ _ h hu => ⟨(h.1).up hu, (h.2.1).up hu, (h.2.2.1).up hu, below_up (h.2.2.2) hu⟩) hSS (Or.inl ⟨by rfl, fun w' hSw => yu_call ?_ (HA.out _)⟩) ?_
    · go_simp
    try simp only [Act.put, List.setIfInBounds_toArray, List.set_cons_zero, List.set_cons_succ]
    refine wpAnyU_take (i := 2) (d := (some 11)) (v := _) rfl rfl (by kernel_rfl) (fun _ _ _ h => h) (fun _ _ h hu => ⟨(h.1).up hu, (h.2.1).up hu, (h.2.2.1).up hu, below_up (h.2.2.2) hu⟩) hSS (Or.inl ⟨by rfl, fun w' hSw => yu_value (run_ld undW infoW _ rfl _ rfl hSw.2.1)⟩) ?_
    try simp only [Act.put, List.setIfInBounds_toArray, List.set_cons_zero, List.set_cons_succ]
    refine wpAnyU_take (i := 3) (d := (some 12)) (v := _) rfl rfl (by kernel_rfl) (fun _ _ _ h => h) (fun _ _ h hu => ⟨(h.1).up hu, (h.2.1).up hu, (h.2.2.1).up hu, below_up (h.2.2.2) hu⟩) hSS (Or.inl ⟨by rfl, fun w' hSw => yu_call ?_ (HB.out _)⟩) ?_
    · go_simp
    try simp only [Act.put, List.setIfInBounds_toArray, List.set_cons_zero, List.set_cons_succ]
    refine wpAnyU_take (i := 4) (d := (some 13)) (v := _) rfl rfl (by kernel_rfl) (fun _ _ _ h => h) (fun _ _ h hu => ⟨(h.1).up hu, (h.2.1).up hu, (h.2.2.1).up hu, below_up (h.2.2.2) hu⟩) hSS (Or.inl ⟨by rfl, fun w' hSw => yu_call ?_ (HT.out _)⟩) ?_
    · go_simp
    try simp only [Act.put, List.setIfInBounds_toArray, List.set_cons_zero, List.set_cons_succ]
    refine wpAnyU_pure (i := 5) (d := (some 8)) (v := ?_) rfl rfl (by kernel_rfl) (fun _ _ _ h => h) (fun _ _ h hu => ⟨(h.1).up hu, (h.2.1).up hu, (h.2.2.1).up hu, below_up (h.2.2.2) hu⟩) (Or.inl ⟨by rfl, fun w' _ => yu_value ?_⟩) ?_
    rotate_left
    · (go_simp; (try exact rfl))
    try simp only [Act.put, List.setIfInBounds_toArray, List.set_cons_zero, List.set_cons_succ]
    refine wpAnyU_pure (i := 6) (d := (some 14)) (v := ?_) rfl rfl (by kernel_rfl) (fun _ _ _ h => h) (fun _ _ h hu => ⟨(h.1).up hu, (h.2.1).up hu, (h.2.2.1).up hu, below_up (h.2.2.2) hu⟩) (Or.inl ⟨by rfl, fun w' _ => yu_value ?_⟩) ?_
    rotate_left
    · (go_simp; (try exact rfl))
    try simp only [Act.put, List.setIfInBounds_toArray, List.set_cons_zero, List.set_cons_succ]
    refine wpAnyU_pure (i := 7) (d := (some 15)) (v := ?_) rfl rfl (by kernel_rfl) (fun _ _ _ h => h) (fun _ _ h hu => ⟨(h.1).up hu, (h.2.1).up hu, (h.2.2.1).up hu, below_up (h.2.2.2) hu⟩) (Or.inl ⟨by rfl, fun w' _ => yu_value ?_⟩) ?_
    rotate_left
    · (go_simp; (try exact rfl))
    try simp only [Act.put, List.setIfInBounds_toArray, List.set_cons_zero, List.set_cons_succ]
    refine wpAnyU_allocW (i := 8) (d := (some 6)) rfl rfl (by kernel_rfl) (by rfl) rfl (fun _ _ h hu => ⟨(h.1).up hu, (h.2.1).up hu, (h.2.2.1).up hu, below_up (h.2.2.2) hu⟩) fun w1 hw1 => ?_
    try simp only [Act.put, List.setIfInBounds_toArray, List.set_cons_zero, List.set_cons_succ]
    refine wpAnyU_one (i := 9) rfl (by kernel_rfl) (by rfl) fun w2 hw2 => ?_
    refine wp_st_rowN infoW rfl _ _ rfl _ rfl rfl ((Row.up (row_newc _ 16 _ rfl) hw2)) ?_
    refine ⟨fun h => by simp at h, ?_⟩
    try simp only [Act.put, List.setIfInBounds_toArray, List.set_cons_zero, List.set_cons_succ]
    refine wpAnyU_pure (i := 10) (d := (some 7)) (v := ?_) rfl rfl (by kernel_rfl) (fun _ _ _ h => h) (fun _ _ h hu => ⟨(h.1).up hu, (h.2.1).up hu, (h.2.2.1).up hu, below_up (h.2.2.2) hu⟩) (Or.inl ⟨by rfl, fun w' _ => yu_value ?_⟩) ?_
    rotate_left
    · (go_simp; (try exact rfl))
    try simp only [Act.put, List.setIfInBounds_toArray, List.set_cons_zero, List.set_cons_succ]
    refine wpAnyU_done (by kernel_rfl) (fun wF huE => ?_) _
    have gR := ((((hS3.up hw1).up (Up.alloc _ _)).up hw2).row_other (cells 16 (fun _ => 0)) (show w.heap.size + 1 + 1 ≠ w1.heap.size by have := (hS3.up hw1).lt; omega)).up huE
    have gB : Below w.heap.size w wF := below_up (below_setRow (below_up ((below_up hSB hw1).alloc (by have := (hS3.up hw1).lt; omega) _) hw2) (by have := (hS3.up hw1).lt; omega) _) huE
    clear hS1 hS2 hS3 hSB hSS hw1 hw2 huE
    go_wp2_with (first | ((with_reducible apply st_rowP infoW); exact rfl; exact rfl; focus (repeat (first | assumption | ((with_reducible apply row_newc); (focus (first | rfl | (simp; done)))) | ((with_reducible apply row_newz); (focus (first | rfl | (simp; done)))) | (with_reducible apply row_same) | ((with_reducible apply row_else); (focus (first | (simp; done) | (simp; omega) | omega))) | (with_reducible apply row_alloc) | (with_reducible apply row_drew) | (with_reducible apply row_drewN) | ((with_reducible apply row_up); assumption)))) | ((with_reducible apply st_rowZ infoW); exact rfl; exact rfl; focus (repeat (first | assumption | ((with_reducible apply row_newc); (focus (first | rfl | (simp; done)))) | ((with_reducible apply row_newz); (focus (first | rfl | (simp; done)))) | (with_reducible apply row_same) | ((with_reducible apply row_else); (focus (first | (simp; done) | (simp; omega) | omega))) | (with_reducible apply row_alloc) | (with_reducible apply row_drew) | (with_reducible apply row_drewN) | ((with_reducible apply row_up); assumption)))))
    exact bodyPost_ret (res2 rfl undW infoW _ _ rfl (by (repeat (first | assumption | ((with_reducible apply row_newc); (focus (first | rfl | (simp; done)))) | ((with_reducible apply row_newz); (focus (first | rfl | (simp; done)))) | (with_reducible apply row_same) | ((with_reducible apply row_else); (focus (first | (simp; done) | (simp; omega) | omega))) | (with_reducible apply row_alloc) | (with_reducible apply row_drew) | (with_reducible apply row_drewN) | ((with_reducible apply row_up); assumption))))) rfl ⟨rfl, (by repeat (first | assumption | (with_reducible apply Up.of) | (with_reducible exact Below.refl _ _) | (with_reducible exact Up.refl _) | ((with_reducible apply bl_setRow); (focus (first | exact Nat.le_refl _ | (simp; done) | (simp; omega) | omega))) | (with_reducible apply below_drewN) | (with_reducible apply Below.drew) | ((with_reducible apply bl_alloc); (focus (first | exact Nat.le_refl _ | (simp; done) | (simp; omega) | omega))) | ((with_reducible apply bl_setCell); (focus (first | exact Nat.le_refl _ | (simp; done) | (simp; omega) | omega))) | ((with_reducible apply up_tr); assumption)))⟩
end Go.Proofs.YtdcpoamjmoceiaaGreatDoor
/-
  Operations on unsigned 64-bit numbers, told as natural numbers: their run, and their step in a list of operations.
-/
namespace Go.Proofs.YtdcpoamjmoceiaaGreatDoor
open Go Go.RowKit
set_option maxRecDepth 100000

/-- What a test of two numbers is known to tell. -/
structure IsP (p : Prop) (b : Bool) : Prop where
  out : b = true ↔ p
theorem IsP.no {p : Prop} (h : ¬ p) : IsP p false := ⟨by simp [h]⟩
end Go.Proofs.YtdcpoamjmoceiaaGreatDoor
/-
  Division of two limbs by one, by halves: the numbers alone.
-/
namespace Go.Proofs.YtdcpoamjmoceiaaGreatDoor

/-- What a half's quotient is. -/
def hq (u v n1 : Nat) : Nat := (4294967296 * u + n1) / v
/-- A guess of it, that isn't too small. -/
structure Half (u v1 v0 n1 q r : Nat) : Prop where
  eq : q * v1 + r = u
  ge : hq u (4294967296 * v1 + v0) n1 ≤ q
  le : q ≤ 4294967297
  lt : r < 4294967296
end Go.Proofs.YtdcpoamjmoceiaaGreatDoor
/-
  math/bits.Div64: two limbs by one.
-/
namespace Go.Proofs.YtdcpoamjmoceiaaGreatDoor
open Go Go.RowKit
set_option maxRecDepth 100000

end Go.Proofs.YtdcpoamjmoceiaaGreatDoor
/-
  wide: division by a number of one limb.
-/
namespace Go.Proofs.YtdcpoamjmoceiaaGreatDoor
open Go Go.RowKit
set_option maxRecDepth 100000

/-- Block b holds n limbs, whichever. -/
def ExRow (w : World) (b : Nat) (t : TypeId) (n : Nat) : Prop := ∃ f, Row w b t n f
theorem ExRow.up {w w' : World} {b n : Nat} {t : TypeId} (h : ExRow w b t n) (hu : Up w w') : ExRow w' b t n := let ⟨f, hf⟩ := h; ⟨f, hf.up hu⟩
theorem ExRow.st {w : World} {b c n : Nat} {t : TypeId} (h : ExRow w b t n) (v : Nat → Nat) : ExRow (w.setRow c (cells n v)) b t n := by
  obtain ⟨f, hf⟩ := h
  by_cases e : b = c
  · subst e; exact ⟨v, hf.setRow v⟩
  · exact ⟨f, hf.row_other _ e⟩
end Go.Proofs.YtdcpoamjmoceiaaGreatDoor
/-
  wide.divide: amounts' quotients and rests, by a divisor that is above the dividend, or of one limb.
-/
namespace Go.Proofs.YtdcpoamjmoceiaaGreatDoor
open Go Go.RowKit
set_option maxRecDepth 100000

end Go.Proofs.YtdcpoamjmoceiaaGreatDoor
/-
  wide.Div: quotient and rest of whole numbers, where the amounts' division is told.
-/
namespace Go.Proofs.YtdcpoamjmoceiaaGreatDoor
open Go Go.RowKit
set_option maxRecDepth 100000

end Go.Proofs.YtdcpoamjmoceiaaGreatDoor
/-
  wide.Round: the nearest whole number, where the amounts' division is told.
-/
namespace Go.Proofs.YtdcpoamjmoceiaaGreatDoor
open Go Go.RowKit
set_option maxRecDepth 100000

end Go.Proofs.YtdcpoamjmoceiaaGreatDoor
/-
  known: the few numbers that the laws of layer 1 ask first.
-/
namespace Go.Proofs.YtdcpoamjmoceiaaGreatDoor
open Go Go.RowKit
set_option maxRecDepth 100000

theorem op_eqS {o : Oper} {a : Act} {x y : Operand} {u : TypeId} (ho : o.op = .binOp .eql 54 x y u) {p : Nat} (hx : a.eval x = .agg (cells 16 (limb p))) (hy : a.eval y = .agg (cells 16 (limb p))) (hp : p < bp 16) (w : World) :
    (execOp a.eval o).run Tryz.prog w = .ok (.value (.bool true)) w := by
  have h := op_eqW ho hx hy hp hp w
  simpa using h
end Go.Proofs.YtdcpoamjmoceiaaGreatDoor
/-
  Powers of two, their limbs and bits; the end of a law's proof where the world only grew below a height.
-/
namespace Go.Proofs.YtdcpoamjmoceiaaGreatDoor
open Go Go.RowKit Go.ChangeShapes

theorem hb_pow (i : Nat) (h : i = 1023) : hb = 2 ^ i := by
  have h1 := bp16
  rw [bp_two, show 64 * 16 = i + 1 by omega, Nat.pow_succ] at h1
  omega
section
variable {H : Type} {enc : TypeId × Value → H} {P : Program}
end
end Go.Proofs.YtdcpoamjmoceiaaGreatDoor
/-
  The reference's amounts: slices of limbs without noughts behind.
-/
namespace Go.Proofs.YtdcpoamjmoceiaaGreatDoor
open Go Go.RowKit
set_option maxRecDepth 100000

/-! ### How many limbs a number has -/
theorem lt_bp_self (x : Nat) : x < bp x := by
  induction x with
  | zero => rw [bp_zero]; omega
  | succ n ih => rw [bp_succ]; omega
def nl (x : Nat) : Nat := lenL (limb x) x
theorem sum_len {x N : Nat} (h : x < bp N) : sumL (limb x) (lenL (limb x) N) = x := by
  rw [lenL_sum, sumL_limb, Nat.mod_eq_of_lt h]
theorem lt_bp_len {x N : Nat} (h : x < bp N) : x < bp (lenL (limb x) N) := by
  have h1 := sum_len h
  have h2 := sumL_lt (f := limb x) (k := lenL (limb x) N) fun i _ => limb_lt x i
  omega
theorem nl_eq {x N : Nat} (h : x < bp N) : lenL (limb x) N = nl x := by
  have h1 := lt_bp_len h
  have h2 := lenL_top (limb x) N
  have hle : lenL (limb x) N ≤ x ∨ lenL (limb x) N = 0 := by
    rcases Nat.eq_zero_or_pos (lenL (limb x) N) with h0 | h0
    · exact .inr h0
    · have h3 := bp_le_of_len (limb x) N h0
      rw [sumL_limb, Nat.mod_eq_of_lt h] at h3
      have h4 := lt_bp_self (lenL (limb x) N - 1)
      exact .inl (by omega)
  refine (lenL_of (limb x) (by omega) (fun i hi _ => limb_of_small h1 hi) ?_).symm
  rcases Nat.eq_zero_or_pos (lenL (limb x) N) with h0 | h0
  · exact .inl h0
  · exact .inr (h2 h0)
theorem lt_bp_nl (x : Nat) : x < bp (nl x) := lt_bp_len (lt_bp_self x)
theorem bp_le_nl {x : Nat} (h : 0 < nl x) : bp (nl x - 1) ≤ x := by
  have h3 := bp_le_of_len (limb x) x h
  rw [sumL_limb, Nat.mod_eq_of_lt (lt_bp_self x)] at h3
  exact h3
theorem nl_le {x k : Nat} (h : x < bp k) : nl x ≤ k := by rw [← nl_eq h]; exact lenL_le _ _
theorem nl_zero : nl 0 = 0 := rfl
theorem nl_pos {x : Nat} (h : 0 < x) : 0 < nl x := by
  rcases Nat.eq_zero_or_pos (nl x) with h0 | h0
  · have := lt_bp_nl x
    rw [h0, bp_zero] at this
    omega
  · exact h0
theorem nl_pos_iff {x : Nat} : 0 < nl x ↔ 0 < x := by
  constructor
  · intro h
    rcases Nat.eq_zero_or_pos x with h0 | h0
    · subst h0; simp [nl_zero] at h
    · exact h0
  · exact nl_pos
theorem limb_nl {x i : Nat} (h : nl x ≤ i) : limb x i = 0 := limb_of_small (lt_bp_nl x) h
theorem sum_nl (x : Nat) : sumL (limb x) (nl x) = x := sum_len (lt_bp_self x)
theorem nl_sum {S : Nat → Nat} {n : Nat} (hS : ∀ i, i < n → S i < 18446744073709551616) : nl (sumL S n) = lenL S n := by
  rw [← nl_eq (sumL_lt hS)]
  exact lenL_congr fun i hi => limb_sumL hS hi

/-! ### An amount in memory -/
def Am (w : World) (v : Value) (x : Nat) : Prop :=
  ∃ a c, v = .slice a (nl x) c ∧ nl x ≤ c ∧ (0 < nl x → ∃ b C, a = some ⟨b, 0, none⟩ ∧ Blk w b 52 C ∧ ∀ i, i < nl x → C[i]? = some (.int .u64 (limb x i : Nat)))
theorem Am.up {w w' : World} {v : Value} {x : Nat} (h : Am w v x) (hu : Up w w') : Am w' v x := by
  obtain ⟨a, c, h1, h2, h3⟩ := h
  refine ⟨a, c, h1, h2, fun h0 => ?_⟩
  obtain ⟨b, C, h4, h6, h7⟩ := h3 h0
  exact ⟨b, C, h4, h6.up hu, h7⟩
/-- As a walk wants it: the slice, and its cells in every world that stands above. -/
theorem Am.open {w : World} {v : Value} {x : Nat} (h : Am w v x) : ∃ a c, v = .slice a (nl x) c ∧ nl x ≤ c ∧
    ∀ i, i < nl x → ∃ b, a = some ⟨b, 0, none⟩ ∧ b < w.heap.size ∧ ∀ w', Up w w' → w'.cell? ⟨b, i, none⟩ = some (.int .u64 (limb x i : Nat)) := by
  obtain ⟨a, c, h1, h2, h3⟩ := h
  refine ⟨a, c, h1, h2, fun i hi => ?_⟩
  obtain ⟨b, C, h4, h6, h7⟩ := h3 (by omega)
  exact ⟨b, h4, h6.lt, fun w' hu => (h6.up hu).cell i (h7 i hi)⟩
theorem am_nil (w : World) : Am w (.slice none 0 0) 0 := ⟨none, 0, by rw [nl_zero], by rw [nl_zero]; exact Nat.le_refl _, fun h => by rw [nl_zero] at h; omega⟩
theorem am_blk {w : World} {b n c : Nat} {S : Nat → Nat} {C : Array Value} (hB : Blk w b 52 C) (hC : ∀ i, i < n → C[i]? = some (.int .u64 (S i : Nat))) (hc : n ≤ c) (hS : ∀ i, i < n → S i < 18446744073709551616) :
    Am w (.slice (some ⟨b, 0, none⟩) (lenL S n) c) (sumL S n) := by
  have h1 := lenL_le S n
  refine ⟨_, c, by rw [nl_sum hS], by rw [nl_sum hS]; omega, fun _ => ⟨b, C, rfl, hB, fun i hi => ?_⟩⟩
  rw [nl_sum hS] at hi
  rw [limb_sumL hS (by omega)]
  exact hC i (by omega)
theorem am_row {w : World} {b n N c : Nat} {S : Nat → Nat} (hR : Row w b 52 N S) (hN : n ≤ N) (hc : n ≤ c) (hS : ∀ i, i < n → S i < 18446744073709551616) :
    Am w (.slice (some ⟨b, 0, none⟩) (lenL S n) c) (sumL S n) := am_blk hR (fun i hi => cells_get N S i (by omega)) hc hS
def slen : Value → Nat
  | .slice _ n _ => n
  | _ => 0
set_option maxHeartbeats 400000 in
theorem trim_cells (b n c : Nat) (S : Nat → Nat) (w : World) (hR : ∀ i, i < n → w.cell? ⟨b, i, none⟩ = some (.int .u64 (S i : Nat))) (hc : n ≤ c) (hn : n < 1000000) :
    Calls Tryz.prog 82 #[.slice (some ⟨b, 0, none⟩) n c] w fun e w' => e = .returned (.slice (some ⟨b, 0, none⟩) (lenL S n) c) ∧ Up w w' := by
  go_enter Tryz.func82, Tryz.ntmps82
  go_wp2
  go_loopw [0] (fun t wr => ∃ k : Nat, k ≤ n ∧ t = .slice (some ⟨b, 0, none⟩) k c ∧ lenL S k = lenL S n ∧ wr = w) (fun t _ => slen t)
  case atStart => exact ⟨n, Nat.le_refl _, rfl, rfl, rfl⟩
  case round =>
    obtain ⟨k, hk, rfl, hl, rfl⟩ := hrel
    by_cases h0 : 0 < k
    · obtain ⟨j, rfl⟩ : ∃ j, k = j + 1 := ⟨k - 1, by omega⟩
      have hcx := hR j (by omega)
      have hstep := lenL_succ S j
      have hjc : (j : Int) ≤ c := by omega
      generalize S j = s at *
      by_cases hs : s = 0
      · subst hs
        rw [if_pos rfl] at hstep
        have HL := hid (hstep.symm.trans hl)
        clear hstep hl
        go_wp2
        go_roundw
        case rel => exact ⟨j, by omega, rfl, HL.out, trivial⟩
        case measure => simp [slen]
      · rw [if_neg hs] at hstep
        have HL := hid (hstep.symm.trans hl)
        have hb : ((s : Int) == 0) = false := by simpa using hs
        clear hstep hl hs
        go_wp2
        go_ret
        exact ⟨by rw [← HL.out]; rfl, (by repeat (first | assumption | (with_reducible apply Up.of) | (with_reducible exact Below.refl _ _) | (with_reducible exact Up.refl _) | ((with_reducible apply bl_setRow); (focus (first | exact Nat.le_refl _ | (simp; done) | (simp; omega) | omega))) | (with_reducible apply below_drewN) | (with_reducible apply Below.drew) | ((with_reducible apply bl_alloc); (focus (first | exact Nat.le_refl _ | (simp; done) | (simp; omega) | omega))) | ((with_reducible apply bl_setCell); (focus (first | exact Nat.le_refl _ | (simp; done) | (simp; omega) | omega))) | ((with_reducible apply up_tr); assumption)))⟩
    · obtain rfl : k = 0 := by omega
      have HL := hid hl
      clear hl
      go_wp2
      go_ret
      exact ⟨by rw [← HL.out]; rfl, (by repeat (first | assumption | (with_reducible apply Up.of) | (with_reducible exact Below.refl _ _) | (with_reducible exact Up.refl _) | ((with_reducible apply bl_setRow); (focus (first | exact Nat.le_refl _ | (simp; done) | (simp; omega) | omega))) | (with_reducible apply below_drewN) | (with_reducible apply Below.drew) | ((with_reducible apply bl_alloc); (focus (first | exact Nat.le_refl _ | (simp; done) | (simp; omega) | omega))) | ((with_reducible apply bl_setCell); (focus (first | exact Nat.le_refl _ | (simp; done) | (simp; omega) | omega))) | ((with_reducible apply up_tr); assumption)))⟩
theorem trim_row (b n N c : Nat) (S : Nat → Nat) (w : World) (hR : Row w b 52 N S) (hN : n ≤ N) (hc : n ≤ c) (hn : n < 1000000) :
    Calls Tryz.prog 82 #[.slice (some ⟨b, 0, none⟩) n c] w fun e w' => e = .returned (.slice (some ⟨b, 0, none⟩) (lenL S n) c) ∧ Up w w' :=
  trim_cells b n c S w (fun i hi => hR.cell i (by omega)) hc hn
end Go.Proofs.YtdcpoamjmoceiaaGreatDoor
/-
  The reference's sums and differences of amounts.
-/
namespace Go.Proofs.YtdcpoamjmoceiaaGreatDoor
open Go Go.RowKit
set_option maxRecDepth 100000

theorem undS : Tryz.prog.underlying 59 = some (.slice 52) := by kernel_rfl
theorem infoU : (Tryz.prog.info? 52).map (fun i => (i.zero, i.size, i.bytes)) = some (some (.int .u64 0), 1, 8) := by kernel_rfl
theorem zeros_made (n : Nat) : madeCells (Value.int .u64 0).cells n = cells n (fun _ => 0) := by
  unfold cells
  apply Array.ext
  · simp [madeCells]
  · intro i h1 h2
    simp [madeCells, Value.cells, Nat.mod_one]
theorem mkP {ops : Array Oper} {rest : List Oper} {Q : Exit → Act → World → Prop} {a : Act} {w : World} {d : Option Tmp} {l : Tmp} {ty : TypeId} {pos : String} {af : Array Edge} {L : Int} {n : Nat} (hl : a.eval (.tmp l) = .int .i64 L) (hL : L = (n : Int)) (hn : n < 1000000)
    (h : wpList Tryz.prog ops Q rest (a.put d (.slice (some ⟨w.heap.size, 0, none⟩) n n)) (w.alloc (.cells (cells n (fun _ => 0)) 52))) :
    wpList Tryz.prog ops Q ({ dst := d, op := .makeSlice 59 (.tmp l) (.tmp l), type := ty, pos := pos, after := af, guard := none } :: rest) a w := by
  refine wpList_plain rfl fun _ hK => ?_
  have hi := infoU
  cases hq : Tryz.prog.info? 52 with
  | none => rw [hq] at hi; simp at hi
  | some i =>
    rw [hq] at hi
    simp only [Option.map_some, Option.some.injEq, Prod.mk.injEq] at hi
    have hr := run_make (P := Tryz.prog) (w := w) 59 52 i (.int .u64 0) undS hq hi.1 .i64 .i64 L L (by omega) (by omega) (by rw [hi.2.2]; omega) (by omega)
    rw [hi.2.1, Nat.mul_one, hL, Int.toNat_natCast, zeros_made] at hr
    unfold Oper.wp execOp
    simp only [hl, hL, Sem.run_bind, Sem.run_pure, Result.andThen_ok, hr]
    exact hK _ _ h
theorem plus_end {S : Nat → Nat} {x y k c : Nat} (_ : ∀ j, j < k + 1 → S j < 18446744073709551616) (hx : nl x ≤ k) (hy : nl y ≤ k) (h : sumL S (k + 1) + c * bp (k + 1) = sumL (limb x) (k + 1) + sumL (limb y) (k + 1)) : sumL S (k + 1) = x + y := by
  have h1 := bp_mono hx
  have h2 := bp_mono hy
  have h3 := lt_bp_nl x
  have h4 := lt_bp_nl y
  have h5 := bp_succ k
  rw [sumL_limb, sumL_limb, Nat.mod_eq_of_lt (show x < bp (k + 1) by omega), Nat.mod_eq_of_lt (show y < bp (k + 1) by omega)] at h
  rcases Nat.eq_zero_or_pos c with h0 | h0
  · subst h0; omega
  · have : 1 * bp (k + 1) ≤ c * bp (k + 1) := Nat.mul_le_mul_right _ h0
    omega
theorem minus_end {S : Nat → Nat} {x y k c : Nat} (hS : ∀ j, j < k → S j < 18446744073709551616) (hx : nl x ≤ k) (hxy : y ≤ x) (h : sumL S k + sumL (limb y) k = sumL (limb x) k + c * bp k) : sumL S k = x - y := by
  have h1 := bp_mono hx
  have h3 := lt_bp_nl x
  have h5 := sumL_lt hS
  rw [sumL_limb, sumL_limb, Nat.mod_eq_of_lt (show x < bp k by omega), Nat.mod_eq_of_lt (show y < bp k by omega)] at h
  rcases Nat.eq_zero_or_pos c with h0 | h0
  · subst h0; omega
  · have : 1 * bp k ≤ c * bp k := Nat.mul_le_mul_right _ h0
    omega
theorem padd_step {S : Nat → Nat} {X Y A B c r c' i : Nat} (h : sumL S i + c * bp i = A + B) (hr : r + c' * 18446744073709551616 = X + Y + c) : sumL (upd S i r) (i + 1) + c' * bp (i + 1) = A + X * bp i + (B + Y * bp i) := by
  rw [sumL_upd_succ, bp_succ]
  have h2 : (r + c' * 18446744073709551616) * bp i = (X + Y + c) * bp i := by rw [hr]
  have h3 : r * bp i + c' * (bp i * 18446744073709551616) = X * bp i + Y * bp i + c * bp i := by grind
  omega
theorem psub_step {S : Nat → Nat} {X Y A B c r c' i : Nat} (h : sumL S i + B = A + c * bp i) (hr : r + Y + c = X + c' * 18446744073709551616) : sumL (upd S i r) (i + 1) + (B + Y * bp i) = A + X * bp i + c' * bp (i + 1) := by
  rw [sumL_upd_succ, bp_succ]
  have h2 : (r + Y + c) * bp i = (X + c' * 18446744073709551616) * bp i := by rw [hr]
  have h3 : r * bp i + Y * bp i + c * bp i = X * bp i + c' * (bp i * 18446744073709551616) := by grind
  omega
set_option maxHeartbeats 1000000 in
theorem plus_am {x y : Nat} {va vb : Value} {w : World} (ha : Am w va x) (hb : Am w vb y) (hx : nl x < 100000) (hy : nl y < 100000) :
    Calls Tryz.prog 79 #[va, vb] w fun e w' => Up w w' ∧ ∃ v, e = .returned v ∧ Am w' v (x + y) := by
  obtain ⟨a, ca, rfl, hca1, hca0⟩ := ha.open
  obtain ⟨b, cb, rfl, hcb1, hcb0⟩ := hb.open
  obtain ⟨k, hk, hk1, hk2, hk3⟩ : ∃ k : Nat, max ((nl x : Nat) : Int) (nl y : Nat) = (k : Nat) ∧ nl x ≤ k ∧ nl y ≤ k ∧ k < 100000 := ⟨max (nl x) (nl y), by omega, by omega, by omega, by omega⟩
  clear ha hb
  go_enter Tryz.func79, Tryz.ntmps79
  go_wp2_with (first | ((with_reducible apply mkP (n := k + 1)); exact rfl; (first | rfl | omega); omega))
  go_loopw [7, 8] (fun tc ti wr => ∃ (i cc : Nat) (S : Nat → Nat), i ≤ k + 1 ∧ tc = .int .u64 (cc : Nat) ∧ ti = .int .i64 (i : Nat) ∧ cc ≤ 1 ∧ (∀ j, j < k + 1 → S j < 18446744073709551616) ∧ sumL S i + cc * bp i = sumL (limb x) i + sumL (limb y) i ∧ Row wr w.heap.size 52 (k + 1) S ∧ Below w.heap.size w wr)
    (fun _ ti _ => k + 1 - (intOf ti).toNat)
  case atStart => exact ⟨0, 0, fun _ => 0, by omega, rfl, rfl, by omega, fun _ _ => by simp, by simp [sumL_zero], row_newc _ _ _ rfl, (by repeat (first | assumption | (with_reducible apply Up.of) | (with_reducible exact Below.refl _ _) | ((with_reducible apply bl_setCell); (focus (first | exact Nat.le_refl _ | (simp; done) | (simp; omega) | omega))) | ((with_reducible apply bl_alloc); (focus (first | exact Nat.le_refl _ | (simp; done) | (simp; omega) | omega)))))⟩
  case round =>
    obtain ⟨i, cc, S, hi, rfl, rfl, hcc, hSb, hsum, hS, hB⟩ := hrel
    have HSb := hid hSb
    have Hsum := hid hsum
    clear hSb hsum
    by_cases hlt : i < k + 1
    · by_cases hp : i < nl x
      · by_cases hq : i < nl y
        · have h_ := hp
          obtain ⟨ba, rfl, hba, hca⟩ := hca0 i hp
          have hcx := hca wr hB
          obtain ⟨bb, rfl, hbb, hcb⟩ := hcb0 i hq
          have hcy := hcb wr hB
          obtain ⟨r, c', hadd, hrc, hrl, hc1⟩ : ∃ r c' : Nat, (∀ w, (callFunc 93 #[.int .u64 (limb x i : Nat), .int .u64 (limb y i : Nat), .int .u64 (cc : Nat)]).run Tryz.prog w = .ok (.value (.tuple #[.int .u64 (r : Nat), .int .u64 (c' : Nat)])) w) ∧ Hid (r + c' * 18446744073709551616 = limb x i + limb y i + cc) ∧ r < 18446744073709551616 ∧ c' ≤ 1 := by
            have hl1 := limb_lt x i
            have hl2 := limb_lt y i
            have h := run_add (limb x i) (limb y i) cc (by omega)
            exact ⟨_, _, h, hid (by omega), Nat.mod_lt _ (by decide), by omega⟩
          have hcs := hS.cell i (by omega)
          have hfs := hS.frozen i
          have gS := hS.set i r
          have gB := hB.setCell (p := ⟨w.heap.size, i, none⟩) (Nat.le_refl _) (.int .u64 (r : Nat))
          have hip : (decide ((i : Int) < (nl x : Nat))) = true := decide_eq_true (by omega)
          have hiq : decide ((i : Int) < (nl y : Nat)) = true := decide_eq_true (by omega)
          clear hB hS
          go_wp2
          go_roundw
          case rel =>
            refine ⟨i + 1, c', upd S i r, by omega, rfl, by go_num, hc1, upd_lt HSb.out hrl, ?_, gS, gB⟩
            rw [sumL_succ (limb x) i, sumL_succ (limb y) i]
            exact padd_step Hsum.out hrc.out
          case measure => simp [intOf] <;> omega
        · have h_ := hp
          obtain ⟨ba, rfl, hba, hca⟩ := hca0 i hp
          have hcx := hca wr hB
          have hzy := limb_nl (x := y) (i := i) (by omega)
          obtain ⟨r, c', hadd, hrc, hrl, hc1⟩ : ∃ r c' : Nat, (∀ w, (callFunc 93 #[.int .u64 (limb x i : Nat), .int .u64 0, .int .u64 (cc : Nat)]).run Tryz.prog w = .ok (.value (.tuple #[.int .u64 (r : Nat), .int .u64 (c' : Nat)])) w) ∧ Hid (r + c' * 18446744073709551616 = limb x i + limb y i + cc) ∧ r < 18446744073709551616 ∧ c' ≤ 1 := by
            have hl1 := limb_lt x i
            have hl2 := limb_lt y i
            have h := run_add (limb x i) (0) cc (by omega)
            simp only [show ((0 : Nat) : Int) = 0 from rfl] at h
            exact ⟨_, _, h, hid (by omega), Nat.mod_lt _ (by decide), by omega⟩
          have hcs := hS.cell i (by omega)
          have hfs := hS.frozen i
          have gS := hS.set i r
          have gB := hB.setCell (p := ⟨w.heap.size, i, none⟩) (Nat.le_refl _) (.int .u64 (r : Nat))
          have hip : (decide ((i : Int) < (nl x : Nat))) = true := decide_eq_true (by omega)
          have hiq : decide ((i : Int) < (nl y : Nat)) = false := decide_eq_false (by omega)
          clear hB hS
          go_wp2
          go_roundw
          case rel =>
            refine ⟨i + 1, c', upd S i r, by omega, rfl, by go_num, hc1, upd_lt HSb.out hrl, ?_, gS, gB⟩
            rw [sumL_succ (limb x) i, sumL_succ (limb y) i]
            exact padd_step Hsum.out hrc.out
          case measure => simp [intOf] <;> omega
      · by_cases hq : i < nl y
        · have h_ := hq
          have hzx := limb_nl (x := x) (i := i) (by omega)
          obtain ⟨bb, rfl, hbb, hcb⟩ := hcb0 i hq
          have hcy := hcb wr hB
          obtain ⟨r, c', hadd, hrc, hrl, hc1⟩ : ∃ r c' : Nat, (∀ w, (callFunc 93 #[.int .u64 0, .int .u64 (limb y i : Nat), .int .u64 (cc : Nat)]).run Tryz.prog w = .ok (.value (.tuple #[.int .u64 (r : Nat), .int .u64 (c' : Nat)])) w) ∧ Hid (r + c' * 18446744073709551616 = limb x i + limb y i + cc) ∧ r < 18446744073709551616 ∧ c' ≤ 1 := by
            have hl1 := limb_lt x i
            have hl2 := limb_lt y i
            have h := run_add (0) (limb y i) cc (by omega)
            simp only [show ((0 : Nat) : Int) = 0 from rfl] at h
            exact ⟨_, _, h, hid (by omega), Nat.mod_lt _ (by decide), by omega⟩
          have hcs := hS.cell i (by omega)
          have hfs := hS.frozen i
          have gS := hS.set i r
          have gB := hB.setCell (p := ⟨w.heap.size, i, none⟩) (Nat.le_refl _) (.int .u64 (r : Nat))
          have hip : (decide ((i : Int) < (nl x : Nat))) = false := decide_eq_false (by omega)
          have hiq : decide ((i : Int) < (nl y : Nat)) = true := decide_eq_true (by omega)
          clear hB hS
          go_wp2
          go_roundw
          case rel =>
            refine ⟨i + 1, c', upd S i r, by omega, rfl, by go_num, hc1, upd_lt HSb.out hrl, ?_, gS, gB⟩
            rw [sumL_succ (limb x) i, sumL_succ (limb y) i]
            exact padd_step Hsum.out hrc.out
          case measure => simp [intOf] <;> omega
        · have h_ := hq
          have hzx := limb_nl (x := x) (i := i) (by omega)
          have hzy := limb_nl (x := y) (i := i) (by omega)
          obtain ⟨r, c', hadd, hrc, hrl, hc1⟩ : ∃ r c' : Nat, (∀ w, (callFunc 93 #[.int .u64 0, .int .u64 0, .int .u64 (cc : Nat)]).run Tryz.prog w = .ok (.value (.tuple #[.int .u64 (r : Nat), .int .u64 (c' : Nat)])) w) ∧ Hid (r + c' * 18446744073709551616 = limb x i + limb y i + cc) ∧ r < 18446744073709551616 ∧ c' ≤ 1 := by
            have hl1 := limb_lt x i
            have hl2 := limb_lt y i
            have h := run_add (0) (0) cc (by omega)
            simp only [show ((0 : Nat) : Int) = 0 from rfl] at h
            exact ⟨_, _, h, hid (by omega), Nat.mod_lt _ (by decide), by omega⟩
          have hcs := hS.cell i (by omega)
          have hfs := hS.frozen i
          have gS := hS.set i r
          have gB := hB.setCell (p := ⟨w.heap.size, i, none⟩) (Nat.le_refl _) (.int .u64 (r : Nat))
          have hip : (decide ((i : Int) < (nl x : Nat))) = false := decide_eq_false (by omega)
          have hiq : decide ((i : Int) < (nl y : Nat)) = false := decide_eq_false (by omega)
          clear hB hS
          go_wp2
          go_roundw
          case rel =>
            refine ⟨i + 1, c', upd S i r, by omega, rfl, by go_num, hc1, upd_lt HSb.out hrl, ?_, gS, gB⟩
            rw [sumL_succ (limb x) i, sumL_succ (limb y) i]
            exact padd_step Hsum.out hrc.out
          case measure => simp [intOf] <;> omega
    · obtain rfl : i = k + 1 := by omega
      have he := plus_end HSb.out hk1 hk2 Hsum.out
      have ht := trim_row w.heap.size (k + 1) (k + 1) (k + 1) S wr hS (Nat.le_refl _) (Nat.le_refl _) (by omega)
      have hres := am_row (c := k + 1) hS (Nat.le_refl _) (Nat.le_refl _) HSb.out
      rw [he] at hres
      have HT := hid ht
      have HR := hid hres
      clear ht hres he HSb Hsum hS
      go_wp2_with (go_at_call 82; (with_reducible refine HT.out.mono ?_); rintro e w' ⟨rfl, hu⟩)
      go_ret
      exact ⟨below_up hB hu, _, rfl, HR.out.up hu⟩
set_option maxHeartbeats 1000000 in
theorem minus_am {x y : Nat} {va vb : Value} {w : World} (ha : Am w va x) (hb : Am w vb y) (hx : nl x < 100000) (hxy : y ≤ x) :
    Calls Tryz.prog 81 #[va, vb] w fun e w' => Up w w' ∧ ∃ v, e = .returned v ∧ Am w' v (x - y) := by
  obtain ⟨a, ca, rfl, hca1, hca0⟩ := ha.open
  obtain ⟨b, cb, rfl, hcb1, hcb0⟩ := hb.open
  obtain ⟨k, hk⟩ : ∃ k : Nat, k = nl x := ⟨_, rfl⟩
  have hqk : nl y ≤ nl x := nl_le (Nat.lt_of_le_of_lt hxy (lt_bp_nl x))
  clear ha hb
  go_enter Tryz.func81, Tryz.ntmps81
  go_wp2_with (first | ((with_reducible apply mkP (n := nl x)); exact rfl; (first | rfl | omega); omega))
  go_loopw [6, 7] (fun tc ti wr => ∃ (i cc : Nat) (S : Nat → Nat), i ≤ nl x ∧ tc = .int .u64 (cc : Nat) ∧ ti = .int .i64 (i : Nat) ∧ cc ≤ 1 ∧ (∀ j, j < nl x → S j < 18446744073709551616) ∧ sumL S i + sumL (limb y) i = sumL (limb x) i + cc * bp i ∧ Row wr w.heap.size 52 (nl x) S ∧ Below w.heap.size w wr)
    (fun _ ti _ => nl x - (intOf ti).toNat)
  case atStart => exact ⟨0, 0, fun _ => 0, by omega, rfl, rfl, by omega, fun _ _ => by simp, by simp [sumL_zero], row_newc _ _ _ rfl, (by repeat (first | assumption | (with_reducible apply Up.of) | (with_reducible exact Below.refl _ _) | ((with_reducible apply bl_setCell); (focus (first | exact Nat.le_refl _ | (simp; done) | (simp; omega) | omega))) | ((with_reducible apply bl_alloc); (focus (first | exact Nat.le_refl _ | (simp; done) | (simp; omega) | omega)))))⟩
  case round =>
    obtain ⟨i, cc, S, hi, rfl, rfl, hcc, hSb, hsum, hS, hB⟩ := hrel
    have HSb := hid hSb
    have Hsum := hid hsum
    clear hSb hsum
    by_cases hlt : i < nl x
    · have hp := hlt
      by_cases hq : i < nl y
      · have h_ := hp
        obtain ⟨ba, rfl, hba, hca⟩ := hca0 i hp
        have hcx := hca wr hB
        obtain ⟨bb, rfl, hbb, hcb⟩ := hcb0 i hq
        have hcy := hcb wr hB
        obtain ⟨r, c', hadd, hrc, hrl, hc1⟩ : ∃ r c' : Nat, (∀ w, (callFunc 103 #[.int .u64 (limb x i : Nat), .int .u64 (limb y i : Nat), .int .u64 (cc : Nat)]).run Tryz.prog w = .ok (.value (.tuple #[.int .u64 (r : Nat), .int .u64 (c' : Nat)])) w) ∧ Hid (r + limb y i + cc = limb x i + c' * 18446744073709551616) ∧ r < 18446744073709551616 ∧ c' ≤ 1 := by
          have hl1 := limb_lt x i
          have hl2 := limb_lt y i
          have h := run_sub (limb x i) (limb y i) cc (by omega)
          exact ⟨_, _, h, hid (by split <;> omega), Nat.mod_lt _ (by decide), by split <;> omega⟩
        have hcs := hS.cell i (by omega)
        have hfs := hS.frozen i
        have gS := hS.set i r
        have gB := hB.setCell (p := ⟨w.heap.size, i, none⟩) (Nat.le_refl _) (.int .u64 (r : Nat))
        have hip : (decide ((i : Int) < (nl x : Nat))) = true := decide_eq_true (by omega)
        have hiq : decide ((i : Int) < (nl y : Nat)) = true := decide_eq_true (by omega)
        clear hB hS
        go_wp2
        go_roundw
        case rel =>
          refine ⟨i + 1, c', upd S i r, by omega, rfl, by go_num, hc1, upd_lt HSb.out hrl, ?_, gS, gB⟩
          rw [sumL_succ (limb x) i, sumL_succ (limb y) i]
          exact psub_step Hsum.out hrc.out
        case measure => simp [intOf] <;> omega
      · have h_ := hp
        obtain ⟨ba, rfl, hba, hca⟩ := hca0 i hp
        have hcx := hca wr hB
        have hzy := limb_nl (x := y) (i := i) (by omega)
        obtain ⟨r, c', hadd, hrc, hrl, hc1⟩ : ∃ r c' : Nat, (∀ w, (callFunc 103 #[.int .u64 (limb x i : Nat), .int .u64 0, .int .u64 (cc : Nat)]).run Tryz.prog w = .ok (.value (.tuple #[.int .u64 (r : Nat), .int .u64 (c' : Nat)])) w) ∧ Hid (r + limb y i + cc = limb x i + c' * 18446744073709551616) ∧ r < 18446744073709551616 ∧ c' ≤ 1 := by
          have hl1 := limb_lt x i
          have hl2 := limb_lt y i
          have h := run_sub (limb x i) (0) cc (by omega)
          simp only [show ((0 : Nat) : Int) = 0 from rfl] at h
          exact ⟨_, _, h, hid (by split <;> omega), Nat.mod_lt _ (by decide), by split <;> omega⟩
        have hcs := hS.cell i (by omega)
        have hfs := hS.frozen i
        have gS := hS.set i r
        have gB := hB.setCell (p := ⟨w.heap.size, i, none⟩) (Nat.le_refl _) (.int .u64 (r : Nat))
        have hip : (decide ((i : Int) < (nl x : Nat))) = true := decide_eq_true (by omega)
        have hiq : decide ((i : Int) < (nl y : Nat)) = false := decide_eq_false (by omega)
        clear hB hS
        go_wp2
        go_roundw
        case rel =>
          refine ⟨i + 1, c', upd S i r, by omega, rfl, by go_num, hc1, upd_lt HSb.out hrl, ?_, gS, gB⟩
          rw [sumL_succ (limb x) i, sumL_succ (limb y) i]
          exact psub_step Hsum.out hrc.out
        case measure => simp [intOf] <;> omega
    · obtain rfl : i = nl x := by omega
      have he := minus_end HSb.out (Nat.le_refl _) hxy Hsum.out
      have ht := trim_row w.heap.size (nl x) (nl x) (nl x) S wr hS (Nat.le_refl _) (Nat.le_refl _) (by omega)
      have hres := am_row (c := nl x) hS (Nat.le_refl _) (Nat.le_refl _) HSb.out
      rw [he] at hres
      have HT := hid ht
      have HR := hid hres
      clear ht hres he HSb Hsum hS
      go_wp2_with (go_at_call 82; (with_reducible refine HT.out.mono ?_); rintro e w' ⟨rfl, hu⟩)
      go_ret
      exact ⟨below_up hB hu, _, rfl, HR.out.up hu⟩
end Go.Proofs.YtdcpoamjmoceiaaGreatDoor
/-
  The reference's whole numbers: made, Neg, Amount, Sign, Add, Sub.
-/
namespace Go.Proofs.YtdcpoamjmoceiaaGreatDoor
open Go Go.RowKit
set_option maxRecDepth 100000

theorem undB0 : (match Tryz.prog.underlying 61 with | some (.struct _) => true | _ => false) = true := by kernel_rfl
theorem undB : ∃ fs, Tryz.prog.underlying 61 = some (.struct fs) := by
  have h := undB0
  split at h
  · exact ⟨_, by assumption⟩
  · cases h
theorem infoB : (Tryz.prog.info? 61).map (·.size) = some 2 := by kernel_rfl
theorem blk_new {w : World} {b : Nat} {t : TypeId} {C : Array Value} (h : b = w.heap.size) : Blk (w.alloc (.cells C t)) b t C := Blk.new _ _ h
theorem blk_alloc {w : World} {b : Nat} {t : TypeId} {C : Array Value} {o : Obj} (h : Blk w b t C) : Blk (w.alloc o) b t C := h.old o
theorem blk_drew {w : World} {b : Nat} {t : TypeId} {C : Array Value} (h : Blk w b t C) : Blk w.drew b t C := h
theorem blk_drewN {w : World} {b k : Nat} {t : TypeId} {C : Array Value} (h : Blk w b t C) : Blk (w.drewN k) b t C := h
theorem blk_up {w w' : World} {b : Nat} {t : TypeId} {C : Array Value} (hu : Up w w') (h : Blk w b t C) : Blk w' b t C := h.up hu
theorem blk_same {w : World} {b : Nat} {t : TypeId} {C D : Array Value} (h : Blk w b t C) : Blk (w.setRow b D) b t D := h.setRow D
theorem blk_else {w : World} {b g : Nat} {t : TypeId} {C D : Array Value} (hb : b ≠ g) (h : Blk w b t C) : Blk (w.setRow g D) b t C := h.row_other D hb
theorem one2 (b : Bool) (a : Option Addr) (n c : Nat) : (#[Value.bool b, Value.slice a n c]).all (·.oneCell') = true := by simp [Value.oneCell']
section
variable {ops : Array Oper} {rest : List Oper} {Q : Exit → Act → World → Prop} {a : Act} {w : World} {d : Option Tmp} {s u : Tmp} {ty : TypeId} {pos : String} {af : Array Edge} {gd : Option (Nat × Bool)} {g : Nat} {C D : Array Value}
theorem run_ldB {o : Oper} {x : Operand} (ho : o.op = .load 61 x) (hx : a.eval x = .pointer (some ⟨g, 0, none⟩)) (hC : Blk w g 61 C) (h2 : C.size = 2) : (execOp a.eval o).run Tryz.prog w = .ok (.value (.agg C)) w := by
  obtain ⟨fs, hu⟩ := undB
  unfold execOp
  simp only [ho, hx, Instr.loadAt, Instr.sureAddr, Sem.run_bind, Sem.run_pure, Result.andThen_ok, run_loadVar_row w g _ 61 C (0, 0) _ hC hu rfl (by rw [infoB, h2])]
theorem ldB_P (hw : Region.wanted { dst := d, op := .load 61 (.tmp s), type := ty, pos := pos, after := af, guard := gd } (yielded ops a.tmps) = true) (hx : a.eval (.tmp s) = .pointer (some ⟨g, 0, none⟩)) (hC : Blk w g 61 C) (h2 : C.size = 2)
    (h : wpList Tryz.prog ops Q rest (a.put d (.agg C)) w) : wpList Tryz.prog ops Q ({ dst := d, op := .load 61 (.tmp s), type := ty, pos := pos, after := af, guard := gd } :: rest) a w :=
  wpList_run hw (run_ldB rfl hx hC h2) h
theorem stB_P (hx : a.eval (.tmp s) = .pointer (some ⟨g, 0, none⟩)) (hy : a.eval (.tmp u) = .agg D) (hC : Blk w g 61 C) (h2 : C.size = 2) (h3 : D.size = 2) (h1 : D.all (·.oneCell') = true)
    (h : wpList Tryz.prog ops Q rest (a.put d undef) (w.setRow g D)) :
    wpList Tryz.prog ops Q ({ dst := d, op := .store 61 (.tmp s) (.tmp u), type := ty, pos := pos, after := af, guard := none } :: rest) a w :=
  wpList_plain rfl fun _ hK => wp_store_row _ _ _ rfl g D hx hy _ C hC (by rw [infoB, h3]) (by rw [h2, h3]) h1 (hK _ _ h)
theorem wp_stB {o : Oper} {K : Act → World → Prop} (hd : o.dst = none) {x y : Operand} (ho : o.op = .store 61 x y) (hx : a.eval x = .pointer (some ⟨g, 0, none⟩)) (hy : a.eval y = .agg D) (hC : Blk w g 61 C) (h2 : C.size = 2) (h3 : D.size = 2) (h1 : D.all (·.oneCell') = true)
    (h : K a (w.setRow g D)) : o.wp Tryz.prog a w K Q :=
  wp_store_row _ _ _ ho g D hx hy _ C hC (by rw [infoB, h3]) (by rw [h2, h3]) h1 (by rw [hd]; exact h)
end
theorem resB {fn : Func} {p : Tmp} (h : fn.results = #[.cell p 61]) {tmps : Array Value} {w : World} {g : Nat} {C : Array Value} (hp : tmps.getD p undef = .pointer (some ⟨g, 0, none⟩)) (hC : Blk w g 61 C) (h2 : C.size = 2) :
    (results fn tmps).run Tryz.prog w = .ok (.agg C) w := undB.elim fun _ hu => results_cell_row h tmps w g _ C (0, 0) _ hp hC hu rfl (by rw [infoB, h2])
section
variable {P : Program} {ops : Array Oper} {Q : Exit → Act → World → Prop} {md : Region.Mode} {S : World → Prop} {req : Nat → Bool}
/-- The one operation that may come up is a call, of whose value something is known. -/
theorem wpAnyU_callE {i : Nat} {o : Oper} {d : Option Tmp} {fuel : Nat} {listed : Array Bool} {a : Act} {w : World} {f : FuncId} {args : Array Value} {R : Value → World → Prop} (hi : ops[i]? = some o) (hd : o.dst = d) (hr : Region.ready md ops listed = [i]) (hw : Region.wanted o (yielded ops a.tmps) = true)
    (hSup : ∀ w w', S w → Up w w' → S w') (hrun : ∀ w', (execOp a.eval o).run P w' = .ok (.enter f args) w') (hc : ∀ w', Up w w' → Calls P f args w' fun e w'' => Up w' w'' ∧ ∃ v, e = .returned v ∧ R v w'')
    (h : ∀ v w'', Up w w'' → R v w'' → wpAnyU P md ops Q S req fuel (listed.setIfInBounds i true) (a.put d v) w'') : wpAnyU P md ops Q S req (fuel + 1) listed a w := by
  refine wpAnyU_one hi hr hw fun w' hw' => ?_
  unfold Oper.wp
  rw [hrun w']
  subst hd
  refine Calls.mono (hc w' hw') fun e w'' he => ?_
  obtain ⟨hu, v, rfl, hR⟩ := he
  exact ⟨fun _ hs => hSup _ _ hs hu, h v w'' (hw'.trans hu) hR⟩
end
theorem callE_of {P : Program} {f : FuncId} {args : Array Value} {w : World} {v : Value} (h : Calls P f args w fun e w' => e = .returned v ∧ Up w w') : Calls P f args w fun e w' => Up w w' ∧ ∃ u, e = .returned u ∧ u = v :=
  h.mono fun _ _ he => ⟨he.2, v, he.1, rfl⟩

/-! ### A whole number in memory -/
def Big (w : World) (v : Value) (z : Int) : Prop := ∃ a c, v = .agg #[.bool (decide (z < 0)), .slice a (nl z.natAbs) c] ∧ Am w (.slice a (nl z.natAbs) c) z.natAbs
theorem Big.up {w w' : World} {v : Value} {z : Int} (h : Big w v z) (hu : Up w w') : Big w' v z := by
  obtain ⟨a, c, h1, h2⟩ := h
  exact ⟨a, c, h1, h2.up hu⟩
theorem Am.shape {w : World} {v : Value} {x : Nat} (h : Am w v x) : ∃ a c, v = .slice a (nl x) c := by
  obtain ⟨a, c, h1, _⟩ := h
  exact ⟨a, c, h1⟩
theorem pm_abs (neg : Bool) (x : Nat) : (pm neg x).natAbs = x := by cases neg <;> simp [pm]
theorem pm_neg (neg : Bool) (x : Nat) : decide (pm neg x < 0) = (neg && decide (0 < nl x)) := by
  rw [Bool.eq_iff_iff]
  cases neg <;> simp [pm, nl_pos_iff] <;> omega
theorem big_made {w : World} {a : Option Addr} {c x : Nat} (neg : Bool) (h : Am w (.slice a (nl x) c) x) : Big w (.agg #[.bool (neg && decide (0 < nl x)), .slice a (nl x) c]) (pm neg x) :=
  ⟨a, c, by rw [pm_neg, pm_abs], by rw [pm_abs]; exact h⟩
theorem made_any (neg : Bool) (a : Option Addr) (n c : Nat) (w : World) :
    Calls Tryz.prog 71 #[.bool neg, .slice a n c] w fun e w' => e = .returned (.agg #[.bool (neg && decide (0 < n)), .slice a n c]) ∧ Up w w' := by
  cases neg with
  | false =>
    rw [Bool.false_and]
    go_enter Tryz.func71, Tryz.ntmps71
    go_wp2
    exact bodyPost_ret (resB rfl rfl (by (repeat (first | assumption | ((with_reducible apply blk_new); (focus (first | rfl | (simp; done)))) | (with_reducible apply blk_alloc) | (with_reducible apply blk_drew) | (with_reducible apply blk_drewN) | ((with_reducible apply blk_up); assumption) | (with_reducible apply blk_same) | ((with_reducible apply blk_else); (focus (first | (simp; done) | (simp; omega) | omega)))))) rfl) rfl ⟨rfl, (by repeat (first | assumption | (with_reducible apply Up.of) | (with_reducible exact Below.refl _ _) | (with_reducible exact Up.refl _) | ((with_reducible apply bl_setRow); (focus (first | exact Nat.le_refl _ | (simp; done) | (simp; omega) | omega))) | (with_reducible apply below_drewN) | (with_reducible apply Below.drew) | ((with_reducible apply bl_alloc); (focus (first | exact Nat.le_refl _ | (simp; done) | (simp; omega) | omega))) | ((with_reducible apply bl_setCell); (focus (first | exact Nat.le_refl _ | (simp; done) | (simp; omega) | omega))) | ((with_reducible apply up_tr); assumption)))⟩
  | true =>
    rw [Bool.true_and]
    go_enter Tryz.func71, Tryz.ntmps71
    go_wp2
    exact bodyPost_ret (resB rfl rfl (by (repeat (first | assumption | ((with_reducible apply blk_new); (focus (first | rfl | (simp; done)))) | (with_reducible apply blk_alloc) | (with_reducible apply blk_drew) | (with_reducible apply blk_drewN) | ((with_reducible apply blk_up); assumption) | (with_reducible apply blk_same) | ((with_reducible apply blk_else); (focus (first | (simp; done) | (simp; omega) | omega)))))) rfl) rfl ⟨by first | rfl | simp, (by repeat (first | assumption | (with_reducible apply Up.of) | (with_reducible exact Below.refl _ _) | (with_reducible exact Up.refl _) | ((with_reducible apply bl_setRow); (focus (first | exact Nat.le_refl _ | (simp; done) | (simp; omega) | omega))) | (with_reducible apply below_drewN) | (with_reducible apply Below.drew) | ((with_reducible apply bl_alloc); (focus (first | exact Nat.le_refl _ | (simp; done) | (simp; omega) | omega))) | ((with_reducible apply bl_setCell); (focus (first | exact Nat.le_refl _ | (simp; done) | (simp; omega) | omega))) | ((with_reducible apply up_tr); assumption)))⟩
theorem neg_any (b : Bool) (a : Option Addr) (n c : Nat) (w : World) :
    Calls Tryz.prog 67 #[.agg #[.bool b, .slice a n c]] w fun e w' => e = .returned (.agg #[.bool (!b && decide (0 < n)), .slice a n c]) ∧ Up w w' := by
  have HM := hid (fun w => made_any (!b) a n c w)
  go_enter Tryz.func67, Tryz.ntmps67
  go_wp2_with (first | ((with_reducible apply stB_P); exact rfl; exact rfl; (focus (repeat (first | assumption | ((with_reducible apply blk_new); (focus (first | rfl | (simp; done)))) | (with_reducible apply blk_alloc) | (with_reducible apply blk_drew) | (with_reducible apply blk_drewN) | ((with_reducible apply blk_up); assumption) | (with_reducible apply blk_same) | ((with_reducible apply blk_else); (focus (first | (simp; done) | (simp; omega) | omega)))))); exact rfl; exact rfl; exact one2 _ _ _ _) | (go_at_call 71; refine (HM.out _).mono ?_; rintro e w' ⟨rfl, hu⟩))
  exact bodyPost_ret (resB rfl rfl (by (repeat (first | assumption | ((with_reducible apply blk_new); (focus (first | rfl | (simp; done)))) | (with_reducible apply blk_alloc) | (with_reducible apply blk_drew) | (with_reducible apply blk_drewN) | ((with_reducible apply blk_up); assumption) | (with_reducible apply blk_same) | ((with_reducible apply blk_else); (focus (first | (simp; done) | (simp; omega) | omega)))))) rfl) rfl ⟨rfl, (by repeat (first | assumption | (with_reducible apply Up.of) | (with_reducible exact Below.refl _ _) | (with_reducible exact Up.refl _) | ((with_reducible apply bl_setRow); (focus (first | exact Nat.le_refl _ | (simp; done) | (simp; omega) | omega))) | (with_reducible apply below_drewN) | (with_reducible apply Below.drew) | ((with_reducible apply bl_alloc); (focus (first | exact Nat.le_refl _ | (simp; done) | (simp; omega) | omega))) | ((with_reducible apply bl_setCell); (focus (first | exact Nat.le_refl _ | (simp; done) | (simp; omega) | omega))) | ((with_reducible apply up_tr); assumption)))⟩
def bsign (b : Bool) (n : Nat) : Int := if n = 0 then 0 else if b then -1 else 1
theorem bsign_any (b : Bool) (a : Option Addr) (n c : Nat) (w : World) :
    Calls Tryz.prog 66 #[.agg #[.bool b, .slice a n c]] w fun e w' => e = .returned (.int .i64 (bsign b n)) ∧ Up w w' := by
  by_cases h0 : n = 0
  · subst h0
    go_enter Tryz.func66, Tryz.ntmps66
    go_wp2
    go_ret
    exact ⟨rfl, (by repeat (first | assumption | (with_reducible apply Up.of) | (with_reducible exact Below.refl _ _) | (with_reducible exact Up.refl _) | ((with_reducible apply bl_setRow); (focus (first | exact Nat.le_refl _ | (simp; done) | (simp; omega) | omega))) | (with_reducible apply below_drewN) | (with_reducible apply Below.drew) | ((with_reducible apply bl_alloc); (focus (first | exact Nat.le_refl _ | (simp; done) | (simp; omega) | omega))) | ((with_reducible apply bl_setCell); (focus (first | exact Nat.le_refl _ | (simp; done) | (simp; omega) | omega))) | ((with_reducible apply up_tr); assumption)))⟩
  · have hb : ((n : Int) == 0) = false := by simpa using h0
    have e : bsign b n = if b then -1 else 1 := by unfold bsign; rw [if_neg h0]
    rw [e]
    clear e h0
    go_enter Tryz.func66, Tryz.ntmps66
    cases b <;> (go_wp2; go_ret; exact ⟨rfl, (by repeat (first | assumption | (with_reducible apply Up.of) | (with_reducible exact Below.refl _ _) | (with_reducible exact Up.refl _) | ((with_reducible apply bl_setRow); (focus (first | exact Nat.le_refl _ | (simp; done) | (simp; omega) | omega))) | (with_reducible apply below_drewN) | (with_reducible apply Below.drew) | ((with_reducible apply bl_alloc); (focus (first | exact Nat.le_refl _ | (simp; done) | (simp; omega) | omega))) | ((with_reducible apply bl_setCell); (focus (first | exact Nat.le_refl _ | (simp; done) | (simp; omega) | omega))) | ((with_reducible apply up_tr); assumption)))⟩)
theorem big_neg {w : World} {v : Value} {z : Int} (h : Big w v z) : ∃ b a n c, v = .agg #[.bool b, .slice a n c] ∧ Big w (.agg #[.bool (!b && decide (0 < n)), .slice a n c]) (-z) := by
  obtain ⟨a, c, rfl, hA⟩ := h
  refine ⟨_, a, _, c, rfl, a, c, ?_, by rw [Int.natAbs_neg]; exact hA⟩
  rw [Int.natAbs_neg]
  have : (!decide (z < 0) && decide (0 < nl z.natAbs)) = decide (-z < 0) := by
    rw [Bool.eq_iff_iff]
    simp [nl_pos_iff]
    omega
  rw [this]
theorem sgn_big {z : Int} : bsign (decide (z < 0)) (nl z.natAbs) = sgn z := by
  unfold bsign sgn
  by_cases h : nl z.natAbs = 0
  · have : ¬ 0 < z.natAbs := fun h1 => by have := nl_pos h1; omega
    rw [if_pos h, show z = 0 by omega]; rfl
  · have := nl_pos_iff.1 (Nat.pos_of_ne_zero h)
    rw [if_neg h]
    by_cases h1 : z < 0
    · simp [h1]
    · have h2 : z ≠ 0 := by omega
      simp [h1, h2]
end Go.Proofs.YtdcpoamjmoceiaaGreatDoor
/-
  Symmetric matrices: their struct in memory; lists that are copied; errors that are told; one entry.
-/
namespace Go.Proofs.YtdcpoamjmoceiaaGreatDoor
open Go Go.RowKit
set_option maxRecDepth 100000
set_option maxRecDepth 100000

theorem undM0 : (match Tryz.prog.underlying 24 with | some (.struct _) => true | _ => false) = true := by kernel_rfl
theorem undM : ∃ fs, Tryz.prog.underlying 24 = some (.struct fs) := by
  have h := undM0
  split at h
  · exact ⟨_, by assumption⟩
  · cases h
theorem infoM : (Tryz.prog.info? 24).map (·.size) = some 2 := by kernel_rfl
theorem two2 (k : IntKind) (n : Int) (a : Option Addr) (m c : Nat) : (#[Value.int k n, Value.slice a m c]).all (·.oneCell') = true := by simp [Value.oneCell']
section
variable {ops : Array Oper} {rest : List Oper} {Q : Exit → Act → World → Prop} {a : Act} {w : World} {d : Option Tmp} {s u : Tmp} {ty : TypeId} {pos : String} {af : Array Edge} {gd : Option (Nat × Bool)} {g : Nat} {C D : Array Value}
theorem run_ldM {o : Oper} {x : Operand} (ho : o.op = .load 24 x) (hx : a.eval x = .pointer (some ⟨g, 0, none⟩)) (hC : Blk w g 24 C) (h2 : C.size = 2) : (execOp a.eval o).run Tryz.prog w = .ok (.value (.agg C)) w := by
  obtain ⟨fs, hu⟩ := undM
  unfold execOp
  simp only [ho, hx, Instr.loadAt, Instr.sureAddr, Sem.run_bind, Sem.run_pure, Result.andThen_ok, run_loadVar_row w g _ 24 C (0, 0) _ hC hu rfl (by rw [infoM, h2])]
theorem ldM_P (hw : Region.wanted { dst := d, op := .load 24 (.tmp s), type := ty, pos := pos, after := af, guard := gd } (yielded ops a.tmps) = true) (hx : a.eval (.tmp s) = .pointer (some ⟨g, 0, none⟩)) (hC : Blk w g 24 C) (h2 : C.size = 2)
    (h : wpList Tryz.prog ops Q rest (a.put d (.agg C)) w) : wpList Tryz.prog ops Q ({ dst := d, op := .load 24 (.tmp s), type := ty, pos := pos, after := af, guard := gd } :: rest) a w :=
  wpList_run hw (run_ldM rfl hx hC h2) h
theorem stM_P (hx : a.eval (.tmp s) = .pointer (some ⟨g, 0, none⟩)) (hy : a.eval (.tmp u) = .agg D) (hC : Blk w g 24 C) (h2 : C.size = 2) (h3 : D.size = 2) (h1 : D.all (·.oneCell') = true)
    (h : wpList Tryz.prog ops Q rest (a.put d undef) (w.setRow g D)) :
    wpList Tryz.prog ops Q ({ dst := d, op := .store 24 (.tmp s) (.tmp u), type := ty, pos := pos, after := af, guard := none } :: rest) a w :=
  wpList_plain rfl fun _ hK => wp_store_row _ _ _ rfl g D hx hy _ C hC (by rw [infoM, h3]) (by rw [h2, h3]) h1 (hK _ _ h)
theorem wp_stM {o : Oper} {K : Act → World → Prop} (hd : o.dst = none) {x y : Operand} (ho : o.op = .store 24 x y) (hx : a.eval x = .pointer (some ⟨g, 0, none⟩)) (hy : a.eval y = .agg D) (hC : Blk w g 24 C) (h2 : C.size = 2) (h3 : D.size = 2) (h1 : D.all (·.oneCell') = true)
    (h : K a (w.setRow g D)) : o.wp Tryz.prog a w K Q :=
  wp_store_row _ _ _ ho g D hx hy _ C hC (by rw [infoM, h3]) (by rw [h2, h3]) h1 (by rw [hd]; exact h)
end
theorem resM {fn : Func} {p : Tmp} (h : fn.results = #[.cell p 24]) {tmps : Array Value} {w : World} {g : Nat} {C : Array Value} (hp : tmps.getD p undef = .pointer (some ⟨g, 0, none⟩)) (hC : Blk w g 24 C) (h2 : C.size = 2) :
    (results fn tmps).run Tryz.prog w = .ok (.agg C) w := undM.elim fun _ hu => results_cell_row h tmps w g _ C (0, 0) _ hp hC hu rfl (by rw [infoM, h2])

/-! ### Lists of the call's own -/
theorem undI : Tryz.prog.underlying 22 = some (.slice 2) := by kernel_rfl
theorem infoI : (Tryz.prog.info? 2).map (fun i => (i.zero, i.size, i.bytes)) = some (some (.int .i64 0), 1, 8) := by kernel_rfl
def vals (l : List Int) : List Value := l.map (Value.int .i64)
/-- The value v is a slice of the numbers l in memory of the call's own, from block base on. -/
def OwnI (w : World) (base : Nat) (v : Value) (l : List Int) : Prop := w.ownsRow base 2 1 v l.length (vals l)
theorem OwnI.up {w w' : World} {base : Nat} {v : Value} {l : List Int} (hu : Up w w') (h : OwnI w base v l) : OwnI w' base v l := World.ownsRow.up h hu
theorem OwnI.nil (w : World) (base : Nat) : OwnI w base (.slice none 0 0) [] := World.ownsRow_nil _ _ _ _
theorem vals_get {l : List Int} {i : Nat} (h : i < l.length) : (vals l)[i]? = some (.int .i64 (zth l i)) := by
  unfold vals; rw [List.getElem?_map, zth_get h, List.getElem?_eq_getElem h]; rfl
theorem OwnI.open {w : World} {base : Nat} {v : Value} {l : List Int} (h : OwnI w base v l) (h0 : 0 < l.length) :
    ∃ g cap C, v = .slice (some ⟨g, 0, none⟩) l.length cap ∧ base ≤ g ∧ Blk w g 2 C ∧ l.length ≤ cap ∧ cap ≤ maxLen ∧ C.size = cap ∧ C.toList.take l.length = vals l := by
  obtain ⟨_, h1 | ⟨g, cap, cur, hv, hb, hB, hc, hm, hs, ht⟩⟩ := h
  · omega
  · exact ⟨g, cap, cur, hv, hb, hB, hc, hm, by omega, by rw [← ht, Nat.mul_one]⟩
theorem OwnI.vw {w : World} {base : Nat} {v : Value} {l : List Int} (h : OwnI w base v l) : Vw w v l := by
  rcases Nat.eq_zero_or_pos l.length with h0 | h0
  · have hl := List.length_eq_zero_iff.1 h0
    subst hl
    obtain ⟨_, ⟨rfl, _⟩ | ⟨g, cap, cur, rfl, _⟩⟩ := h
    · exact ⟨none, 0, rfl, ⟨Nat.le_refl _, fun _ => rfl⟩, fun i hi => absurd hi (Nat.not_lt_zero _)⟩
    · exact ⟨_, cap, rfl, ⟨Nat.zero_le _, fun e => by cases e⟩, fun i hi => absurd hi (Nat.not_lt_zero _)⟩
  · obtain ⟨g, cap, C, rfl, _, hB, hc, _, _, ht⟩ := h.open h0
    refine ⟨_, cap, rfl, ⟨hc, fun e => by cases e⟩, fun i hi => ⟨_, rfl, ?_⟩⟩
    have h1 : C[i]? = some (.int .i64 (zth l i)) := by
      rw [← Array.getElem?_toList, ← List.getElem?_take_of_lt hi, ht, vals_get hi]
    have h2 := hB.cell i h1
    have e : Addr.add ⟨g, 0, none⟩ i = ⟨g, i, none⟩ := by unfold Addr.add; simp; omega
    rw [e]
    exact h2
theorem vals_set (l : List Int) (k : Nat) (z : Int) : vals (l.set k z) = (vals l).set k (.int .i64 z) := by unfold vals; rw [List.map_set]
theorem OwnI.set {w : World} {base g n cap : Nat} {l : List Int} (h : OwnI w base (.slice (some ⟨g, 0, none⟩) n cap) l) {k : Nat} (hk : k < l.length) (z : Int) :
    OwnI (w.setCell ⟨g, k, none⟩ (.int .i64 z)) base (.slice (some ⟨g, 0, none⟩) n cap) (l.set k z) := by
  obtain ⟨g', cap', C, hv, hb, hB, hc, hm, hs, ht⟩ := h.open (by omega)
  injection hv with e1 e2 e3
  injection e1 with e1
  injection e1 with e1
  subst e1 e2 e3
  refine ⟨by rw [vals_set, List.length_set, List.length_set]; unfold vals; simp, .inr ⟨g, cap, _, by rw [List.length_set], hb, hB.set k (.int .i64 z), by rw [List.length_set]; exact hc, hm, by simp [hs], ?_⟩⟩
  rw [vals_set, List.length_set, Nat.mul_one, Array.toList_setIfInBounds, ← ht, List.take_set]
theorem OwnI.cells {w : World} {base g n cap : Nat} {l : List Int} (h : OwnI w base (.slice (some ⟨g, 0, none⟩) n cap) l) {k : Nat} (hk : k < l.length) :
    w.cell? ⟨g, k, none⟩ = some (.int .i64 (zth l k)) ∧ w.frozen? ⟨g, k, none⟩ = false := by
  obtain ⟨g', cap', C, hv, hb, hB, hc, hm, hs, ht⟩ := h.open (by omega)
  injection hv with e1 e2 e3
  injection e1 with e1
  injection e1 with e1
  subst e1 e2 e3
  have h1 : C[k]? = some (.int .i64 (zth l k)) := by
    rw [← Array.getElem?_toList, ← List.getElem?_take_of_lt hk, ht, vals_get hk]
  exact ⟨hB.cell k h1, hB.frozen k⟩
theorem vals_append (l m : List Int) : vals (l ++ m) = vals l ++ vals m := by unfold vals; rw [List.map_append]
/-- append of a list of the call's own and any other. -/
theorem appV {ops : Array Oper} {rest : List Oper} {Q : Exit → Act → World → Prop} {a : Act} {w : World} {d : Option Tmp} {s u : Operand} {ty : TypeId} {pos : String} {af : Array Edge} {base : Nat} {v x : Value} {l m : List Int}
    (hs : a.eval s = v) (hu : a.eval u = x) (hown : OwnI w base v l) (hV : Vw w x m) (hbase : base ≤ w.heap.size) (hl : l.length < 1000000) (hm : m.length < 1000000)
    (h : ∀ v' w', OwnI w' base v' (l ++ m) → Below base w w' → wpList Tryz.prog ops Q rest (a.put d v') w') :
    wpList Tryz.prog ops Q ({ dst := d, op := .call { callee := .builtin .append, args := #[s, u], argTypes := #[22, 22] }, type := ty, pos := pos, after := af, guard := none } :: rest) a w := by
  obtain ⟨i0, hi0, he⟩ := Option.map_eq_some_iff.1 infoI
  simp only [Prod.mk.injEq] at he
  have hlt := World.ownsRow.lt hown
  have hfin : ∀ v' w', w'.ownsRow base 2 1 v' (l.length + m.length) (vals l ++ vals m) → w.grownBy w' v.ownBlock → wpList Tryz.prog ops Q rest (a.put d v') w' := by
    intro v' w' h1 h2
    refine h v' w' (by unfold OwnI; rw [List.length_append, vals_append]; exact h1) ⟨h2.os, h2.tape, h2.output, h2.size, fun k hk => h2.block k (by omega) ?_⟩
    intro e
    have := hlt k e.symm
    omega
  obtain ⟨p, cap, rfl, hcap, hc⟩ := hV
  cases p with
  | none =>
    have h0 : m.length = 0 := by
      rcases Nat.eq_zero_or_pos m.length with h0 | h0
      · exact h0
      · obtain ⟨ad, h1, _⟩ := hc 0 h0; cases h1
    have hm0 := List.length_eq_zero_iff.1 h0
    subst hm0
    obtain rfl := hcap.2 rfl
    refine wpList_append_own_none (P := Tryz.prog) (w := w) rfl s u 22 rfl base 2 i0 1 undI hi0 v l.length (vals l) hs hown hu ?_
    exact hfin v w (by simpa [vals, OwnI] using hown) (World.grownBy.refl w _)
  | some ad =>
    have hcell : ∀ j x, (vals m)[j]? = some x → w.cell? (ad.add j) = some x := by
      intro j x hx
      have hj : j < m.length := by
        have := (List.getElem?_eq_some_iff.1 hx).1
        unfold vals at this
        simpa using this
      obtain ⟨a2, e2, h2⟩ := hc j hj
      injection e2 with e2
      subst e2
      rw [vals_get hj] at hx
      rw [h2]; exact hx
    refine wpList_append_own w rfl s u 22 rfl base 2 i0 (.int .i64 0) 1 8 undI hi0 he.1 he.2.1 he.2.2 rfl (by decide) v l.length (vals l) hs hown ad m.length cap (vals m) hu (by unfold vals; simp) hcell ?_ (by unfold maxLen; omega) (by omega) hbase ?_
    · intro x hx
      unfold vals at hx
      obtain ⟨z, _, rfl⟩ := List.mem_map.1 hx
      rfl
    · intro v' w' h1 h2 _
      exact hfin v' w' h1 h2
theorem copied_any {v : Value} {l : List Int} {w : World} (h : Vw w v l) (hl : l.length ≤ 1000) :
    Calls Tryz.prog 44 #[v] w fun r w' => ∃ s, r = .returned s ∧ Up w w' ∧ OwnI w' w.heap.size s l := by
  have HV := hid h
  clear h
  go_enter Tryz.func44, Tryz.ntmps44
  go_wp2_with ((with_reducible apply appV (l := [])); exact rfl; exact rfl; exact OwnI.nil _ w.heap.size; exact HV.out; exact Nat.le_refl _; (focus (simp; done)); (focus omega); rintro v' w' h1 h2; rw [List.nil_append] at h1)
  go_ret
  exact ⟨_, rfl, h2, h1⟩
/-- The value u is the fault of that number, of this package; of 0: none. -/
def Errs (w : World) (u : Value) (e : Int) : Prop := (e = 0 ∧ u = .nilIface) ∨ (e ≠ 0 ∧ ∃ t x, u = .iface t x ∧ IsEr w u (.flt symB (.num e)))
theorem Errs.up {w w' : World} (hu : Up w w') {u : Value} {e : Int} (h : Errs w u e) : Errs w' u e := by
  rcases h with h | ⟨h1, t, x, h2, h3⟩
  · exact .inl h
  · exact .inr ⟨h1, t, x, h2, h3.up hu⟩
theorem Errs.none_ (w : World) : Errs w .nilIface 0 := .inl ⟨rfl, rfl⟩
theorem Errs.some_ {w : World} {t : TypeId} {x : Value} {n : Int} (h0 : n ≠ 0) (h : IsEr w (.iface t x) (.flt symB (.num n))) : Errs w (.iface t x) n := .inr ⟨h0, t, x, rfl, h⟩
def rng (N i j : Int) : Bool := decide ((0 ≤ i ∧ i < N) ∧ (0 ≤ j ∧ j < N))
def atC (N : Int) (l : List Int) (i j : Int) : Int := if rt N l then (if rng N i j then 0 else 20) else 23
def ent (N : Int) (l : List Int) (i j : Int) : Int := zth l (idx N i j).toNat
def atV (N : Int) (l : List Int) (i j : Int) : Int := if atC N l i j = 0 then ent N l i j else 0
theorem rt_spec {N : Int} {l : List Int} (h : rt N l = true) : 0 ≤ N ∧ N ≤ 8 ∧ (l.length : Int) = tri N ∧ ∀ i, i < l.length → fit (zth l i) = true := by
  unfold rt at h
  rw [Bool.and_eq_true] at h
  obtain ⟨h1, h2, h3⟩ := of_decide_eq_true h.1
  refine ⟨h1, h2, h3, fun i hi => ?_⟩
  rw [zth_get hi]
  exact List.all_eq_true.1 h.2 _ (List.getElem_mem hi)
theorem idx_nat {N : Int} {l : List Int} {i j : Int} (hR : rt N l = true) (hr : rng N i j = true) : ∃ k : Nat, idx N i j = (k : Int) ∧ k < l.length ∧ ent N l i j = zth l k := by
  obtain ⟨h1, h2, h3, _⟩ := rt_spec hR
  obtain ⟨⟨i0, i1⟩, j0, j1⟩ := of_decide_eq_true hr
  obtain ⟨x1, x2⟩ := idx_in h2 i0 i1 j0 j1
  refine ⟨(idx N i j).toNat, by omega, by omega, rfl⟩
set_option maxHeartbeats 2000000 in
theorem at_any {v : Value} {N : Int} {l : List Int} (i j : Int) {w : World} (h : Sm w v N l) :
    Calls Tryz.prog 40 #[v, .int .i64 i, .int .i64 j] w fun r w' => ∃ u, r = .returned (.tuple #[.int .i64 (atV N l i j), u]) ∧ Up w w' ∧ Errs w' u (atC N l i j) := by
  have HR := hid (fun w' (hu : Up w w') => sright_any (h.up hu))
  have HH := hid (fun i w' (hu : Up w w') => hasrow_any i (h.up hu))
  have HWR := hid wrong_any
  obtain ⟨s, rfl, hV, hN, hl, hlen⟩ := h
  obtain ⟨p, cap, rfl, hcap, hc⟩ := hV
  cases hR : rt N l with
  | false =>
    have e : atC N l i j = 23 := by unfold atC; rw [hR]; rfl
    have e2 : atV N l i j = 0 := by unfold atV; rw [e]; rfl
    rw [e, e2]
    rw [hR] at HR
    clear e e2 hR hc hl
    have hB := Blk.new (w := w) (b := w.heap.size) 24 #[.int .i64 N, .slice p l.length cap] rfl
    have HU := hid (Up.alloc w (.cells #[.int .i64 N, .slice p l.length cap] 24))
    go_enter Tryz.func40, Tryz.ntmps40
    go_wp2_with (first
      | ((with_reducible apply ldM_P); exact rfl; exact rfl; exact hB; exact rfl)
      | (go_at_call 42; (with_reducible refine (HR.out _ HU.out).mono ?_); rintro r w1 ⟨rfl, hu1⟩)
      | (go_at_call 43; (with_reducible refine (HWR.out _ _).mono ?_); rintro r w2 ⟨t2, u2, rfl, hu2, h2⟩))
    go_ret2
    exact ⟨_, rfl, (HU.out.trans hu1).trans hu2, Errs.some_ (by decide) h2⟩
  | true =>
    cases hr : rng N i j with
    | false =>
      have e : atC N l i j = 20 := by unfold atC; rw [hR, hr]; rfl
      have e2 : atV N l i j = 0 := by unfold atV; rw [e]; rfl
      rw [e, e2]
      rw [hR] at HR
      have hr' := of_decide_eq_false hr
      clear e e2 hR hc hl hr
      have hB := Blk.new (w := w) (b := w.heap.size) 24 #[.int .i64 N, .slice p l.length cap] rfl
      have HU := hid (Up.alloc w (.cells #[.int .i64 N, .slice p l.length cap] 24))
      cases hi : decide (0 ≤ i ∧ i < N) with
      | false =>
        have HI := hid (fun w' (hu : Up w w') => hi ▸ HH.out i w' hu)
        clear hr' HH hi
        go_enter Tryz.func40, Tryz.ntmps40
        go_wp2_with (first
          | ((with_reducible apply ldM_P); exact rfl; exact rfl; exact hB; exact rfl)
          | (go_at_call 42; (with_reducible refine (HR.out _ HU.out).mono ?_); rintro r w1 ⟨rfl, hu1⟩; replace hB := hB.up hu1)
          | (go_at_call 74; (with_reducible refine (HI.out _ (HU.out.trans hu1)).mono ?_); rintro r w3 ⟨rfl, hu3⟩; replace hB := hB.up hu3)
          | (go_at_call 43; (with_reducible refine (HWR.out _ _).mono ?_); rintro r w2 ⟨t2, u2, rfl, hu2, h2⟩))
        go_ret2
        exact ⟨_, rfl, ((HU.out.trans hu1).trans hu3).trans hu2, Errs.some_ (by decide) h2⟩
      | true =>
        have hj : decide (0 ≤ j ∧ j < N) = false := decide_eq_false (fun hj => hr' ⟨of_decide_eq_true hi, hj⟩)
        have HI := hid (fun w' (hu : Up w w') => hi ▸ HH.out i w' hu)
        have HJ := hid (fun w' (hu : Up w w') => hj ▸ HH.out j w' hu)
        clear hr' HH hi hj
        go_enter Tryz.func40, Tryz.ntmps40
        go_wp2_with (first
          | ((with_reducible apply ldM_P); exact rfl; exact rfl; exact hB; exact rfl)
          | (go_at_call 42; (with_reducible refine (HR.out _ HU.out).mono ?_); rintro r w1 ⟨rfl, hu1⟩; replace hB := hB.up hu1)
          | (go_at_call 74; first
              | ((with_reducible refine (HJ.out _ ((HU.out.trans hu1).trans hu3)).mono ?_); rintro r w4 ⟨rfl, hu4⟩; replace hB := hB.up hu4)
              | ((with_reducible refine (HI.out _ (HU.out.trans hu1)).mono ?_); rintro r w3 ⟨rfl, hu3⟩; replace hB := hB.up hu3))
          | (go_at_call 43; (with_reducible refine (HWR.out _ _).mono ?_); rintro r w2 ⟨t2, u2, rfl, hu2, h2⟩))
        go_ret2
        exact ⟨_, rfl, (((HU.out.trans hu1).trans hu3).trans hu4).trans hu2, Errs.some_ (by decide) h2⟩
    | true =>
      obtain ⟨k, hk, hkl, hke⟩ := idx_nat hR hr
      have e : atC N l i j = 0 := by unfold atC; rw [hR, hr]; rfl
      have e2 : atV N l i j = zth l k := by unfold atV; rw [e, ← hke]; rfl
      rw [e, e2]
      obtain ⟨r1, r2, r3, _⟩ := rt_spec hR
      obtain ⟨hi, hj⟩ := of_decide_eq_true hr
      have HX := hid (fun w => hk ▸ idx_any N i j r2 hi.1 hi.2 hj.1 hj.2 w)
      have HI := hid (fun w' (hu : Up w w') => (decide_eq_true hi) ▸ HH.out i w' hu)
      have HJ := hid (fun w' (hu : Up w w') => (decide_eq_true hj) ▸ HH.out j w' hu)
      rw [hR] at HR
      obtain ⟨ad, rfl, hcell⟩ := hc k hkl
      have HC := hid hcell
      have HU := hid (Up.alloc w (.cells #[.int .i64 N, .slice (some ad) l.length cap] 24))
      have hB := Blk.new (w := w) (b := w.heap.size) 24 #[.int .i64 N, .slice (some ad) l.length cap] rfl
      clear e e2 hR hc hl hr hk hke hi hj hcell r1 r2 r3 HH
      go_enter Tryz.func40, Tryz.ntmps40
      go_wp2_with (first
        | ((with_reducible apply ldM_P); exact rfl; exact rfl; exact hB; exact rfl)
        | (go_at_call 42; (with_reducible refine (HR.out _ HU.out).mono ?_); rintro r w1 ⟨rfl, hu1⟩; replace hB := hB.up hu1)
        | (go_at_call 74; first
            | ((with_reducible refine (HJ.out _ ((HU.out.trans hu1).trans hu3)).mono ?_); rintro r w4 ⟨rfl, hu4⟩; replace hB := hB.up hu4)
            | ((with_reducible refine (HI.out _ (HU.out.trans hu1)).mono ?_); rintro r w3 ⟨rfl, hu3⟩; replace hB := hB.up hu3)))
      have hc0 := hB.cell 0 rfl
      have hc1 := hB.cell 1 rfl
      have hcell := (((HU.out.trans hu1).trans hu3).trans hu4).cellEq HC.out
      have HU2 := hid (((HU.out.trans hu1).trans hu3).trans hu4)
      go_quiet ((go_at_call 45; exact Calls.quiet_of_same (HX.out _)))
      go_wp2_with fail
      go_ret2
      exact ⟨_, rfl, below_drewN HU2.out _, Errs.none_ _⟩
end Go.Proofs.YtdcpoamjmoceiaaGreatDoor
/-
  Symmetric matrices: what is set; new ones; answers held against one another.
-/
namespace Go.Proofs.YtdcpoamjmoceiaaGreatDoor
open Go Go.RowKit
set_option maxRecDepth 100000
set_option maxRecDepth 100000

theorem OwnI.setRow {w : World} {base g : Nat} {v : Value} {l : List Int} {C D : Array Value} (h : OwnI w base v l) (hg : Blk w g 24 C) : OwnI (w.setRow g D) base v l := by
  refine ⟨h.1, ?_⟩
  rcases h.2 with h2 | ⟨b, cap, cur, h1, h2, h3, h4⟩
  · exact .inl h2
  · refine .inr ⟨b, cap, cur, h1, h2, ?_, h4⟩
    have hne : b ≠ g := by
      rintro rfl
      unfold Blk at hg
      rw [h3] at hg
      simp at hg
    exact Blk.row_other (t := 2) h3 D hne
theorem resMs {fn : Func} {p q : Tmp} (h : fn.results = #[.cell p 24, .tmp q]) {tmps : Array Value} {w : World} {g : Nat} {C : Array Value} {u : Value} (hp : tmps.getD p undef = .pointer (some ⟨g, 0, none⟩)) (hq : tmps.getD q undef = u) (hC : Blk w g 24 C) (h2 : C.size = 2) :
    (results fn tmps).run Tryz.prog w = .ok (.tuple #[.agg C, u]) w := by
  obtain ⟨fs, hu⟩ := undM
  rw [results_cell_tmp h, hp, hq]
  simp [asAddr, run_loadVar_row w g _ 24 C (0, 0) _ hC hu rfl (by rw [infoM, h2]), Result.andThen]
theorem In64.set {l : List Int} (h : In64 l) {v : Int} (hv : I64 v) (k : Nat) : In64 (l.set k v) := by
  intro i hi
  rw [List.length_set] at hi
  have h1 := h i hi
  rw [zth_get (by rw [List.length_set]; exact hi), List.getElem_set]
  split
  · exact hv
  · rw [← zth_get hi]; exact h1
theorem Sm.zero (w : World) : Sm w (.agg #[.int .i64 0, .slice none 0 0]) 0 [] :=
  ⟨_, rfl, ⟨none, 0, rfl, ⟨Nat.le_refl _, fun _ => rfl⟩, fun i hi => absurd hi (Nat.not_lt_zero _)⟩, by unfold I64; omega, fun i hi => absurd hi (Nat.not_lt_zero _), by simp⟩
/-- The value v is the matrix of N rows with the entries l, in memory of the call's own. -/
def SmO (w : World) (v : Value) (N : Int) (l : List Int) : Prop := ∃ s base, v = .agg #[.int .i64 N, s] ∧ OwnI w base s l ∧ I64 N ∧ In64 l ∧ l.length ≤ 1000
theorem SmO.sm {w : World} {v : Value} {N : Int} {l : List Int} (h : SmO w v N l) : Sm w v N l := by
  obtain ⟨s, base, e, h1, h2⟩ := h
  exact ⟨s, e, h1.vw, h2⟩
theorem SmO.up {w w' : World} (hu : Up w w') {v : Value} {N : Int} {l : List Int} (h : SmO w v N l) : SmO w' v N l := by
  obtain ⟨s, base, e, h1, h2⟩ := h
  exact ⟨s, base, e, h1.up hu, h2⟩
theorem SmO.setRow {w : World} {g : Nat} {v : Value} {N : Int} {l : List Int} {C D : Array Value} (h : SmO w v N l) (hg : Blk w g 24 C) : SmO (w.setRow g D) v N l := by
  obtain ⟨s, base, e, h1, h2⟩ := h
  exact ⟨s, base, e, h1.setRow hg, h2⟩
theorem SmO.zero (w : World) : SmO w (.agg #[.int .i64 0, .slice none 0 0]) 0 [] := ⟨_, 0, rfl, OwnI.nil _ _, by unfold I64; omega, fun i hi => absurd hi (Nat.not_lt_zero _), by simp⟩
/-- What a call leaves that tells a matrix, and an error or none. -/
def SymPost (w : World) (N : Int) (l : List Int) (e : Int) (r : Ending) (w' : World) : Prop := ∃ z u, r = .returned (.tuple #[z, u]) ∧ Up w w' ∧ SmO w' z N l ∧ Errs w' u e
theorem SymPost.err {w w' : World} {g : Nat} {C : Array Value} {u : Value} {e : Int} (hu : Up w w') (hg : w.heap.size ≤ g) (hB : Blk w' g 24 C) (hE : Errs w' u e) :
    SymPost w 0 [] e (.returned (.tuple #[.agg #[.int .i64 0, .slice none 0 0], u])) (w'.setRow g #[.int .i64 0, .slice none 0 0]) := by
  refine ⟨_, _, rfl, below_setRow hu hg _, SmO.zero _, ?_⟩
  rcases hE with h | ⟨h1, t, x, rfl, h2⟩
  · exact .inl h
  · refine .inr ⟨h1, t, x, rfl, ?_⟩
    obtain ⟨b, v, e1, e2, e3⟩ := h2
    refine ⟨b, v, e1, e2.row_other _ ?_, e3⟩
    rintro rfl
    unfold Blk at e2 hB
    rw [hB] at e2
    simp at e2
theorem SymPost.ok {w w' : World} {g base : Nat} {C : Array Value} {s : Value} {N : Int} {l : List Int} (hu : Up w w') (hg : w.heap.size ≤ g) (hB : Blk w' g 24 C) (hO : OwnI w' base s l) (hN : I64 N) (hl : In64 l) (hn : l.length ≤ 1000) :
    SymPost w N l 0 (.returned (.tuple #[.agg #[.int .i64 N, s], .nilIface])) (w'.setRow g #[.int .i64 N, s]) :=
  ⟨_, _, rfl, below_setRow hu hg _, ⟨s, base, rfl, hO.setRow hB, hN, hl, hn⟩, Errs.none_ _⟩
theorem OwnI.slice {w : World} {base : Nat} {v : Value} {l : List Int} (h : OwnI w base v l) : ∃ p n c, v = .slice p n c := by
  obtain ⟨p, c, e, _⟩ := h.vw
  exact ⟨p, _, c, e⟩
end Go.Proofs.YtdcpoamjmoceiaaGreatDoor
