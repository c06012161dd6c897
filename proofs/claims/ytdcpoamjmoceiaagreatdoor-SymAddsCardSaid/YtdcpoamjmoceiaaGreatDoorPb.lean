/-
  What the claim's law is built of: Arith, Step, I64, Fx, Er, EIs, EAs, EF, EAs2, Sy1, EO, EOps, Sy2.
-/
import Derived.Test.YtdcpoamjmoceiaaGreatDoorPa
import Derived.Test.YtdcpoamjmoceiaaGreatDoorProg
import Derived.WalkKit
import Derived.LaidEql
import Derived.WideLaws
import Derived.Stop.Asserts
import Derived.Defers
import Derived.Recover
import Derived.Deep.LoopGhost
import Derived.RowKitTokens
import Derived.Deep.QuietTactic
import Derived.BigQuiet
import Derived.Laws.AppendOwn
import Derived.Laws.OwnMore
/-
  wide: 64 bits made wide, and back; sums and differences.
-/
namespace Go.Proofs.YtdcpoamjmoceiaaGreatDoor
open Go Go.RowKit
set_option maxRecDepth 100000
theorem of_sum (v : Int) (h1 : -9223372036854775808 ≤ v) (h2 : v < 9223372036854775808) :
    sumL (upd (fun _ => if v < 0 then 18446744073709551615 else 0) 0 (v % 18446744073709551616).toNat) 16 = enc v := by
  have hs : ∀ (A V n : Nat), 1 ≤ n → sumL (upd (fun _ => A) 0 V) n * 18446744073709551615 = V * 18446744073709551615 + A * (bp n - 18446744073709551616) := by
    intro A V n hn
    obtain ⟨k, rfl⟩ : ∃ k, n = k + 1 := ⟨n - 1, by omega⟩
    clear hn
    induction k with
    | zero => rw [sumL_succ, sumL_zero, bp_zero, upd_same, bp_succ, bp_zero]; simp
    | succ k ih =>
      have h : 18446744073709551616 ≤ bp (k + 1) := by rw [bp_succ]; have := bp_pos k; omega
      have e : bp (k + 1 + 1) - 18446744073709551616 = (bp (k + 1) - 18446744073709551616) + bp (k + 1) * 18446744073709551615 := by rw [bp_succ (k + 1)]; omega
      rw [sumL_succ, Nat.add_mul, ih, upd_other _ _ _ (by omega), e, Nat.mul_add, Nat.mul_assoc, Nat.add_assoc]
  have h3 := bp16
  have hb6 : 18446744073709551616 ≤ bp 16 := by rw [bp_succ]; have := bp_pos 15; omega
  have hbb : 9223372036854775808 ≤ hb := by omega
  by_cases h0 : v < 0
  · have e := enc_neg (z := v) (InR.mk' (by omega)) h0
    rw [if_pos h0, e.1]
    have e2 : (v % 18446744073709551616).toNat = 18446744073709551616 - v.natAbs := by omega
    rw [e2]
    have h : sumL (upd (fun _ => 18446744073709551615) 0 (18446744073709551616 - v.natAbs)) 16 * 18446744073709551615 = (18446744073709551616 - v.natAbs) * 18446744073709551615 + 18446744073709551615 * (bp 16 - 18446744073709551616) := hs _ _ 16 (by decide)
    generalize sumL _ 16 = S at *
    omega
  · have e := enc_nn (z := v) (InR.mk' (by omega)) (by omega)
    rw [if_neg h0, e.1]
    have h : sumL (upd (fun _ => 0) 0 (v % 18446744073709551616).toNat) 16 * 18446744073709551615 = (v % 18446744073709551616).toNat * 18446744073709551615 + 0 * (bp 16 - 18446744073709551616) := hs _ _ 16 (by decide)
    generalize sumL _ 16 = S at *
    omega
set_option maxHeartbeats 400000 in
theorem of_any (v : Int) (h1 : -9223372036854775808 ≤ v) (h2 : v < 9223372036854775808) (w : World) :
    Calls Tryz.prog 49 #[.int .i64 v] w fun e w' => e = .returned (wideV (enc v)) ∧ Up w w' := by
  have hsum := of_sum v h1 h2
  obtain ⟨A, eA, hA, HA⟩ : ∃ A : Nat, IntKind.u64.wrap (v / 9223372036854775808) = (A : Int) ∧ A < 18446744073709551616 ∧ A = if v < 0 then 18446744073709551615 else 0 := by
    refine ⟨_, ?_, ?_, rfl⟩
    · rw [IntKind.wrap_u64]; split <;> omega
    · split <;> omega
  obtain ⟨V, eV, hV, HV⟩ : ∃ V : Nat, IntKind.u64.wrap v = (V : Int) ∧ V < 18446744073709551616 ∧ V = (v % 18446744073709551616).toNat := by
    refine ⟨_, ?_, ?_, rfl⟩
    · rw [IntKind.wrap_u64]; omega
    · omega
  rw [← HA, ← HV] at hsum
  have HS := hid hsum
  clear hsum HA HV
  generalize enc v = E at *
  go_enter Tryz.func49, Tryz.ntmps49
  go_wp2
  go_loopw [9] (fun i wr => ∃ k : Nat, k ≤ 16 ∧ i = .int .i64 k ∧ Row wr w.heap.size 54 16 (fun _ => 0) ∧ Row wr (w.heap.size + 1) 54 16 (fun i => if i < k then A else 0) ∧ Below w.heap.size w wr)
    (fun i _ => 16 - (intOf i).toNat)
  case atStart => exact ⟨0, by omega, rfl, (by (repeat (first | assumption | ((with_reducible apply row_newc); (focus (first | rfl | (simp; done)))) | ((with_reducible apply row_newz); (focus (first | rfl | (simp; done)))) | (with_reducible apply row_same) | ((with_reducible apply row_else); (focus (first | (simp; done) | (simp; omega) | omega))) | (with_reducible apply row_alloc) | (with_reducible apply row_drew) | (with_reducible apply row_drewN) | ((with_reducible apply row_up); assumption)))), Row.congr (f := fun _ => 0) (by (repeat (first | assumption | ((with_reducible apply row_newc); (focus (first | rfl | (simp; done)))) | ((with_reducible apply row_newz); (focus (first | rfl | (simp; done)))) | (with_reducible apply row_same) | ((with_reducible apply row_else); (focus (first | (simp; done) | (simp; omega) | omega))) | (with_reducible apply row_alloc) | (with_reducible apply row_drew) | (with_reducible apply row_drewN) | ((with_reducible apply row_up); assumption)))) (by simp), (by repeat (first | assumption | (with_reducible apply Up.of) | (with_reducible exact Below.refl _ _) | (with_reducible exact Up.refl _) | ((with_reducible apply bl_setRow); (focus (first | exact Nat.le_refl _ | (simp; done) | (simp; omega) | omega))) | (with_reducible apply below_drewN) | (with_reducible apply Below.drew) | ((with_reducible apply bl_alloc); (focus (first | exact Nat.le_refl _ | (simp; done) | (simp; omega) | omega))) | ((with_reducible apply bl_setCell); (focus (first | exact Nat.le_refl _ | (simp; done) | (simp; omega) | omega))) | ((with_reducible apply up_tr); assumption)))⟩
  case round =>
    obtain ⟨k, hk, rfl, hR, hX, hB⟩ := hrel
    by_cases hlt : k < 16
    · have hc := hX.cell k hlt
      have hf := hX.frozen k
      have hX2 := hX.set k A
      have hR2 := hR.other ⟨w.heap.size + 1, k, none⟩ (.int .u64 (A : Nat)) (by simp)
      have hB2 := hB.setCell (p := ⟨w.heap.size + 1, k, none⟩) (by simp) (.int .u64 (A : Nat))
      go_wp2
      go_roundw
      case rel =>
        refine ⟨k + 1, by omega, by go_num, hR2, Row.congr hX2 fun i hi => ?_, hB2⟩
        unfold upd
        split
        · exact (if_pos (by omega)).symm
        · show (if i < k then A else 0) = if i < k + 1 then A else 0
          split
          · rw [if_pos (by omega)]
          · rw [if_neg (by omega)]
      case measure => simp [intOf] <;> omega
    · obtain rfl : k = 16 := by omega
      have hc := hX.cell 0 (by omega)
      have hf := hX.frozen 0
      have hX2 : Row (wr.setCell ⟨w.heap.size + 1, 0, none⟩ (.int .u64 (V : Nat))) (w.heap.size + 1) 54 16 (upd (fun _ => A) 0 V) := Row.congr (hX.set 0 V) fun i hi => by
        unfold upd
        split
        · rfl
        · exact if_pos hi
      have hR2 := hR.other ⟨w.heap.size + 1, 0, none⟩ (.int .u64 (V : Nat)) (by simp)
      have hB2 := hB.setCell (p := ⟨w.heap.size + 1, 0, none⟩) (by simp) (.int .u64 (V : Nat))
      go_wp2_with (first | ((with_reducible apply ld_rowP undW infoW); exact rfl; exact rfl; focus (repeat (first | assumption | ((with_reducible apply row_newc); (focus (first | rfl | (simp; done)))) | ((with_reducible apply row_newz); (focus (first | rfl | (simp; done)))) | (with_reducible apply row_same) | ((with_reducible apply row_else); (focus (first | (simp; done) | (simp; omega) | omega))) | (with_reducible apply row_alloc) | (with_reducible apply row_drew) | (with_reducible apply row_drewN) | ((with_reducible apply row_up); assumption)))) | ((with_reducible apply st_rowP infoW); exact rfl; exact rfl; focus (repeat (first | assumption | ((with_reducible apply row_newc); (focus (first | rfl | (simp; done)))) | ((with_reducible apply row_newz); (focus (first | rfl | (simp; done)))) | (with_reducible apply row_same) | ((with_reducible apply row_else); (focus (first | (simp; done) | (simp; omega) | omega))) | (with_reducible apply row_alloc) | (with_reducible apply row_drew) | (with_reducible apply row_drewN) | ((with_reducible apply row_up); assumption)))) | ((with_reducible apply st_rowZ infoW); exact rfl; exact rfl; focus (repeat (first | assumption | ((with_reducible apply row_newc); (focus (first | rfl | (simp; done)))) | ((with_reducible apply row_newz); (focus (first | rfl | (simp; done)))) | (with_reducible apply row_same) | ((with_reducible apply row_else); (focus (first | (simp; done) | (simp; omega) | omega))) | (with_reducible apply row_alloc) | (with_reducible apply row_drew) | (with_reducible apply row_drewN) | ((with_reducible apply row_up); assumption)))))
      exact bodyPost_ret (res1 rfl undW infoW _ _ rfl (by (repeat (first | assumption | ((with_reducible apply row_newc); (focus (first | rfl | (simp; done)))) | ((with_reducible apply row_newz); (focus (first | rfl | (simp; done)))) | (with_reducible apply row_same) | ((with_reducible apply row_else); (focus (first | (simp; done) | (simp; omega) | omega))) | (with_reducible apply row_alloc) | (with_reducible apply row_drew) | (with_reducible apply row_drewN) | ((with_reducible apply row_up); assumption))))) rfl ⟨by
        rw [wide_of (upd_lt (fun _ _ => hA) hV), HS.out], (by repeat (first | assumption | (with_reducible apply Up.of) | (with_reducible exact Below.refl _ _) | (with_reducible exact Up.refl _) | ((with_reducible apply bl_setRow); (focus (first | exact Nat.le_refl _ | (simp; done) | (simp; omega) | omega))) | (with_reducible apply below_drewN) | (with_reducible apply Below.drew) | ((with_reducible apply bl_alloc); (focus (first | exact Nat.le_refl _ | (simp; done) | (simp; omega) | omega))) | ((with_reducible apply bl_setCell); (focus (first | exact Nat.le_refl _ | (simp; done) | (simp; omega) | omega))) | ((with_reducible apply up_tr); assumption)))⟩

theorem op_neB {o : Oper} {a : Act} {x y : Operand} {u : TypeId} (ho : o.op = .binOp .neq 54 x y u) {p q : Nat} (hx : a.eval x = .agg (cells 16 (limb p))) (hy : a.eval y = .agg (cells 16 (limb q))) (hp : p < bp 16) (hq : q < bp 16) {b : Bool} (hv : IsB (decide (p = q)) b) (w : World) :
    (execOp a.eval o).run Tryz.prog w = .ok (.value (.bool (!b))) w := by
  rw [← show decide (p = q) = b from hv]
  exact op_neW ho hx hy hp hq w
/-- What Int64 tells. -/
def i64V (z : Int) : Value := .tuple #[.int .i64 (if -9223372036854775808 ≤ z ∧ z < 9223372036854775808 then z else 0), .bool (decide (-9223372036854775808 ≤ z ∧ z < 9223372036854775808))]
theorem limb0 (x : Nat) : limb x 0 = x % 18446744073709551616 := by unfold limb; rw [bp_zero, Nat.div_one]
theorem enc_mod (z : Int) : ((enc z : Nat) : Int) % 18446744073709551616 = z % 18446744073709551616 := by
  unfold enc
  have h := bp_pos 16
  have h2 : ((bp 16 : Nat) : Int) = (bp 15 : Nat) * 18446744073709551616 := by rw [bp_succ]; omega
  rw [Int.toNat_of_nonneg (Int.emod_nonneg _ (by omega)), h2]
  exact Int.emod_emod_of_dvd _ ⟨_, Int.mul_comm _ _⟩
set_option maxHeartbeats 400000 in
theorem int64_z {z : Int} (hz : InR z) (w : World) :
    Calls Tryz.prog 46 #[wideV (enc z)] w fun e w' => e = .returned (i64V z) ∧ Up w w' := by
  have hl := limb0 (enc z)
  have hm := enc_mod z
  have hlt := limb_lt (enc z) 0
  obtain ⟨v, hv1, hv2, hv3, hvm⟩ : ∃ v : Int, IntKind.i64.wrap (limb (enc z) 0 : Nat) = v ∧ -9223372036854775808 ≤ v ∧ v < 9223372036854775808 ∧ v % 18446744073709551616 = z % 18446744073709551616 := by
    refine ⟨_, rfl, ?_⟩
    rw [hl]
    generalize enc z = e at *
    rw [IntKind.wrap_i64]
    omega
  have hvR : InR v := InR.mk' (by
    have h3 := bp16
    have : 18446744073709551616 ≤ bp 16 := by rw [bp_succ]; have := bp_pos 15; omega
    omega)
  have hiff : enc z = enc v ↔ (-9223372036854775808 ≤ z ∧ z < 9223372036854775808) :=
    ⟨fun h => by rw [enc_inj hz hvR h]; exact ⟨hv2, hv3⟩, fun h => by rw [show z = v by omega]⟩
  have hp := enc_lt z
  have hq := enc_lt v
  have HO := hid (fun w => of_any v hv2 hv3 w)
  clear hl hm
  by_cases hr : -9223372036854775808 ≤ z ∧ z < 9223372036854775808
  · have e : i64V z = .tuple #[.int .i64 v, .bool true] := by
      have : z = v := by omega
      unfold i64V
      rw [if_pos hr, decide_eq_true hr, this]
    rw [e]
    have hd : IsB (decide (enc z = enc v)) true := decide_eq_true (hiff.2 hr)
    clear hr hiff hvm hvR e hv2 hv3
    unfold wideV at *
    go_enter Tryz.func46, Tryz.ntmps46
    have hc := cells_get 16 (limb (enc z)) 0 (by decide)
    go_wp2
    refine wp_region_upS (S := (fun wq => Row wq w.heap.size 54 16 (limb (enc z)) ∧ Below w.heap.size w wq)) (req := (fun _ => true)) (by kernel_rfl) (fun _ _ h hu => ⟨(h.1).up hu, below_up (h.2) hu⟩) ⟨(by (repeat (first | assumption | ((with_reducible apply row_newc); (focus (first | rfl | (simp; done)))) | ((with_reducible apply row_newz); (focus (first | rfl | (simp; done)))) | (with_reducible apply row_same) | ((with_reducible apply row_else); (focus (first | (simp; done) | (simp; omega) | omega))) | (with_reducible apply row_alloc) | (with_reducible apply row_drew) | (with_reducible apply row_drewN) | ((with_reducible apply row_up); assumption)))), (by repeat (first | assumption | (with_reducible apply Up.of) | (with_reducible exact Below.refl _ _) | (with_reducible exact Up.refl _) | ((with_reducible apply bl_setRow); (focus (first | exact Nat.le_refl _ | (simp; done) | (simp; omega) | omega))) | (with_reducible apply below_drewN) | (with_reducible apply Below.drew) | ((with_reducible apply bl_alloc); (focus (first | exact Nat.le_refl _ | (simp; done) | (simp; omega) | omega))) | ((with_reducible apply bl_setCell); (focus (first | exact Nat.le_refl _ | (simp; done) | (simp; omega) | omega))) | ((with_reducible apply up_tr); assumption)))⟩ (fun wS hSS => ?_)
    have ⟨hS1, hSB⟩ := hSS
    refine wpAnyU_take (i := 0) (d := (some 8)) (v := _) rfl rfl (by kernel_rfl) (fun _ _ _ h => h) (fun _ _ h hu => ⟨(h.1).up hu, below_up (h.2) hu⟩) hSS (Or.inl ⟨by rfl, fun w' hSw => yu_value (run_ld undW infoW _ rfl _ rfl hSw.1)⟩) ?_
    try simp only [Act.put, List.setIfInBounds_toArray, List.set_cons_zero, List.set_cons_succ]
    refine wpAnyU_pure (i := 1) (d := (some 9)) (v := ?_) rfl rfl (by kernel_rfl) (fun _ _ _ h => h) (fun _ _ h hu => ⟨(h.1).up hu, below_up (h.2) hu⟩) (Or.inl ⟨by rfl, fun w' _ => yu_value ?_⟩) ?_
    rotate_left
    · (go_simp; (try exact rfl))
    try simp only [Act.put, List.setIfInBounds_toArray, List.set_cons_zero, List.set_cons_succ]
    refine wpAnyU_take (i := 2) (d := (some 10)) (v := _) rfl rfl (by kernel_rfl) (fun _ _ _ h => h) (fun _ _ h hu => ⟨(h.1).up hu, below_up (h.2) hu⟩) hSS (Or.inl ⟨by rfl, fun w' hSw => yu_call ?_ (HO.out _)⟩) ?_
    · go_simp
    try simp only [Act.put, List.setIfInBounds_toArray, List.set_cons_zero, List.set_cons_succ]
    refine wpAnyU_take (i := 3) (d := (some 11)) (v := _) rfl rfl (by kernel_rfl) (fun _ _ _ h => h) (fun _ _ h hu => ⟨(h.1).up hu, below_up (h.2) hu⟩) hSS (Or.inl ⟨by rfl, fun w' hSw => yu_value (op_neB rfl rfl rfl hp hq hd _)⟩) ?_
    try simp only [Act.put, List.setIfInBounds_toArray, List.set_cons_zero, List.set_cons_succ]
    refine wpAnyU_done (by kernel_rfl) (fun wE huE => ?_) _
    have ⟨hS1, hSB⟩ := ((fun _ _ h hu => ⟨(h.1).up hu, below_up (h.2) hu⟩) : ∀ w1 w2 : World, (fun wq => Row wq w.heap.size 54 16 (limb (enc z)) ∧ Below w.heap.size w wq) w1 → Up w1 w2 → (fun wq => Row wq w.heap.size 54 16 (limb (enc z)) ∧ Below w.heap.size w wq) w2) _ _ hSS huE
    clear huE hSS
    go_wp2
    go_ret2
    exact ⟨rfl, hSB⟩
  · have e : i64V z = .tuple #[.int .i64 0, .bool false] := by
      unfold i64V
      rw [if_neg hr, decide_eq_false hr]
    rw [e]
    have hd : IsB (decide (enc z = enc v)) false := decide_eq_false fun h => hr (hiff.1 h)
    clear hr hiff hvm hvR e hv2 hv3
    unfold wideV at *
    go_enter Tryz.func46, Tryz.ntmps46
    have hc := cells_get 16 (limb (enc z)) 0 (by decide)
    go_wp2
    refine wp_region_upS (S := (fun wq => Row wq w.heap.size 54 16 (limb (enc z)) ∧ Below w.heap.size w wq)) (req := (fun _ => true)) (by kernel_rfl) (fun _ _ h hu => ⟨(h.1).up hu, below_up (h.2) hu⟩) ⟨(by (repeat (first | assumption | ((with_reducible apply row_newc); (focus (first | rfl | (simp; done)))) | ((with_reducible apply row_newz); (focus (first | rfl | (simp; done)))) | (with_reducible apply row_same) | ((with_reducible apply row_else); (focus (first | (simp; done) | (simp; omega) | omega))) | (with_reducible apply row_alloc) | (with_reducible apply row_drew) | (with_reducible apply row_drewN) | ((with_reducible apply row_up); assumption)))), (by repeat (first | assumption | (with_reducible apply Up.of) | (with_reducible exact Below.refl _ _) | (with_reducible exact Up.refl _) | ((with_reducible apply bl_setRow); (focus (first | exact Nat.le_refl _ | (simp; done) | (simp; omega) | omega))) | (with_reducible apply below_drewN) | (with_reducible apply Below.drew) | ((with_reducible apply bl_alloc); (focus (first | exact Nat.le_refl _ | (simp; done) | (simp; omega) | omega))) | ((with_reducible apply bl_setCell); (focus (first | exact Nat.le_refl _ | (simp; done) | (simp; omega) | omega))) | ((with_reducible apply up_tr); assumption)))⟩ (fun wS hSS => ?_)
    have ⟨hS1, hSB⟩ := hSS
    refine wpAnyU_take (i := 0) (d := (some 8)) (v := _) rfl rfl (by kernel_rfl) (fun _ _ _ h => h) (fun _ _ h hu => ⟨(h.1).up hu, below_up (h.2) hu⟩) hSS (Or.inl ⟨by rfl, fun w' hSw => yu_value (run_ld undW infoW _ rfl _ rfl hSw.1)⟩) ?_
    try simp only [Act.put, List.setIfInBounds_toArray, List.set_cons_zero, List.set_cons_succ]
    refine wpAnyU_pure (i := 1) (d := (some 9)) (v := ?_) rfl rfl (by kernel_rfl) (fun _ _ _ h => h) (fun _ _ h hu => ⟨(h.1).up hu, below_up (h.2) hu⟩) (Or.inl ⟨by rfl, fun w' _ => yu_value ?_⟩) ?_
    rotate_left
    · (go_simp; (try exact rfl))
    try simp only [Act.put, List.setIfInBounds_toArray, List.set_cons_zero, List.set_cons_succ]
    refine wpAnyU_take (i := 2) (d := (some 10)) (v := _) rfl rfl (by kernel_rfl) (fun _ _ _ h => h) (fun _ _ h hu => ⟨(h.1).up hu, below_up (h.2) hu⟩) hSS (Or.inl ⟨by rfl, fun w' hSw => yu_call ?_ (HO.out _)⟩) ?_
    · go_simp
    try simp only [Act.put, List.setIfInBounds_toArray, List.set_cons_zero, List.set_cons_succ]
    refine wpAnyU_take (i := 3) (d := (some 11)) (v := _) rfl rfl (by kernel_rfl) (fun _ _ _ h => h) (fun _ _ h hu => ⟨(h.1).up hu, below_up (h.2) hu⟩) hSS (Or.inl ⟨by rfl, fun w' hSw => yu_value (op_neB rfl rfl rfl hp hq hd _)⟩) ?_
    try simp only [Act.put, List.setIfInBounds_toArray, List.set_cons_zero, List.set_cons_succ]
    refine wpAnyU_done (by kernel_rfl) (fun wE huE => ?_) _
    have ⟨hS1, hSB⟩ := ((fun _ _ h hu => ⟨(h.1).up hu, below_up (h.2) hu⟩) : ∀ w1 w2 : World, (fun wq => Row wq w.heap.size 54 16 (limb (enc z)) ∧ Below w.heap.size w wq) w1 → Up w1 w2 → (fun wq => Row wq w.heap.size 54 16 (limb (enc z)) ∧ Below w.heap.size w wq) w2) _ _ hSS huE
    clear huE hSS
    go_wp2
    go_ret2
    exact ⟨rfl, hSB⟩

theorem plus_ok {a b : Int} (ha : InR a) (hb' : InR b) : ((a < 0 ↔ b < 0) → ((decide (hb ≤ enc (a + b)) = decide (a < 0)) ↔ InR (a + b))) ∧ (¬ (a < 0 ↔ b < 0) → InR (a + b)) := by
  have h1 := ha.out
  have h2 := hb'.out
  have h3 := bp16
  have h4 := hb_pos
  constructor
  · intro h
    by_cases a0 : a < 0
    · have e : enc (a + b) = if a + b = -(bp 16 : Int) then 0 else (a + b + bp 16).toNat := by
        unfold enc
        split
        · rename_i e; rw [e, Int.neg_emod_self]; rfl
        · rw [← Int.add_emod_right, Int.emod_eq_of_lt (by omega) (by omega)]
      rw [e, decide_eq_true a0, decide_eq_true_iff]
      constructor
      · intro h5
        refine InR.mk' ?_
        split at h5 <;> omega
      · intro h5
        have := h5.out
        split <;> omega
    · have e : enc (a + b) = (a + b).toNat := by
        unfold enc
        rw [Int.emod_eq_of_lt (by omega) (by omega)]
      rw [e, decide_eq_false a0, decide_eq_false_iff_not]
      constructor
      · intro h5; exact InR.mk' (by omega)
      · intro h5; have := h5.out; omega
  · intro h
    exact InR.mk' (by omega)
set_option maxHeartbeats 1000000 in
theorem add_z {a b : Int} (ha : InR a) (hb' : InR b) (w : World) :
    Calls Tryz.prog 76 #[wideV (enc a), wideV (enc b)] w fun e w' => e = .returned (opt (a + b)) ∧ Up w w' := by
  have HA := hid (fun w => minus_z ha w)
  have HB := hid (fun w => minus_z hb' w)
  have HM := hid (fun w => minus_e (a + b) w)
  have HP := hid (fun w => plus_z a b w)
  obtain ⟨hk1, hk2⟩ := plus_ok ha hb'
  by_cases a0 : a < 0
  · have hd : decide (a < 0) = true := by simpa using a0
    rw [hd] at HA hk1
    by_cases b0 : b < 0
    · have hd2 : decide (b < 0) = true := by simpa using b0
      rw [hd2] at HB
      have hk := hk1 (by simp [a0, b0])
      by_cases hs : hb ≤ enc (a + b)
      · have hd3 : decide (hb ≤ enc (a + b)) = true := by simpa using hs
        rw [hd3] at HM hk
        rw [opt_yes (hk.1 rfl)]
        clear hk1 hk2 hk hs hd hd2 hd3 a0 b0
        unfold wideV at *
        go_enter Tryz.func76, Tryz.ntmps76
        go_wp2_with (first | ((with_reducible apply ld_rowP undW infoW); exact rfl; exact rfl; focus (repeat (first | assumption | ((with_reducible apply row_newc); (focus (first | rfl | (simp; done)))) | ((with_reducible apply row_newz); (focus (first | rfl | (simp; done)))) | (with_reducible apply row_same) | ((with_reducible apply row_else); (focus (first | (simp; done) | (simp; omega) | omega))) | (with_reducible apply row_alloc) | (with_reducible apply row_drew) | (with_reducible apply row_drewN) | ((with_reducible apply row_up); assumption)))) | ((with_reducible apply st_rowP infoW); exact rfl; exact rfl; focus (repeat (first | assumption | ((with_reducible apply row_newc); (focus (first | rfl | (simp; done)))) | ((with_reducible apply row_newz); (focus (first | rfl | (simp; done)))) | (with_reducible apply row_same) | ((with_reducible apply row_else); (focus (first | (simp; done) | (simp; omega) | omega))) | (with_reducible apply row_alloc) | (with_reducible apply row_drew) | (with_reducible apply row_drewN) | ((with_reducible apply row_up); assumption)))) | ((with_reducible apply st_rowZ infoW); exact rfl; exact rfl; focus (repeat (first | assumption | ((with_reducible apply row_newc); (focus (first | rfl | (simp; done)))) | ((with_reducible apply row_newz); (focus (first | rfl | (simp; done)))) | (with_reducible apply row_same) | ((with_reducible apply row_else); (focus (first | (simp; done) | (simp; omega) | omega))) | (with_reducible apply row_alloc) | (with_reducible apply row_drew) | (with_reducible apply row_drewN) | ((with_reducible apply row_up); assumption)))) | (go_at_call 97; refine (HP.out _).mono ?_; rintro e w' ⟨rfl, hu⟩; have hsz := hu.size; simp at hsz))
        refine wp_region_upS (S := (fun wq => Row wq w.heap.size 54 16 (limb (enc a)) ∧ Row wq (w.heap.size + 1) 54 16 (limb (enc b)) ∧ Row wq (w.heap.size + 1 + 1) 54 16 (fun _ => 0) ∧ Row wq w'.heap.size 54 16 (limb (enc (a + b))) ∧ Below w.heap.size w wq)) (req := (fun _ => true)) (by kernel_rfl) (fun _ _ h hu => ⟨(h.1).up hu, (h.2.1).up hu, (h.2.2.1).up hu, (h.2.2.2.1).up hu, below_up (h.2.2.2.2) hu⟩) ⟨(by (repeat (first | assumption | ((with_reducible apply row_newc); (focus (first | rfl | (simp; done)))) | ((with_reducible apply row_newz); (focus (first | rfl | (simp; done)))) | (with_reducible apply row_same) | ((with_reducible apply row_else); (focus (first | (simp; done) | (simp; omega) | omega))) | (with_reducible apply row_alloc) | (with_reducible apply row_drew) | (with_reducible apply row_drewN) | ((with_reducible apply row_up); assumption)))), (by (repeat (first | assumption | ((with_reducible apply row_newc); (focus (first | rfl | (simp; done)))) | ((with_reducible apply row_newz); (focus (first | rfl | (simp; done)))) | (with_reducible apply row_same) | ((with_reducible apply row_else); (focus (first | (simp; done) | (simp; omega) | omega))) | (with_reducible apply row_alloc) | (with_reducible apply row_drew) | (with_reducible apply row_drewN) | ((with_reducible apply row_up); assumption)))), (by (repeat (first | assumption | ((with_reducible apply row_newc); (focus (first | rfl | (simp; done)))) | ((with_reducible apply row_newz); (focus (first | rfl | (simp; done)))) | (with_reducible apply row_same) | ((with_reducible apply row_else); (focus (first | (simp; done) | (simp; omega) | omega))) | (with_reducible apply row_alloc) | (with_reducible apply row_drew) | (with_reducible apply row_drewN) | ((with_reducible apply row_up); assumption)))), (by (repeat (first | assumption | ((with_reducible apply row_newc); (focus (first | rfl | (simp; done)))) | ((with_reducible apply row_newz); (focus (first | rfl | (simp; done)))) | (with_reducible apply row_same) | ((with_reducible apply row_else); (focus (first | (simp; done) | (simp; omega) | omega))) | (with_reducible apply row_alloc) | (with_reducible apply row_drew) | (with_reducible apply row_drewN) | ((with_reducible apply row_up); assumption)))), (by repeat (first | assumption | (with_reducible apply Up.of) | (with_reducible exact Below.refl _ _) | (with_reducible exact Up.refl _) | ((with_reducible apply bl_setRow); (focus (first | exact Nat.le_refl _ | (simp; done) | (simp; omega) | omega))) | (with_reducible apply below_drewN) | (with_reducible apply Below.drew) | ((with_reducible apply bl_alloc); (focus (first | exact Nat.le_refl _ | (simp; done) | (simp; omega) | omega))) | ((with_reducible apply bl_setCell); (focus (first | exact Nat.le_refl _ | (simp; done) | (simp; omega) | omega))) | ((with_reducible apply up_tr); assumption)))⟩ (fun wS hSS => ?_)
        have ⟨hS1, hS2, hS3, hS4, hSB⟩ := hSS
        clear hu
        refine wpAnyU_take (i := 0) (d := (some 10)) (v := _) rfl rfl (by kernel_rfl) (fun _ _ _ h => h) (fun _ _ h hu => ⟨(h.1).up hu, (h.2.1).up hu, (h.2.2.1).up hu, (h.2.2.2.1).up hu, below_up (h.2.2.2.2) hu⟩) hSS (Or.inl ⟨by rfl, fun w' hSw => yu_value (run_ld undW infoW _ rfl _ rfl hSw.1)⟩) ?_
        try simp only [Act.put, List.setIfInBounds_toArray, List.set_cons_zero, List.set_cons_succ]
        refine wpAnyU_take (i := 1) (d := (some 11)) (v := _) rfl rfl (by kernel_rfl) (fun _ _ _ h => h) (fun _ _ h hu => ⟨(h.1).up hu, (h.2.1).up hu, (h.2.2.1).up hu, (h.2.2.2.1).up hu, below_up (h.2.2.2.2) hu⟩) hSS (Or.inl ⟨by rfl, fun w' hSw => yu_call ?_ (HA.out _)⟩) ?_
        · go_simp
        try simp only [Act.put, List.setIfInBounds_toArray, List.set_cons_zero, List.set_cons_succ]
        refine wpAnyU_take (i := 2) (d := (some 12)) (v := _) rfl rfl (by kernel_rfl) (fun _ _ _ h => h) (fun _ _ h hu => ⟨(h.1).up hu, (h.2.1).up hu, (h.2.2.1).up hu, (h.2.2.2.1).up hu, below_up (h.2.2.2.2) hu⟩) hSS (Or.inl ⟨by rfl, fun w' hSw => yu_value (run_ld undW infoW _ rfl _ rfl hSw.2.1)⟩) ?_
        try simp only [Act.put, List.setIfInBounds_toArray, List.set_cons_zero, List.set_cons_succ]
        refine wpAnyU_take (i := 3) (d := (some 13)) (v := _) rfl rfl (by kernel_rfl) (fun _ _ _ h => h) (fun _ _ h hu => ⟨(h.1).up hu, (h.2.1).up hu, (h.2.2.1).up hu, (h.2.2.2.1).up hu, below_up (h.2.2.2.2) hu⟩) hSS (Or.inl ⟨by rfl, fun w' hSw => yu_call ?_ (HB.out _)⟩) ?_
        · go_simp
        try simp only [Act.put, List.setIfInBounds_toArray, List.set_cons_zero, List.set_cons_succ]
        refine wpAnyU_pure (i := 4) (d := (some 14)) (v := ?_) rfl rfl (by kernel_rfl) (fun _ _ _ h => h) (fun _ _ h hu => ⟨(h.1).up hu, (h.2.1).up hu, (h.2.2.1).up hu, (h.2.2.2.1).up hu, below_up (h.2.2.2.2) hu⟩) (Or.inl ⟨by rfl, fun w' _ => yu_value ?_⟩) ?_
        rotate_left
        · (go_simp; (try exact rfl))
        try simp only [Act.put, List.setIfInBounds_toArray, List.set_cons_zero, List.set_cons_succ]
        refine wpAnyU_pure (i := 5) (d := (some 15)) (v := ?_) rfl rfl (by kernel_rfl) (fun _ _ _ h => h) (fun _ _ h hu => ⟨(h.1).up hu, (h.2.1).up hu, (h.2.2.1).up hu, (h.2.2.2.1).up hu, below_up (h.2.2.2.2) hu⟩) (Or.inl ⟨by rfl, fun w' _ => yu_value ?_⟩) ?_
        rotate_left
        · (go_simp; (try exact rfl))
        try simp only [Act.put, List.setIfInBounds_toArray, List.set_cons_zero, List.set_cons_succ]
        refine wpAnyU_take (i := 6) (d := (some 16)) (v := _) rfl rfl (by kernel_rfl) (fun _ _ _ h => h) (fun _ _ h hu => ⟨(h.1).up hu, (h.2.1).up hu, (h.2.2.1).up hu, (h.2.2.2.1).up hu, below_up (h.2.2.2.2) hu⟩) hSS (Or.inl ⟨by rfl, fun w' hSw => yu_value (run_ld undW infoW _ rfl _ rfl hSw.2.2.2.1)⟩) ?_
        try simp only [Act.put, List.setIfInBounds_toArray, List.set_cons_zero, List.set_cons_succ]
        refine wpAnyU_take (i := 7) (d := (some 17)) (v := _) rfl rfl (by kernel_rfl) (fun _ _ _ h => h) (fun _ _ h hu => ⟨(h.1).up hu, (h.2.1).up hu, (h.2.2.1).up hu, (h.2.2.2.1).up hu, below_up (h.2.2.2.2) hu⟩) hSS (Or.inl ⟨by rfl, fun w' hSw => yu_call ?_ (HM.out _)⟩) ?_
        · go_simp
        try simp only [Act.put, List.setIfInBounds_toArray, List.set_cons_zero, List.set_cons_succ]
        refine wpAnyU_take (i := 8) (d := (some 18)) (v := _) rfl rfl (by kernel_rfl) (fun _ _ _ h => h) (fun _ _ h hu => ⟨(h.1).up hu, (h.2.1).up hu, (h.2.2.1).up hu, (h.2.2.2.1).up hu, below_up (h.2.2.2.2) hu⟩) hSS (Or.inl ⟨by rfl, fun w' hSw => yu_value (run_ld undW infoW _ rfl _ rfl hSw.1)⟩) ?_
        try simp only [Act.put, List.setIfInBounds_toArray, List.set_cons_zero, List.set_cons_succ]
        refine wpAnyU_take (i := 9) (d := (some 19)) (v := _) rfl rfl (by kernel_rfl) (fun _ _ _ h => h) (fun _ _ h hu => ⟨(h.1).up hu, (h.2.1).up hu, (h.2.2.1).up hu, (h.2.2.2.1).up hu, below_up (h.2.2.2.2) hu⟩) hSS (Or.inl ⟨by rfl, fun w' hSw => yu_call ?_ (HA.out _)⟩) ?_
        · go_simp
        try simp only [Act.put, List.setIfInBounds_toArray, List.set_cons_zero, List.set_cons_succ]
        refine wpAnyU_pure (i := 10) (d := (some 20)) (v := ?_) rfl rfl (by kernel_rfl) (fun _ _ _ h => h) (fun _ _ h hu => ⟨(h.1).up hu, (h.2.1).up hu, (h.2.2.1).up hu, (h.2.2.2.1).up hu, below_up (h.2.2.2.2) hu⟩) (Or.inl ⟨by rfl, fun w' _ => yu_value ?_⟩) ?_
        rotate_left
        · (go_simp; (try exact rfl))
        try simp only [Act.put, List.setIfInBounds_toArray, List.set_cons_zero, List.set_cons_succ]
        refine wpAnyU_pure (i := 11) (d := (some 21)) (v := ?_) rfl rfl (by kernel_rfl) (fun _ _ _ h => h) (fun _ _ h hu => ⟨(h.1).up hu, (h.2.1).up hu, (h.2.2.1).up hu, (h.2.2.2.1).up hu, below_up (h.2.2.2.2) hu⟩) (Or.inl ⟨by rfl, fun w' _ => yu_value ?_⟩) ?_
        rotate_left
        · (go_simp; (try exact rfl))
        try simp only [Act.put, List.setIfInBounds_toArray, List.set_cons_zero, List.set_cons_succ]
        refine wpAnyU_done (by kernel_rfl) (fun wE huE => ?_) _
        have ⟨hS1, hS2, hS3, hS4, hSB⟩ := ((fun _ _ h hu => ⟨(h.1).up hu, (h.2.1).up hu, (h.2.2.1).up hu, (h.2.2.2.1).up hu, below_up (h.2.2.2.2) hu⟩) : ∀ w1 w2 : World, (fun wq => Row wq w.heap.size 54 16 (limb (enc a)) ∧ Row wq (w.heap.size + 1) 54 16 (limb (enc b)) ∧ Row wq (w.heap.size + 1 + 1) 54 16 (fun _ => 0) ∧ Row wq w'.heap.size 54 16 (limb (enc (a + b))) ∧ Below w.heap.size w wq) w1 → Up w1 w2 → (fun wq => Row wq w.heap.size 54 16 (limb (enc a)) ∧ Row wq (w.heap.size + 1) 54 16 (limb (enc b)) ∧ Row wq (w.heap.size + 1 + 1) 54 16 (fun _ => 0) ∧ Row wq w'.heap.size 54 16 (limb (enc (a + b))) ∧ Below w.heap.size w wq) w2) _ _ hSS huE
        clear huE hSS
        go_wp2_with (first | ((with_reducible apply ld_rowP undW infoW); exact rfl; exact rfl; focus (repeat (first | assumption | ((with_reducible apply row_newc); (focus (first | rfl | (simp; done)))) | ((with_reducible apply row_newz); (focus (first | rfl | (simp; done)))) | (with_reducible apply row_same) | ((with_reducible apply row_else); (focus (first | (simp; done) | (simp; omega) | omega))) | (with_reducible apply row_alloc) | (with_reducible apply row_drew) | (with_reducible apply row_drewN) | ((with_reducible apply row_up); assumption)))) | ((with_reducible apply st_rowP infoW); exact rfl; exact rfl; focus (repeat (first | assumption | ((with_reducible apply row_newc); (focus (first | rfl | (simp; done)))) | ((with_reducible apply row_newz); (focus (first | rfl | (simp; done)))) | (with_reducible apply row_same) | ((with_reducible apply row_else); (focus (first | (simp; done) | (simp; omega) | omega))) | (with_reducible apply row_alloc) | (with_reducible apply row_drew) | (with_reducible apply row_drewN) | ((with_reducible apply row_up); assumption)))) | ((with_reducible apply st_rowZ infoW); exact rfl; exact rfl; focus (repeat (first | assumption | ((with_reducible apply row_newc); (focus (first | rfl | (simp; done)))) | ((with_reducible apply row_newz); (focus (first | rfl | (simp; done)))) | (with_reducible apply row_same) | ((with_reducible apply row_else); (focus (first | (simp; done) | (simp; omega) | omega))) | (with_reducible apply row_alloc) | (with_reducible apply row_drew) | (with_reducible apply row_drewN) | ((with_reducible apply row_up); assumption)))))
        exact bodyPost_ret (res2 rfl undW infoW _ _ rfl (by (repeat (first | assumption | ((with_reducible apply row_newc); (focus (first | rfl | (simp; done)))) | ((with_reducible apply row_newz); (focus (first | rfl | (simp; done)))) | (with_reducible apply row_same) | ((with_reducible apply row_else); (focus (first | (simp; done) | (simp; omega) | omega))) | (with_reducible apply row_alloc) | (with_reducible apply row_drew) | (with_reducible apply row_drewN) | ((with_reducible apply row_up); assumption))))) rfl ⟨rfl, (by repeat (first | assumption | (with_reducible apply Up.of) | (with_reducible exact Below.refl _ _) | (with_reducible exact Up.refl _) | ((with_reducible apply bl_setRow); (focus (first | exact Nat.le_refl _ | (simp; done) | (simp; omega) | omega))) | (with_reducible apply below_drewN) | (with_reducible apply Below.drew) | ((with_reducible apply bl_alloc); (focus (first | exact Nat.le_refl _ | (simp; done) | (simp; omega) | omega))) | ((with_reducible apply bl_setCell); (focus (first | exact Nat.le_refl _ | (simp; done) | (simp; omega) | omega))) | ((with_reducible apply up_tr); assumption)))⟩
      · have hd3 : decide (hb ≤ enc (a + b)) = false := by simpa using hs
        rw [hd3] at HM hk
        rw [opt_no fun h => by simpa using hk.2 h]
        clear hk1 hk2 hk hs hd hd2 hd3 a0 b0
        unfold wideV at *
        go_enter Tryz.func76, Tryz.ntmps76
        go_wp2_with (first | ((with_reducible apply ld_rowP undW infoW); exact rfl; exact rfl; focus (repeat (first | assumption | ((with_reducible apply row_newc); (focus (first | rfl | (simp; done)))) | ((with_reducible apply row_newz); (focus (first | rfl | (simp; done)))) | (with_reducible apply row_same) | ((with_reducible apply row_else); (focus (first | (simp; done) | (simp; omega) | omega))) | (with_reducible apply row_alloc) | (with_reducible apply row_drew) | (with_reducible apply row_drewN) | ((with_reducible apply row_up); assumption)))) | ((with_reducible apply st_rowP infoW); exact rfl; exact rfl; focus (repeat (first | assumption | ((with_reducible apply row_newc); (focus (first | rfl | (simp; done)))) | ((with_reducible apply row_newz); (focus (first | rfl | (simp; done)))) | (with_reducible apply row_same) | ((with_reducible apply row_else); (focus (first | (simp; done) | (simp; omega) | omega))) | (with_reducible apply row_alloc) | (with_reducible apply row_drew) | (with_reducible apply row_drewN) | ((with_reducible apply row_up); assumption)))) | ((with_reducible apply st_rowZ infoW); exact rfl; exact rfl; focus (repeat (first | assumption | ((with_reducible apply row_newc); (focus (first | rfl | (simp; done)))) | ((with_reducible apply row_newz); (focus (first | rfl | (simp; done)))) | (with_reducible apply row_same) | ((with_reducible apply row_else); (focus (first | (simp; done) | (simp; omega) | omega))) | (with_reducible apply row_alloc) | (with_reducible apply row_drew) | (with_reducible apply row_drewN) | ((with_reducible apply row_up); assumption)))) | (go_at_call 97; refine (HP.out _).mono ?_; rintro e w' ⟨rfl, hu⟩; have hsz := hu.size; simp at hsz))
        refine wp_region_upS (S := (fun wq => Row wq w.heap.size 54 16 (limb (enc a)) ∧ Row wq (w.heap.size + 1) 54 16 (limb (enc b)) ∧ Row wq (w.heap.size + 1 + 1) 54 16 (fun _ => 0) ∧ Row wq w'.heap.size 54 16 (limb (enc (a + b))) ∧ Below w.heap.size w wq)) (req := (fun _ => true)) (by kernel_rfl) (fun _ _ h hu => ⟨(h.1).up hu, (h.2.1).up hu, (h.2.2.1).up hu, (h.2.2.2.1).up hu, below_up (h.2.2.2.2) hu⟩) ⟨(by (repeat (first | assumption | ((with_reducible apply row_newc); (focus (first | rfl | (simp; done)))) | ((with_reducible apply row_newz); (focus (first | rfl | (simp; done)))) | (with_reducible apply row_same) | ((with_reducible apply row_else); (focus (first | (simp; done) | (simp; omega) | omega))) | (with_reducible apply row_alloc) | (with_reducible apply row_drew) | (with_reducible apply row_drewN) | ((with_reducible apply row_up); assumption)))), (by (repeat (first | assumption | ((with_reducible apply row_newc); (focus (first | rfl | (simp; done)))) | ((with_reducible apply row_newz); (focus (first | rfl | (simp; done)))) | (with_reducible apply row_same) | ((with_reducible apply row_else); (focus (first | (simp; done) | (simp; omega) | omega))) | (with_reducible apply row_alloc) | (with_reducible apply row_drew) | (with_reducible apply row_drewN) | ((with_reducible apply row_up); assumption)))), (by (repeat (first | assumption | ((with_reducible apply row_newc); (focus (first | rfl | (simp; done)))) | ((with_reducible apply row_newz); (focus (first | rfl | (simp; done)))) | (with_reducible apply row_same) | ((with_reducible apply row_else); (focus (first | (simp; done) | (simp; omega) | omega))) | (with_reducible apply row_alloc) | (with_reducible apply row_drew) | (with_reducible apply row_drewN) | ((with_reducible apply row_up); assumption)))), (by (repeat (first | assumption | ((with_reducible apply row_newc); (focus (first | rfl | (simp; done)))) | ((with_reducible apply row_newz); (focus (first | rfl | (simp; done)))) | (with_reducible apply row_same) | ((with_reducible apply row_else); (focus (first | (simp; done) | (simp; omega) | omega))) | (with_reducible apply row_alloc) | (with_reducible apply row_drew) | (with_reducible apply row_drewN) | ((with_reducible apply row_up); assumption)))), (by repeat (first | assumption | (with_reducible apply Up.of) | (with_reducible exact Below.refl _ _) | (with_reducible exact Up.refl _) | ((with_reducible apply bl_setRow); (focus (first | exact Nat.le_refl _ | (simp; done) | (simp; omega) | omega))) | (with_reducible apply below_drewN) | (with_reducible apply Below.drew) | ((with_reducible apply bl_alloc); (focus (first | exact Nat.le_refl _ | (simp; done) | (simp; omega) | omega))) | ((with_reducible apply bl_setCell); (focus (first | exact Nat.le_refl _ | (simp; done) | (simp; omega) | omega))) | ((with_reducible apply up_tr); assumption)))⟩ (fun wS hSS => ?_)
        have ⟨hS1, hS2, hS3, hS4, hSB⟩ := hSS
        clear hu
        refine wpAnyU_take (i := 0) (d := (some 10)) (v := _) rfl rfl (by kernel_rfl) (fun _ _ _ h => h) (fun _ _ h hu => ⟨(h.1).up hu, (h.2.1).up hu, (h.2.2.1).up hu, (h.2.2.2.1).up hu, below_up (h.2.2.2.2) hu⟩) hSS (Or.inl ⟨by rfl, fun w' hSw => yu_value (run_ld undW infoW _ rfl _ rfl hSw.1)⟩) ?_
        try simp only [Act.put, List.setIfInBounds_toArray, List.set_cons_zero, List.set_cons_succ]
        refine wpAnyU_take (i := 1) (d := (some 11)) (v := _) rfl rfl (by kernel_rfl) (fun _ _ _ h => h) (fun _ _ h hu => ⟨(h.1).up hu, (h.2.1).up hu, (h.2.2.1).up hu, (h.2.2.2.1).up hu, below_up (h.2.2.2.2) hu⟩) hSS (Or.inl ⟨by rfl, fun w' hSw => yu_call ?_ (HA.out _)⟩) ?_
        · go_simp
        try simp only [Act.put, List.setIfInBounds_toArray, List.set_cons_zero, List.set_cons_succ]
        refine wpAnyU_take (i := 2) (d := (some 12)) (v := _) rfl rfl (by kernel_rfl) (fun _ _ _ h => h) (fun _ _ h hu => ⟨(h.1).up hu, (h.2.1).up hu, (h.2.2.1).up hu, (h.2.2.2.1).up hu, below_up (h.2.2.2.2) hu⟩) hSS (Or.inl ⟨by rfl, fun w' hSw => yu_value (run_ld undW infoW _ rfl _ rfl hSw.2.1)⟩) ?_
        try simp only [Act.put, List.setIfInBounds_toArray, List.set_cons_zero, List.set_cons_succ]
        refine wpAnyU_take (i := 3) (d := (some 13)) (v := _) rfl rfl (by kernel_rfl) (fun _ _ _ h => h) (fun _ _ h hu => ⟨(h.1).up hu, (h.2.1).up hu, (h.2.2.1).up hu, (h.2.2.2.1).up hu, below_up (h.2.2.2.2) hu⟩) hSS (Or.inl ⟨by rfl, fun w' hSw => yu_call ?_ (HB.out _)⟩) ?_
        · go_simp
        try simp only [Act.put, List.setIfInBounds_toArray, List.set_cons_zero, List.set_cons_succ]
        refine wpAnyU_pure (i := 4) (d := (some 14)) (v := ?_) rfl rfl (by kernel_rfl) (fun _ _ _ h => h) (fun _ _ h hu => ⟨(h.1).up hu, (h.2.1).up hu, (h.2.2.1).up hu, (h.2.2.2.1).up hu, below_up (h.2.2.2.2) hu⟩) (Or.inl ⟨by rfl, fun w' _ => yu_value ?_⟩) ?_
        rotate_left
        · (go_simp; (try exact rfl))
        try simp only [Act.put, List.setIfInBounds_toArray, List.set_cons_zero, List.set_cons_succ]
        refine wpAnyU_pure (i := 5) (d := (some 15)) (v := ?_) rfl rfl (by kernel_rfl) (fun _ _ _ h => h) (fun _ _ h hu => ⟨(h.1).up hu, (h.2.1).up hu, (h.2.2.1).up hu, (h.2.2.2.1).up hu, below_up (h.2.2.2.2) hu⟩) (Or.inl ⟨by rfl, fun w' _ => yu_value ?_⟩) ?_
        rotate_left
        · (go_simp; (try exact rfl))
        try simp only [Act.put, List.setIfInBounds_toArray, List.set_cons_zero, List.set_cons_succ]
        refine wpAnyU_take (i := 6) (d := (some 16)) (v := _) rfl rfl (by kernel_rfl) (fun _ _ _ h => h) (fun _ _ h hu => ⟨(h.1).up hu, (h.2.1).up hu, (h.2.2.1).up hu, (h.2.2.2.1).up hu, below_up (h.2.2.2.2) hu⟩) hSS (Or.inl ⟨by rfl, fun w' hSw => yu_value (run_ld undW infoW _ rfl _ rfl hSw.2.2.2.1)⟩) ?_
        try simp only [Act.put, List.setIfInBounds_toArray, List.set_cons_zero, List.set_cons_succ]
        refine wpAnyU_take (i := 7) (d := (some 17)) (v := _) rfl rfl (by kernel_rfl) (fun _ _ _ h => h) (fun _ _ h hu => ⟨(h.1).up hu, (h.2.1).up hu, (h.2.2.1).up hu, (h.2.2.2.1).up hu, below_up (h.2.2.2.2) hu⟩) hSS (Or.inl ⟨by rfl, fun w' hSw => yu_call ?_ (HM.out _)⟩) ?_
        · go_simp
        try simp only [Act.put, List.setIfInBounds_toArray, List.set_cons_zero, List.set_cons_succ]
        refine wpAnyU_take (i := 8) (d := (some 18)) (v := _) rfl rfl (by kernel_rfl) (fun _ _ _ h => h) (fun _ _ h hu => ⟨(h.1).up hu, (h.2.1).up hu, (h.2.2.1).up hu, (h.2.2.2.1).up hu, below_up (h.2.2.2.2) hu⟩) hSS (Or.inl ⟨by rfl, fun w' hSw => yu_value (run_ld undW infoW _ rfl _ rfl hSw.1)⟩) ?_
        try simp only [Act.put, List.setIfInBounds_toArray, List.set_cons_zero, List.set_cons_succ]
        refine wpAnyU_take (i := 9) (d := (some 19)) (v := _) rfl rfl (by kernel_rfl) (fun _ _ _ h => h) (fun _ _ h hu => ⟨(h.1).up hu, (h.2.1).up hu, (h.2.2.1).up hu, (h.2.2.2.1).up hu, below_up (h.2.2.2.2) hu⟩) hSS (Or.inl ⟨by rfl, fun w' hSw => yu_call ?_ (HA.out _)⟩) ?_
        · go_simp
        try simp only [Act.put, List.setIfInBounds_toArray, List.set_cons_zero, List.set_cons_succ]
        refine wpAnyU_pure (i := 10) (d := (some 20)) (v := ?_) rfl rfl (by kernel_rfl) (fun _ _ _ h => h) (fun _ _ h hu => ⟨(h.1).up hu, (h.2.1).up hu, (h.2.2.1).up hu, (h.2.2.2.1).up hu, below_up (h.2.2.2.2) hu⟩) (Or.inl ⟨by rfl, fun w' _ => yu_value ?_⟩) ?_
        rotate_left
        · (go_simp; (try exact rfl))
        try simp only [Act.put, List.setIfInBounds_toArray, List.set_cons_zero, List.set_cons_succ]
        refine wpAnyU_pure (i := 11) (d := (some 21)) (v := ?_) rfl rfl (by kernel_rfl) (fun _ _ _ h => h) (fun _ _ h hu => ⟨(h.1).up hu, (h.2.1).up hu, (h.2.2.1).up hu, (h.2.2.2.1).up hu, below_up (h.2.2.2.2) hu⟩) (Or.inl ⟨by rfl, fun w' _ => yu_value ?_⟩) ?_
        rotate_left
        · (go_simp; (try exact rfl))
        try simp only [Act.put, List.setIfInBounds_toArray, List.set_cons_zero, List.set_cons_succ]
        refine wpAnyU_done (by kernel_rfl) (fun wE huE => ?_) _
        have ⟨hS1, hS2, hS3, hS4, hSB⟩ := ((fun _ _ h hu => ⟨(h.1).up hu, (h.2.1).up hu, (h.2.2.1).up hu, (h.2.2.2.1).up hu, below_up (h.2.2.2.2) hu⟩) : ∀ w1 w2 : World, (fun wq => Row wq w.heap.size 54 16 (limb (enc a)) ∧ Row wq (w.heap.size + 1) 54 16 (limb (enc b)) ∧ Row wq (w.heap.size + 1 + 1) 54 16 (fun _ => 0) ∧ Row wq w'.heap.size 54 16 (limb (enc (a + b))) ∧ Below w.heap.size w wq) w1 → Up w1 w2 → (fun wq => Row wq w.heap.size 54 16 (limb (enc a)) ∧ Row wq (w.heap.size + 1) 54 16 (limb (enc b)) ∧ Row wq (w.heap.size + 1 + 1) 54 16 (fun _ => 0) ∧ Row wq w'.heap.size 54 16 (limb (enc (a + b))) ∧ Below w.heap.size w wq) w2) _ _ hSS huE
        clear huE hSS
        go_wp2_with (first | ((with_reducible apply ld_rowP undW infoW); exact rfl; exact rfl; focus (repeat (first | assumption | ((with_reducible apply row_newc); (focus (first | rfl | (simp; done)))) | ((with_reducible apply row_newz); (focus (first | rfl | (simp; done)))) | (with_reducible apply row_same) | ((with_reducible apply row_else); (focus (first | (simp; done) | (simp; omega) | omega))) | (with_reducible apply row_alloc) | (with_reducible apply row_drew) | (with_reducible apply row_drewN) | ((with_reducible apply row_up); assumption)))) | ((with_reducible apply st_rowP infoW); exact rfl; exact rfl; focus (repeat (first | assumption | ((with_reducible apply row_newc); (focus (first | rfl | (simp; done)))) | ((with_reducible apply row_newz); (focus (first | rfl | (simp; done)))) | (with_reducible apply row_same) | ((with_reducible apply row_else); (focus (first | (simp; done) | (simp; omega) | omega))) | (with_reducible apply row_alloc) | (with_reducible apply row_drew) | (with_reducible apply row_drewN) | ((with_reducible apply row_up); assumption)))) | ((with_reducible apply st_rowZ infoW); exact rfl; exact rfl; focus (repeat (first | assumption | ((with_reducible apply row_newc); (focus (first | rfl | (simp; done)))) | ((with_reducible apply row_newz); (focus (first | rfl | (simp; done)))) | (with_reducible apply row_same) | ((with_reducible apply row_else); (focus (first | (simp; done) | (simp; omega) | omega))) | (with_reducible apply row_alloc) | (with_reducible apply row_drew) | (with_reducible apply row_drewN) | ((with_reducible apply row_up); assumption)))))
        exact bodyPost_ret (res2 rfl undW infoW _ _ rfl (by (repeat (first | assumption | ((with_reducible apply row_newc); (focus (first | rfl | (simp; done)))) | ((with_reducible apply row_newz); (focus (first | rfl | (simp; done)))) | (with_reducible apply row_same) | ((with_reducible apply row_else); (focus (first | (simp; done) | (simp; omega) | omega))) | (with_reducible apply row_alloc) | (with_reducible apply row_drew) | (with_reducible apply row_drewN) | ((with_reducible apply row_up); assumption))))) rfl ⟨rfl, (by repeat (first | assumption | (with_reducible apply Up.of) | (with_reducible exact Below.refl _ _) | (with_reducible exact Up.refl _) | ((with_reducible apply bl_setRow); (focus (first | exact Nat.le_refl _ | (simp; done) | (simp; omega) | omega))) | (with_reducible apply below_drewN) | (with_reducible apply Below.drew) | ((with_reducible apply bl_alloc); (focus (first | exact Nat.le_refl _ | (simp; done) | (simp; omega) | omega))) | ((with_reducible apply bl_setCell); (focus (first | exact Nat.le_refl _ | (simp; done) | (simp; omega) | omega))) | ((with_reducible apply up_tr); assumption)))⟩
    · have hd2 : decide (b < 0) = false := by simpa using b0
      rw [hd2] at HB
      rw [opt_yes (hk2 (by simp [a0, b0]))]
      clear hk1 hk2 hd hd2 a0 b0
      unfold wideV at *
      go_enter Tryz.func76, Tryz.ntmps76
      go_wp2_with (first | ((with_reducible apply ld_rowP undW infoW); exact rfl; exact rfl; focus (repeat (first | assumption | ((with_reducible apply row_newc); (focus (first | rfl | (simp; done)))) | ((with_reducible apply row_newz); (focus (first | rfl | (simp; done)))) | (with_reducible apply row_same) | ((with_reducible apply row_else); (focus (first | (simp; done) | (simp; omega) | omega))) | (with_reducible apply row_alloc) | (with_reducible apply row_drew) | (with_reducible apply row_drewN) | ((with_reducible apply row_up); assumption)))) | ((with_reducible apply st_rowP infoW); exact rfl; exact rfl; focus (repeat (first | assumption | ((with_reducible apply row_newc); (focus (first | rfl | (simp; done)))) | ((with_reducible apply row_newz); (focus (first | rfl | (simp; done)))) | (with_reducible apply row_same) | ((with_reducible apply row_else); (focus (first | (simp; done) | (simp; omega) | omega))) | (with_reducible apply row_alloc) | (with_reducible apply row_drew) | (with_reducible apply row_drewN) | ((with_reducible apply row_up); assumption)))) | ((with_reducible apply st_rowZ infoW); exact rfl; exact rfl; focus (repeat (first | assumption | ((with_reducible apply row_newc); (focus (first | rfl | (simp; done)))) | ((with_reducible apply row_newz); (focus (first | rfl | (simp; done)))) | (with_reducible apply row_same) | ((with_reducible apply row_else); (focus (first | (simp; done) | (simp; omega) | omega))) | (with_reducible apply row_alloc) | (with_reducible apply row_drew) | (with_reducible apply row_drewN) | ((with_reducible apply row_up); assumption)))) | (go_at_call 97; refine (HP.out _).mono ?_; rintro e w' ⟨rfl, hu⟩; have hsz := hu.size; simp at hsz))
      refine wp_region_upS (S := (fun wq => Row wq w.heap.size 54 16 (limb (enc a)) ∧ Row wq (w.heap.size + 1) 54 16 (limb (enc b)) ∧ Row wq (w.heap.size + 1 + 1) 54 16 (fun _ => 0) ∧ Row wq w'.heap.size 54 16 (limb (enc (a + b))) ∧ Below w.heap.size w wq)) (req := (fun _ => true)) (by kernel_rfl) (fun _ _ h hu => ⟨(h.1).up hu, (h.2.1).up hu, (h.2.2.1).up hu, (h.2.2.2.1).up hu, below_up (h.2.2.2.2) hu⟩) ⟨(by (repeat (first | assumption | ((with_reducible apply row_newc); (focus (first | rfl | (simp; done)))) | ((with_reducible apply row_newz); (focus (first | rfl | (simp; done)))) | (with_reducible apply row_same) | ((with_reducible apply row_else); (focus (first | (simp; done) | (simp; omega) | omega))) | (with_reducible apply row_alloc) | (with_reducible apply row_drew) | (with_reducible apply row_drewN) | ((with_reducible apply row_up); assumption)))), (by (repeat (first | assumption | ((with_reducible apply row_newc); (focus (first | rfl | (simp; done)))) | ((with_reducible apply row_newz); (focus (first | rfl | (simp; done)))) | (with_reducible apply row_same) | ((with_reducible apply row_else); (focus (first | (simp; done) | (simp; omega) | omega))) | (with_reducible apply row_alloc) | (with_reducible apply row_drew) | (with_reducible apply row_drewN) | ((with_reducible apply row_up); assumption)))), (by (repeat (first | assumption | ((with_reducible apply row_newc); (focus (first | rfl | (simp; done)))) | ((with_reducible apply row_newz); (focus (first | rfl | (simp; done)))) | (with_reducible apply row_same) | ((with_reducible apply row_else); (focus (first | (simp; done) | (simp; omega) | omega))) | (with_reducible apply row_alloc) | (with_reducible apply row_drew) | (with_reducible apply row_drewN) | ((with_reducible apply row_up); assumption)))), (by (repeat (first | assumption | ((with_reducible apply row_newc); (focus (first | rfl | (simp; done)))) | ((with_reducible apply row_newz); (focus (first | rfl | (simp; done)))) | (with_reducible apply row_same) | ((with_reducible apply row_else); (focus (first | (simp; done) | (simp; omega) | omega))) | (with_reducible apply row_alloc) | (with_reducible apply row_drew) | (with_reducible apply row_drewN) | ((with_reducible apply row_up); assumption)))), (by repeat (first | assumption | (with_reducible apply Up.of) | (with_reducible exact Below.refl _ _) | (with_reducible exact Up.refl _) | ((with_reducible apply bl_setRow); (focus (first | exact Nat.le_refl _ | (simp; done) | (simp; omega) | omega))) | (with_reducible apply below_drewN) | (with_reducible apply Below.drew) | ((with_reducible apply bl_alloc); (focus (first | exact Nat.le_refl _ | (simp; done) | (simp; omega) | omega))) | ((with_reducible apply bl_setCell); (focus (first | exact Nat.le_refl _ | (simp; done) | (simp; omega) | omega))) | ((with_reducible apply up_tr); assumption)))⟩ (fun wS hSS => ?_)
      have ⟨hS1, hS2, hS3, hS4, hSB⟩ := hSS
      clear hu
      refine wpAnyU_take (i := 0) (d := (some 10)) (v := _) rfl rfl (by kernel_rfl) (fun _ _ _ h => h) (fun _ _ h hu => ⟨(h.1).up hu, (h.2.1).up hu, (h.2.2.1).up hu, (h.2.2.2.1).up hu, below_up (h.2.2.2.2) hu⟩) hSS (Or.inl ⟨by rfl, fun w' hSw => yu_value (run_ld undW infoW _ rfl _ rfl hSw.1)⟩) ?_
      try simp only [Act.put, List.setIfInBounds_toArray, List.set_cons_zero, List.set_cons_succ]
      refine wpAnyU_take (i := 1) (d := (some 11)) (v := _) rfl rfl (by kernel_rfl) (fun _ _ _ h => h) (fun _ _ h hu => ⟨(h.1).up hu, (h.2.1).up hu, (h.2.2.1).up hu, (h.2.2.2.1).up hu, below_up (h.2.2.2.2) hu⟩) hSS (Or.inl ⟨by rfl, fun w' hSw => yu_call ?_ (HA.out _)⟩) ?_
      · go_simp
      try simp only [Act.put, List.setIfInBounds_toArray, List.set_cons_zero, List.set_cons_succ]
      refine wpAnyU_take (i := 2) (d := (some 12)) (v := _) rfl rfl (by kernel_rfl) (fun _ _ _ h => h) (fun _ _ h hu => ⟨(h.1).up hu, (h.2.1).up hu, (h.2.2.1).up hu, (h.2.2.2.1).up hu, below_up (h.2.2.2.2) hu⟩) hSS (Or.inl ⟨by rfl, fun w' hSw => yu_value (run_ld undW infoW _ rfl _ rfl hSw.2.1)⟩) ?_
      try simp only [Act.put, List.setIfInBounds_toArray, List.set_cons_zero, List.set_cons_succ]
      refine wpAnyU_take (i := 3) (d := (some 13)) (v := _) rfl rfl (by kernel_rfl) (fun _ _ _ h => h) (fun _ _ h hu => ⟨(h.1).up hu, (h.2.1).up hu, (h.2.2.1).up hu, (h.2.2.2.1).up hu, below_up (h.2.2.2.2) hu⟩) hSS (Or.inl ⟨by rfl, fun w' hSw => yu_call ?_ (HB.out _)⟩) ?_
      · go_simp
      try simp only [Act.put, List.setIfInBounds_toArray, List.set_cons_zero, List.set_cons_succ]
      refine wpAnyU_pure (i := 4) (d := (some 14)) (v := ?_) rfl rfl (by kernel_rfl) (fun _ _ _ h => h) (fun _ _ h hu => ⟨(h.1).up hu, (h.2.1).up hu, (h.2.2.1).up hu, (h.2.2.2.1).up hu, below_up (h.2.2.2.2) hu⟩) (Or.inl ⟨by rfl, fun w' _ => yu_value ?_⟩) ?_
      rotate_left
      · (go_simp; (try exact rfl))
      try simp only [Act.put, List.setIfInBounds_toArray, List.set_cons_zero, List.set_cons_succ]
      refine wpAnyU_pure (i := 5) (d := (some 15)) (v := ?_) rfl rfl (by kernel_rfl) (fun _ _ _ h => h) (fun _ _ h hu => ⟨(h.1).up hu, (h.2.1).up hu, (h.2.2.1).up hu, (h.2.2.2.1).up hu, below_up (h.2.2.2.2) hu⟩) (Or.inl ⟨by rfl, fun w' _ => yu_value ?_⟩) ?_
      rotate_left
      · (go_simp; (try exact rfl))
      try simp only [Act.put, List.setIfInBounds_toArray, List.set_cons_zero, List.set_cons_succ]
      refine wpAnyU_pure (i := 6) (d := (some 16)) (v := undef) rfl rfl (by kernel_rfl) (fun _ _ _ h => h) (fun _ _ h hu => ⟨(h.1).up hu, (h.2.1).up hu, (h.2.2.1).up hu, (h.2.2.2.1).up hu, below_up (h.2.2.2.2) hu⟩) (Or.inr ⟨by rfl, rfl⟩) ?_
      try simp only [Act.put, List.setIfInBounds_toArray, List.set_cons_zero, List.set_cons_succ]
      refine wpAnyU_pure (i := 7) (d := (some 17)) (v := undef) rfl rfl (by kernel_rfl) (fun _ _ _ h => h) (fun _ _ h hu => ⟨(h.1).up hu, (h.2.1).up hu, (h.2.2.1).up hu, (h.2.2.2.1).up hu, below_up (h.2.2.2.2) hu⟩) (Or.inr ⟨by rfl, rfl⟩) ?_
      try simp only [Act.put, List.setIfInBounds_toArray, List.set_cons_zero, List.set_cons_succ]
      refine wpAnyU_pure (i := 8) (d := (some 18)) (v := undef) rfl rfl (by kernel_rfl) (fun _ _ _ h => h) (fun _ _ h hu => ⟨(h.1).up hu, (h.2.1).up hu, (h.2.2.1).up hu, (h.2.2.2.1).up hu, below_up (h.2.2.2.2) hu⟩) (Or.inr ⟨by rfl, rfl⟩) ?_
      try simp only [Act.put, List.setIfInBounds_toArray, List.set_cons_zero, List.set_cons_succ]
      refine wpAnyU_pure (i := 9) (d := (some 19)) (v := undef) rfl rfl (by kernel_rfl) (fun _ _ _ h => h) (fun _ _ h hu => ⟨(h.1).up hu, (h.2.1).up hu, (h.2.2.1).up hu, (h.2.2.2.1).up hu, below_up (h.2.2.2.2) hu⟩) (Or.inr ⟨by rfl, rfl⟩) ?_
      try simp only [Act.put, List.setIfInBounds_toArray, List.set_cons_zero, List.set_cons_succ]
      refine wpAnyU_pure (i := 10) (d := (some 20)) (v := undef) rfl rfl (by kernel_rfl) (fun _ _ _ h => h) (fun _ _ h hu => ⟨(h.1).up hu, (h.2.1).up hu, (h.2.2.1).up hu, (h.2.2.2.1).up hu, below_up (h.2.2.2.2) hu⟩) (Or.inr ⟨by rfl, rfl⟩) ?_
      try simp only [Act.put, List.setIfInBounds_toArray, List.set_cons_zero, List.set_cons_succ]
      refine wpAnyU_pure (i := 11) (d := (some 21)) (v := ?_) rfl rfl (by kernel_rfl) (fun _ _ _ h => h) (fun _ _ h hu => ⟨(h.1).up hu, (h.2.1).up hu, (h.2.2.1).up hu, (h.2.2.2.1).up hu, below_up (h.2.2.2.2) hu⟩) (Or.inl ⟨by rfl, fun w' _ => yu_value ?_⟩) ?_
      rotate_left
      · (go_simp; (try exact rfl))
      try simp only [Act.put, List.setIfInBounds_toArray, List.set_cons_zero, List.set_cons_succ]
      refine wpAnyU_done (by kernel_rfl) (fun wE huE => ?_) _
      have ⟨hS1, hS2, hS3, hS4, hSB⟩ := ((fun _ _ h hu => ⟨(h.1).up hu, (h.2.1).up hu, (h.2.2.1).up hu, (h.2.2.2.1).up hu, below_up (h.2.2.2.2) hu⟩) : ∀ w1 w2 : World, (fun wq => Row wq w.heap.size 54 16 (limb (enc a)) ∧ Row wq (w.heap.size + 1) 54 16 (limb (enc b)) ∧ Row wq (w.heap.size + 1 + 1) 54 16 (fun _ => 0) ∧ Row wq w'.heap.size 54 16 (limb (enc (a + b))) ∧ Below w.heap.size w wq) w1 → Up w1 w2 → (fun wq => Row wq w.heap.size 54 16 (limb (enc a)) ∧ Row wq (w.heap.size + 1) 54 16 (limb (enc b)) ∧ Row wq (w.heap.size + 1 + 1) 54 16 (fun _ => 0) ∧ Row wq w'.heap.size 54 16 (limb (enc (a + b))) ∧ Below w.heap.size w wq) w2) _ _ hSS huE
      clear huE hSS
      go_wp2_with (first | ((with_reducible apply ld_rowP undW infoW); exact rfl; exact rfl; focus (repeat (first | assumption | ((with_reducible apply row_newc); (focus (first | rfl | (simp; done)))) | ((with_reducible apply row_newz); (focus (first | rfl | (simp; done)))) | (with_reducible apply row_same) | ((with_reducible apply row_else); (focus (first | (simp; done) | (simp; omega) | omega))) | (with_reducible apply row_alloc) | (with_reducible apply row_drew) | (with_reducible apply row_drewN) | ((with_reducible apply row_up); assumption)))) | ((with_reducible apply st_rowP infoW); exact rfl; exact rfl; focus (repeat (first | assumption | ((with_reducible apply row_newc); (focus (first | rfl | (simp; done)))) | ((with_reducible apply row_newz); (focus (first | rfl | (simp; done)))) | (with_reducible apply row_same) | ((with_reducible apply row_else); (focus (first | (simp; done) | (simp; omega) | omega))) | (with_reducible apply row_alloc) | (with_reducible apply row_drew) | (with_reducible apply row_drewN) | ((with_reducible apply row_up); assumption)))) | ((with_reducible apply st_rowZ infoW); exact rfl; exact rfl; focus (repeat (first | assumption | ((with_reducible apply row_newc); (focus (first | rfl | (simp; done)))) | ((with_reducible apply row_newz); (focus (first | rfl | (simp; done)))) | (with_reducible apply row_same) | ((with_reducible apply row_else); (focus (first | (simp; done) | (simp; omega) | omega))) | (with_reducible apply row_alloc) | (with_reducible apply row_drew) | (with_reducible apply row_drewN) | ((with_reducible apply row_up); assumption)))))
      exact bodyPost_ret (res2 rfl undW infoW _ _ rfl (by (repeat (first | assumption | ((with_reducible apply row_newc); (focus (first | rfl | (simp; done)))) | ((with_reducible apply row_newz); (focus (first | rfl | (simp; done)))) | (with_reducible apply row_same) | ((with_reducible apply row_else); (focus (first | (simp; done) | (simp; omega) | omega))) | (with_reducible apply row_alloc) | (with_reducible apply row_drew) | (with_reducible apply row_drewN) | ((with_reducible apply row_up); assumption))))) rfl ⟨rfl, (by repeat (first | assumption | (with_reducible apply Up.of) | (with_reducible exact Below.refl _ _) | (with_reducible exact Up.refl _) | ((with_reducible apply bl_setRow); (focus (first | exact Nat.le_refl _ | (simp; done) | (simp; omega) | omega))) | (with_reducible apply below_drewN) | (with_reducible apply Below.drew) | ((with_reducible apply bl_alloc); (focus (first | exact Nat.le_refl _ | (simp; done) | (simp; omega) | omega))) | ((with_reducible apply bl_setCell); (focus (first | exact Nat.le_refl _ | (simp; done) | (simp; omega) | omega))) | ((with_reducible apply up_tr); assumption)))⟩
  · have hd : decide (a < 0) = false := by simpa using a0
    rw [hd] at HA hk1
    by_cases b0 : b < 0
    · have hd2 : decide (b < 0) = true := by simpa using b0
      rw [hd2] at HB
      rw [opt_yes (hk2 (by simp [a0, b0]))]
      clear hk1 hk2 hd hd2 a0 b0
      unfold wideV at *
      go_enter Tryz.func76, Tryz.ntmps76
      go_wp2_with (first | ((with_reducible apply ld_rowP undW infoW); exact rfl; exact rfl; focus (repeat (first | assumption | ((with_reducible apply row_newc); (focus (first | rfl | (simp; done)))) | ((with_reducible apply row_newz); (focus (first | rfl | (simp; done)))) | (with_reducible apply row_same) | ((with_reducible apply row_else); (focus (first | (simp; done) | (simp; omega) | omega))) | (with_reducible apply row_alloc) | (with_reducible apply row_drew) | (with_reducible apply row_drewN) | ((with_reducible apply row_up); assumption)))) | ((with_reducible apply st_rowP infoW); exact rfl; exact rfl; focus (repeat (first | assumption | ((with_reducible apply row_newc); (focus (first | rfl | (simp; done)))) | ((with_reducible apply row_newz); (focus (first | rfl | (simp; done)))) | (with_reducible apply row_same) | ((with_reducible apply row_else); (focus (first | (simp; done) | (simp; omega) | omega))) | (with_reducible apply row_alloc) | (with_reducible apply row_drew) | (with_reducible apply row_drewN) | ((with_reducible apply row_up); assumption)))) | ((with_reducible apply st_rowZ infoW); exact rfl; exact rfl; focus (repeat (first | assumption | ((with_reducible apply row_newc); (focus (first | rfl | (simp; done)))) | ((with_reducible apply row_newz); (focus (first | rfl | (simp; done)))) | (with_reducible apply row_same) | ((with_reducible apply row_else); (focus (first | (simp; done) | (simp; omega) | omega))) | (with_reducible apply row_alloc) | (with_reducible apply row_drew) | (with_reducible apply row_drewN) | ((with_reducible apply row_up); assumption)))) | (go_at_call 97; refine (HP.out _).mono ?_; rintro e w' ⟨rfl, hu⟩; have hsz := hu.size; simp at hsz))
      refine wp_region_upS (S := (fun wq => Row wq w.heap.size 54 16 (limb (enc a)) ∧ Row wq (w.heap.size + 1) 54 16 (limb (enc b)) ∧ Row wq (w.heap.size + 1 + 1) 54 16 (fun _ => 0) ∧ Row wq w'.heap.size 54 16 (limb (enc (a + b))) ∧ Below w.heap.size w wq)) (req := (fun _ => true)) (by kernel_rfl) (fun _ _ h hu => ⟨(h.1).up hu, (h.2.1).up hu, (h.2.2.1).up hu, (h.2.2.2.1).up hu, below_up (h.2.2.2.2) hu⟩) ⟨(by (repeat (first | assumption | ((with_reducible apply row_newc); (focus (first | rfl | (simp; done)))) | ((with_reducible apply row_newz); (focus (first | rfl | (simp; done)))) | (with_reducible apply row_same) | ((with_reducible apply row_else); (focus (first | (simp; done) | (simp; omega) | omega))) | (with_reducible apply row_alloc) | (with_reducible apply row_drew) | (with_reducible apply row_drewN) | ((with_reducible apply row_up); assumption)))), (by (repeat (first | assumption | ((with_reducible apply row_newc); (focus (first | rfl | (simp; done)))) | ((with_reducible apply row_newz); (focus (first | rfl | (simp; done)))) | (with_reducible apply row_same) | ((with_reducible apply row_else); (focus (first | (simp; done) | (simp; omega) | omega))) | (with_reducible apply row_alloc) | (with_reducible apply row_drew) | (with_reducible apply row_drewN) | ((with_reducible apply row_up); assumption)))), (by (repeat (first | assumption | ((with_reducible apply row_newc); (focus (first | rfl | (simp; done)))) | ((with_reducible apply row_newz); (focus (first | rfl | (simp; done)))) | (with_reducible apply row_same) | ((with_reducible apply row_else); (focus (first | (simp; done) | (simp; omega) | omega))) | (with_reducible apply row_alloc) | (with_reducible apply row_drew) | (with_reducible apply row_drewN) | ((with_reducible apply row_up); assumption)))), (by (repeat (first | assumption | ((with_reducible apply row_newc); (focus (first | rfl | (simp; done)))) | ((with_reducible apply row_newz); (focus (first | rfl | (simp; done)))) | (with_reducible apply row_same) | ((with_reducible apply row_else); (focus (first | (simp; done) | (simp; omega) | omega))) | (with_reducible apply row_alloc) | (with_reducible apply row_drew) | (with_reducible apply row_drewN) | ((with_reducible apply row_up); assumption)))), (by repeat (first | assumption | (with_reducible apply Up.of) | (with_reducible exact Below.refl _ _) | (with_reducible exact Up.refl _) | ((with_reducible apply bl_setRow); (focus (first | exact Nat.le_refl _ | (simp; done) | (simp; omega) | omega))) | (with_reducible apply below_drewN) | (with_reducible apply Below.drew) | ((with_reducible apply bl_alloc); (focus (first | exact Nat.le_refl _ | (simp; done) | (simp; omega) | omega))) | ((with_reducible apply bl_setCell); (focus (first | exact Nat.le_refl _ | (simp; done) | (simp; omega) | omega))) | ((with_reducible apply up_tr); assumption)))⟩ (fun wS hSS => ?_)
      have ⟨hS1, hS2, hS3, hS4, hSB⟩ := hSS
      clear hu
      refine wpAnyU_take (i := 0) (d := (some 10)) (v := _) rfl rfl (by kernel_rfl) (fun _ _ _ h => h) (fun _ _ h hu => ⟨(h.1).up hu, (h.2.1).up hu, (h.2.2.1).up hu, (h.2.2.2.1).up hu, below_up (h.2.2.2.2) hu⟩) hSS (Or.inl ⟨by rfl, fun w' hSw => yu_value (run_ld undW infoW _ rfl _ rfl hSw.1)⟩) ?_
      try simp only [Act.put, List.setIfInBounds_toArray, List.set_cons_zero, List.set_cons_succ]
      refine wpAnyU_take (i := 1) (d := (some 11)) (v := _) rfl rfl (by kernel_rfl) (fun _ _ _ h => h) (fun _ _ h hu => ⟨(h.1).up hu, (h.2.1).up hu, (h.2.2.1).up hu, (h.2.2.2.1).up hu, below_up (h.2.2.2.2) hu⟩) hSS (Or.inl ⟨by rfl, fun w' hSw => yu_call ?_ (HA.out _)⟩) ?_
      · go_simp
      try simp only [Act.put, List.setIfInBounds_toArray, List.set_cons_zero, List.set_cons_succ]
      refine wpAnyU_take (i := 2) (d := (some 12)) (v := _) rfl rfl (by kernel_rfl) (fun _ _ _ h => h) (fun _ _ h hu => ⟨(h.1).up hu, (h.2.1).up hu, (h.2.2.1).up hu, (h.2.2.2.1).up hu, below_up (h.2.2.2.2) hu⟩) hSS (Or.inl ⟨by rfl, fun w' hSw => yu_value (run_ld undW infoW _ rfl _ rfl hSw.2.1)⟩) ?_
      try simp only [Act.put, List.setIfInBounds_toArray, List.set_cons_zero, List.set_cons_succ]
      refine wpAnyU_take (i := 3) (d := (some 13)) (v := _) rfl rfl (by kernel_rfl) (fun _ _ _ h => h) (fun _ _ h hu => ⟨(h.1).up hu, (h.2.1).up hu, (h.2.2.1).up hu, (h.2.2.2.1).up hu, below_up (h.2.2.2.2) hu⟩) hSS (Or.inl ⟨by rfl, fun w' hSw => yu_call ?_ (HB.out _)⟩) ?_
      · go_simp
      try simp only [Act.put, List.setIfInBounds_toArray, List.set_cons_zero, List.set_cons_succ]
      refine wpAnyU_pure (i := 4) (d := (some 14)) (v := ?_) rfl rfl (by kernel_rfl) (fun _ _ _ h => h) (fun _ _ h hu => ⟨(h.1).up hu, (h.2.1).up hu, (h.2.2.1).up hu, (h.2.2.2.1).up hu, below_up (h.2.2.2.2) hu⟩) (Or.inl ⟨by rfl, fun w' _ => yu_value ?_⟩) ?_
      rotate_left
      · (go_simp; (try exact rfl))
      try simp only [Act.put, List.setIfInBounds_toArray, List.set_cons_zero, List.set_cons_succ]
      refine wpAnyU_pure (i := 5) (d := (some 15)) (v := ?_) rfl rfl (by kernel_rfl) (fun _ _ _ h => h) (fun _ _ h hu => ⟨(h.1).up hu, (h.2.1).up hu, (h.2.2.1).up hu, (h.2.2.2.1).up hu, below_up (h.2.2.2.2) hu⟩) (Or.inl ⟨by rfl, fun w' _ => yu_value ?_⟩) ?_
      rotate_left
      · (go_simp; (try exact rfl))
      try simp only [Act.put, List.setIfInBounds_toArray, List.set_cons_zero, List.set_cons_succ]
      refine wpAnyU_pure (i := 6) (d := (some 16)) (v := undef) rfl rfl (by kernel_rfl) (fun _ _ _ h => h) (fun _ _ h hu => ⟨(h.1).up hu, (h.2.1).up hu, (h.2.2.1).up hu, (h.2.2.2.1).up hu, below_up (h.2.2.2.2) hu⟩) (Or.inr ⟨by rfl, rfl⟩) ?_
      try simp only [Act.put, List.setIfInBounds_toArray, List.set_cons_zero, List.set_cons_succ]
      refine wpAnyU_pure (i := 7) (d := (some 17)) (v := undef) rfl rfl (by kernel_rfl) (fun _ _ _ h => h) (fun _ _ h hu => ⟨(h.1).up hu, (h.2.1).up hu, (h.2.2.1).up hu, (h.2.2.2.1).up hu, below_up (h.2.2.2.2) hu⟩) (Or.inr ⟨by rfl, rfl⟩) ?_
      try simp only [Act.put, List.setIfInBounds_toArray, List.set_cons_zero, List.set_cons_succ]
      refine wpAnyU_pure (i := 8) (d := (some 18)) (v := undef) rfl rfl (by kernel_rfl) (fun _ _ _ h => h) (fun _ _ h hu => ⟨(h.1).up hu, (h.2.1).up hu, (h.2.2.1).up hu, (h.2.2.2.1).up hu, below_up (h.2.2.2.2) hu⟩) (Or.inr ⟨by rfl, rfl⟩) ?_
      try simp only [Act.put, List.setIfInBounds_toArray, List.set_cons_zero, List.set_cons_succ]
      refine wpAnyU_pure (i := 9) (d := (some 19)) (v := undef) rfl rfl (by kernel_rfl) (fun _ _ _ h => h) (fun _ _ h hu => ⟨(h.1).up hu, (h.2.1).up hu, (h.2.2.1).up hu, (h.2.2.2.1).up hu, below_up (h.2.2.2.2) hu⟩) (Or.inr ⟨by rfl, rfl⟩) ?_
      try simp only [Act.put, List.setIfInBounds_toArray, List.set_cons_zero, List.set_cons_succ]
      refine wpAnyU_pure (i := 10) (d := (some 20)) (v := undef) rfl rfl (by kernel_rfl) (fun _ _ _ h => h) (fun _ _ h hu => ⟨(h.1).up hu, (h.2.1).up hu, (h.2.2.1).up hu, (h.2.2.2.1).up hu, below_up (h.2.2.2.2) hu⟩) (Or.inr ⟨by rfl, rfl⟩) ?_
      try simp only [Act.put, List.setIfInBounds_toArray, List.set_cons_zero, List.set_cons_succ]
      refine wpAnyU_pure (i := 11) (d := (some 21)) (v := ?_) rfl rfl (by kernel_rfl) (fun _ _ _ h => h) (fun _ _ h hu => ⟨(h.1).up hu, (h.2.1).up hu, (h.2.2.1).up hu, (h.2.2.2.1).up hu, below_up (h.2.2.2.2) hu⟩) (Or.inl ⟨by rfl, fun w' _ => yu_value ?_⟩) ?_
      rotate_left
      · (go_simp; (try exact rfl))
      try simp only [Act.put, List.setIfInBounds_toArray, List.set_cons_zero, List.set_cons_succ]
      refine wpAnyU_done (by kernel_rfl) (fun wE huE => ?_) _
      have ⟨hS1, hS2, hS3, hS4, hSB⟩ := ((fun _ _ h hu => ⟨(h.1).up hu, (h.2.1).up hu, (h.2.2.1).up hu, (h.2.2.2.1).up hu, below_up (h.2.2.2.2) hu⟩) : ∀ w1 w2 : World, (fun wq => Row wq w.heap.size 54 16 (limb (enc a)) ∧ Row wq (w.heap.size + 1) 54 16 (limb (enc b)) ∧ Row wq (w.heap.size + 1 + 1) 54 16 (fun _ => 0) ∧ Row wq w'.heap.size 54 16 (limb (enc (a + b))) ∧ Below w.heap.size w wq) w1 → Up w1 w2 → (fun wq => Row wq w.heap.size 54 16 (limb (enc a)) ∧ Row wq (w.heap.size + 1) 54 16 (limb (enc b)) ∧ Row wq (w.heap.size + 1 + 1) 54 16 (fun _ => 0) ∧ Row wq w'.heap.size 54 16 (limb (enc (a + b))) ∧ Below w.heap.size w wq) w2) _ _ hSS huE
      clear huE hSS
      go_wp2_with (first | ((with_reducible apply ld_rowP undW infoW); exact rfl; exact rfl; focus (repeat (first | assumption | ((with_reducible apply row_newc); (focus (first | rfl | (simp; done)))) | ((with_reducible apply row_newz); (focus (first | rfl | (simp; done)))) | (with_reducible apply row_same) | ((with_reducible apply row_else); (focus (first | (simp; done) | (simp; omega) | omega))) | (with_reducible apply row_alloc) | (with_reducible apply row_drew) | (with_reducible apply row_drewN) | ((with_reducible apply row_up); assumption)))) | ((with_reducible apply st_rowP infoW); exact rfl; exact rfl; focus (repeat (first | assumption | ((with_reducible apply row_newc); (focus (first | rfl | (simp; done)))) | ((with_reducible apply row_newz); (focus (first | rfl | (simp; done)))) | (with_reducible apply row_same) | ((with_reducible apply row_else); (focus (first | (simp; done) | (simp; omega) | omega))) | (with_reducible apply row_alloc) | (with_reducible apply row_drew) | (with_reducible apply row_drewN) | ((with_reducible apply row_up); assumption)))) | ((with_reducible apply st_rowZ infoW); exact rfl; exact rfl; focus (repeat (first | assumption | ((with_reducible apply row_newc); (focus (first | rfl | (simp; done)))) | ((with_reducible apply row_newz); (focus (first | rfl | (simp; done)))) | (with_reducible apply row_same) | ((with_reducible apply row_else); (focus (first | (simp; done) | (simp; omega) | omega))) | (with_reducible apply row_alloc) | (with_reducible apply row_drew) | (with_reducible apply row_drewN) | ((with_reducible apply row_up); assumption)))))
      exact bodyPost_ret (res2 rfl undW infoW _ _ rfl (by (repeat (first | assumption | ((with_reducible apply row_newc); (focus (first | rfl | (simp; done)))) | ((with_reducible apply row_newz); (focus (first | rfl | (simp; done)))) | (with_reducible apply row_same) | ((with_reducible apply row_else); (focus (first | (simp; done) | (simp; omega) | omega))) | (with_reducible apply row_alloc) | (with_reducible apply row_drew) | (with_reducible apply row_drewN) | ((with_reducible apply row_up); assumption))))) rfl ⟨rfl, (by repeat (first | assumption | (with_reducible apply Up.of) | (with_reducible exact Below.refl _ _) | (with_reducible exact Up.refl _) | ((with_reducible apply bl_setRow); (focus (first | exact Nat.le_refl _ | (simp; done) | (simp; omega) | omega))) | (with_reducible apply below_drewN) | (with_reducible apply Below.drew) | ((with_reducible apply bl_alloc); (focus (first | exact Nat.le_refl _ | (simp; done) | (simp; omega) | omega))) | ((with_reducible apply bl_setCell); (focus (first | exact Nat.le_refl _ | (simp; done) | (simp; omega) | omega))) | ((with_reducible apply up_tr); assumption)))⟩
    · have hd2 : decide (b < 0) = false := by simpa using b0
      rw [hd2] at HB
      have hk := hk1 (by simp [a0, b0])
      by_cases hs : hb ≤ enc (a + b)
      · have hd3 : decide (hb ≤ enc (a + b)) = true := by simpa using hs
        rw [hd3] at HM hk
        rw [opt_no fun h => by simpa using hk.2 h]
        clear hk1 hk2 hk hs hd hd2 hd3 a0 b0
        unfold wideV at *
        go_enter Tryz.func76, Tryz.ntmps76
        go_wp2_with (first | ((with_reducible apply ld_rowP undW infoW); exact rfl; exact rfl; focus (repeat (first | assumption | ((with_reducible apply row_newc); (focus (first | rfl | (simp; done)))) | ((with_reducible apply row_newz); (focus (first | rfl | (simp; done)))) | (with_reducible apply row_same) | ((with_reducible apply row_else); (focus (first | (simp; done) | (simp; omega) | omega))) | (with_reducible apply row_alloc) | (with_reducible apply row_drew) | (with_reducible apply row_drewN) | ((with_reducible apply row_up); assumption)))) | ((with_reducible apply st_rowP infoW); exact rfl; exact rfl; focus (repeat (first | assumption | ((with_reducible apply row_newc); (focus (first | rfl | (simp; done)))) | ((with_reducible apply row_newz); (focus (first | rfl | (simp; done)))) | (with_reducible apply row_same) | ((with_reducible apply row_else); (focus (first | (simp; done) | (simp; omega) | omega))) | (with_reducible apply row_alloc) | (with_reducible apply row_drew) | (with_reducible apply row_drewN) | ((with_reducible apply row_up); assumption)))) | ((with_reducible apply st_rowZ infoW); exact rfl; exact rfl; focus (repeat (first | assumption | ((with_reducible apply row_newc); (focus (first | rfl | (simp; done)))) | ((with_reducible apply row_newz); (focus (first | rfl | (simp; done)))) | (with_reducible apply row_same) | ((with_reducible apply row_else); (focus (first | (simp; done) | (simp; omega) | omega))) | (with_reducible apply row_alloc) | (with_reducible apply row_drew) | (with_reducible apply row_drewN) | ((with_reducible apply row_up); assumption)))) | (go_at_call 97; refine (HP.out _).mono ?_; rintro e w' ⟨rfl, hu⟩; have hsz := hu.size; simp at hsz))
        refine wp_region_upS (S := (fun wq => Row wq w.heap.size 54 16 (limb (enc a)) ∧ Row wq (w.heap.size + 1) 54 16 (limb (enc b)) ∧ Row wq (w.heap.size + 1 + 1) 54 16 (fun _ => 0) ∧ Row wq w'.heap.size 54 16 (limb (enc (a + b))) ∧ Below w.heap.size w wq)) (req := (fun _ => true)) (by kernel_rfl) (fun _ _ h hu => ⟨(h.1).up hu, (h.2.1).up hu, (h.2.2.1).up hu, (h.2.2.2.1).up hu, below_up (h.2.2.2.2) hu⟩) ⟨(by (repeat (first | assumption | ((with_reducible apply row_newc); (focus (first | rfl | (simp; done)))) | ((with_reducible apply row_newz); (focus (first | rfl | (simp; done)))) | (with_reducible apply row_same) | ((with_reducible apply row_else); (focus (first | (simp; done) | (simp; omega) | omega))) | (with_reducible apply row_alloc) | (with_reducible apply row_drew) | (with_reducible apply row_drewN) | ((with_reducible apply row_up); assumption)))), (by (repeat (first | assumption | ((with_reducible apply row_newc); (focus (first | rfl | (simp; done)))) | ((with_reducible apply row_newz); (focus (first | rfl | (simp; done)))) | (with_reducible apply row_same) | ((with_reducible apply row_else); (focus (first | (simp; done) | (simp; omega) | omega))) | (with_reducible apply row_alloc) | (with_reducible apply row_drew) | (with_reducible apply row_drewN) | ((with_reducible apply row_up); assumption)))), (by (repeat (first | assumption | ((with_reducible apply row_newc); (focus (first | rfl | (simp; done)))) | ((with_reducible apply row_newz); (focus (first | rfl | (simp; done)))) | (with_reducible apply row_same) | ((with_reducible apply row_else); (focus (first | (simp; done) | (simp; omega) | omega))) | (with_reducible apply row_alloc) | (with_reducible apply row_drew) | (with_reducible apply row_drewN) | ((with_reducible apply row_up); assumption)))), (by (repeat (first | assumption | ((with_reducible apply row_newc); (focus (first | rfl | (simp; done)))) | ((with_reducible apply row_newz); (focus (first | rfl | (simp; done)))) | (with_reducible apply row_same) | ((with_reducible apply row_else); (focus (first | (simp; done) | (simp; omega) | omega))) | (with_reducible apply row_alloc) | (with_reducible apply row_drew) | (with_reducible apply row_drewN) | ((with_reducible apply row_up); assumption)))), (by repeat (first | assumption | (with_reducible apply Up.of) | (with_reducible exact Below.refl _ _) | (with_reducible exact Up.refl _) | ((with_reducible apply bl_setRow); (focus (first | exact Nat.le_refl _ | (simp; done) | (simp; omega) | omega))) | (with_reducible apply below_drewN) | (with_reducible apply Below.drew) | ((with_reducible apply bl_alloc); (focus (first | exact Nat.le_refl _ | (simp; done) | (simp; omega) | omega))) | ((with_reducible apply bl_setCell); (focus (first | exact Nat.le_refl _ | (simp; done) | (simp; omega) | omega))) | ((with_reducible apply up_tr); assumption)))⟩ (fun wS hSS => ?_)
        have ⟨hS1, hS2, hS3, hS4, hSB⟩ := hSS
        clear hu
        refine wpAnyU_take (i := 0) (d := (some 10)) (v := _) rfl rfl (by kernel_rfl) (fun _ _ _ h => h) (fun _ _ h hu => ⟨(h.1).up hu, (h.2.1).up hu, (h.2.2.1).up hu, (h.2.2.2.1).up hu, below_up (h.2.2.2.2) hu⟩) hSS (Or.inl ⟨by rfl, fun w' hSw => yu_value (run_ld undW infoW _ rfl _ rfl hSw.1)⟩) ?_
        try simp only [Act.put, List.setIfInBounds_toArray, List.set_cons_zero, List.set_cons_succ]
        refine wpAnyU_take (i := 1) (d := (some 11)) (v := _) rfl rfl (by kernel_rfl) (fun _ _ _ h => h) (fun _ _ h hu => ⟨(h.1).up hu, (h.2.1).up hu, (h.2.2.1).up hu, (h.2.2.2.1).up hu, below_up (h.2.2.2.2) hu⟩) hSS (Or.inl ⟨by rfl, fun w' hSw => yu_call ?_ (HA.out _)⟩) ?_
        · go_simp
        try simp only [Act.put, List.setIfInBounds_toArray, List.set_cons_zero, List.set_cons_succ]
        refine wpAnyU_take (i := 2) (d := (some 12)) (v := _) rfl rfl (by kernel_rfl) (fun _ _ _ h => h) (fun _ _ h hu => ⟨(h.1).up hu, (h.2.1).up hu, (h.2.2.1).up hu, (h.2.2.2.1).up hu, below_up (h.2.2.2.2) hu⟩) hSS (Or.inl ⟨by rfl, fun w' hSw => yu_value (run_ld undW infoW _ rfl _ rfl hSw.2.1)⟩) ?_
        try simp only [Act.put, List.setIfInBounds_toArray, List.set_cons_zero, List.set_cons_succ]
        refine wpAnyU_take (i := 3) (d := (some 13)) (v := _) rfl rfl (by kernel_rfl) (fun _ _ _ h => h) (fun _ _ h hu => ⟨(h.1).up hu, (h.2.1).up hu, (h.2.2.1).up hu, (h.2.2.2.1).up hu, below_up (h.2.2.2.2) hu⟩) hSS (Or.inl ⟨by rfl, fun w' hSw => yu_call ?_ (HB.out _)⟩) ?_
        · go_simp
        try simp only [Act.put, List.setIfInBounds_toArray, List.set_cons_zero, List.set_cons_succ]
        refine wpAnyU_pure (i := 4) (d := (some 14)) (v := ?_) rfl rfl (by kernel_rfl) (fun _ _ _ h => h) (fun _ _ h hu => ⟨(h.1).up hu, (h.2.1).up hu, (h.2.2.1).up hu, (h.2.2.2.1).up hu, below_up (h.2.2.2.2) hu⟩) (Or.inl ⟨by rfl, fun w' _ => yu_value ?_⟩) ?_
        rotate_left
        · (go_simp; (try exact rfl))
        try simp only [Act.put, List.setIfInBounds_toArray, List.set_cons_zero, List.set_cons_succ]
        refine wpAnyU_pure (i := 5) (d := (some 15)) (v := ?_) rfl rfl (by kernel_rfl) (fun _ _ _ h => h) (fun _ _ h hu => ⟨(h.1).up hu, (h.2.1).up hu, (h.2.2.1).up hu, (h.2.2.2.1).up hu, below_up (h.2.2.2.2) hu⟩) (Or.inl ⟨by rfl, fun w' _ => yu_value ?_⟩) ?_
        rotate_left
        · (go_simp; (try exact rfl))
        try simp only [Act.put, List.setIfInBounds_toArray, List.set_cons_zero, List.set_cons_succ]
        refine wpAnyU_take (i := 6) (d := (some 16)) (v := _) rfl rfl (by kernel_rfl) (fun _ _ _ h => h) (fun _ _ h hu => ⟨(h.1).up hu, (h.2.1).up hu, (h.2.2.1).up hu, (h.2.2.2.1).up hu, below_up (h.2.2.2.2) hu⟩) hSS (Or.inl ⟨by rfl, fun w' hSw => yu_value (run_ld undW infoW _ rfl _ rfl hSw.2.2.2.1)⟩) ?_
        try simp only [Act.put, List.setIfInBounds_toArray, List.set_cons_zero, List.set_cons_succ]
        refine wpAnyU_take (i := 7) (d := (some 17)) (v := _) rfl rfl (by kernel_rfl) (fun _ _ _ h => h) (fun _ _ h hu => ⟨(h.1).up hu, (h.2.1).up hu, (h.2.2.1).up hu, (h.2.2.2.1).up hu, below_up (h.2.2.2.2) hu⟩) hSS (Or.inl ⟨by rfl, fun w' hSw => yu_call ?_ (HM.out _)⟩) ?_
        · go_simp
        try simp only [Act.put, List.setIfInBounds_toArray, List.set_cons_zero, List.set_cons_succ]
        refine wpAnyU_take (i := 8) (d := (some 18)) (v := _) rfl rfl (by kernel_rfl) (fun _ _ _ h => h) (fun _ _ h hu => ⟨(h.1).up hu, (h.2.1).up hu, (h.2.2.1).up hu, (h.2.2.2.1).up hu, below_up (h.2.2.2.2) hu⟩) hSS (Or.inl ⟨by rfl, fun w' hSw => yu_value (run_ld undW infoW _ rfl _ rfl hSw.1)⟩) ?_
        try simp only [Act.put, List.setIfInBounds_toArray, List.set_cons_zero, List.set_cons_succ]
        refine wpAnyU_take (i := 9) (d := (some 19)) (v := _) rfl rfl (by kernel_rfl) (fun _ _ _ h => h) (fun _ _ h hu => ⟨(h.1).up hu, (h.2.1).up hu, (h.2.2.1).up hu, (h.2.2.2.1).up hu, below_up (h.2.2.2.2) hu⟩) hSS (Or.inl ⟨by rfl, fun w' hSw => yu_call ?_ (HA.out _)⟩) ?_
        · go_simp
        try simp only [Act.put, List.setIfInBounds_toArray, List.set_cons_zero, List.set_cons_succ]
        refine wpAnyU_pure (i := 10) (d := (some 20)) (v := ?_) rfl rfl (by kernel_rfl) (fun _ _ _ h => h) (fun _ _ h hu => ⟨(h.1).up hu, (h.2.1).up hu, (h.2.2.1).up hu, (h.2.2.2.1).up hu, below_up (h.2.2.2.2) hu⟩) (Or.inl ⟨by rfl, fun w' _ => yu_value ?_⟩) ?_
        rotate_left
        · (go_simp; (try exact rfl))
        try simp only [Act.put, List.setIfInBounds_toArray, List.set_cons_zero, List.set_cons_succ]
        refine wpAnyU_pure (i := 11) (d := (some 21)) (v := ?_) rfl rfl (by kernel_rfl) (fun _ _ _ h => h) (fun _ _ h hu => ⟨(h.1).up hu, (h.2.1).up hu, (h.2.2.1).up hu, (h.2.2.2.1).up hu, below_up (h.2.2.2.2) hu⟩) (Or.inl ⟨by rfl, fun w' _ => yu_value ?_⟩) ?_
        rotate_left
        · (go_simp; (try exact rfl))
        try simp only [Act.put, List.setIfInBounds_toArray, List.set_cons_zero, List.set_cons_succ]
        refine wpAnyU_done (by kernel_rfl) (fun wE huE => ?_) _
        have ⟨hS1, hS2, hS3, hS4, hSB⟩ := ((fun _ _ h hu => ⟨(h.1).up hu, (h.2.1).up hu, (h.2.2.1).up hu, (h.2.2.2.1).up hu, below_up (h.2.2.2.2) hu⟩) : ∀ w1 w2 : World, (fun wq => Row wq w.heap.size 54 16 (limb (enc a)) ∧ Row wq (w.heap.size + 1) 54 16 (limb (enc b)) ∧ Row wq (w.heap.size + 1 + 1) 54 16 (fun _ => 0) ∧ Row wq w'.heap.size 54 16 (limb (enc (a + b))) ∧ Below w.heap.size w wq) w1 → Up w1 w2 → (fun wq => Row wq w.heap.size 54 16 (limb (enc a)) ∧ Row wq (w.heap.size + 1) 54 16 (limb (enc b)) ∧ Row wq (w.heap.size + 1 + 1) 54 16 (fun _ => 0) ∧ Row wq w'.heap.size 54 16 (limb (enc (a + b))) ∧ Below w.heap.size w wq) w2) _ _ hSS huE
        clear huE hSS
        go_wp2_with (first | ((with_reducible apply ld_rowP undW infoW); exact rfl; exact rfl; focus (repeat (first | assumption | ((with_reducible apply row_newc); (focus (first | rfl | (simp; done)))) | ((with_reducible apply row_newz); (focus (first | rfl | (simp; done)))) | (with_reducible apply row_same) | ((with_reducible apply row_else); (focus (first | (simp; done) | (simp; omega) | omega))) | (with_reducible apply row_alloc) | (with_reducible apply row_drew) | (with_reducible apply row_drewN) | ((with_reducible apply row_up); assumption)))) | ((with_reducible apply st_rowP infoW); exact rfl; exact rfl; focus (repeat (first | assumption | ((with_reducible apply row_newc); (focus (first | rfl | (simp; done)))) | ((with_reducible apply row_newz); (focus (first | rfl | (simp; done)))) | (with_reducible apply row_same) | ((with_reducible apply row_else); (focus (first | (simp; done) | (simp; omega) | omega))) | (with_reducible apply row_alloc) | (with_reducible apply row_drew) | (with_reducible apply row_drewN) | ((with_reducible apply row_up); assumption)))) | ((with_reducible apply st_rowZ infoW); exact rfl; exact rfl; focus (repeat (first | assumption | ((with_reducible apply row_newc); (focus (first | rfl | (simp; done)))) | ((with_reducible apply row_newz); (focus (first | rfl | (simp; done)))) | (with_reducible apply row_same) | ((with_reducible apply row_else); (focus (first | (simp; done) | (simp; omega) | omega))) | (with_reducible apply row_alloc) | (with_reducible apply row_drew) | (with_reducible apply row_drewN) | ((with_reducible apply row_up); assumption)))))
        exact bodyPost_ret (res2 rfl undW infoW _ _ rfl (by (repeat (first | assumption | ((with_reducible apply row_newc); (focus (first | rfl | (simp; done)))) | ((with_reducible apply row_newz); (focus (first | rfl | (simp; done)))) | (with_reducible apply row_same) | ((with_reducible apply row_else); (focus (first | (simp; done) | (simp; omega) | omega))) | (with_reducible apply row_alloc) | (with_reducible apply row_drew) | (with_reducible apply row_drewN) | ((with_reducible apply row_up); assumption))))) rfl ⟨rfl, (by repeat (first | assumption | (with_reducible apply Up.of) | (with_reducible exact Below.refl _ _) | (with_reducible exact Up.refl _) | ((with_reducible apply bl_setRow); (focus (first | exact Nat.le_refl _ | (simp; done) | (simp; omega) | omega))) | (with_reducible apply below_drewN) | (with_reducible apply Below.drew) | ((with_reducible apply bl_alloc); (focus (first | exact Nat.le_refl _ | (simp; done) | (simp; omega) | omega))) | ((with_reducible apply bl_setCell); (focus (first | exact Nat.le_refl _ | (simp; done) | (simp; omega) | omega))) | ((with_reducible apply up_tr); assumption)))⟩
      · have hd3 : decide (hb ≤ enc (a + b)) = false := by simpa using hs
        rw [hd3] at HM hk
        rw [opt_yes (hk.1 rfl)]
        clear hk1 hk2 hk hs hd hd2 hd3 a0 b0
        unfold wideV at *
        go_enter Tryz.func76, Tryz.ntmps76
        go_wp2_with (first | ((with_reducible apply ld_rowP undW infoW); exact rfl; exact rfl; focus (repeat (first | assumption | ((with_reducible apply row_newc); (focus (first | rfl | (simp; done)))) | ((with_reducible apply row_newz); (focus (first | rfl | (simp; done)))) | (with_reducible apply row_same) | ((with_reducible apply row_else); (focus (first | (simp; done) | (simp; omega) | omega))) | (with_reducible apply row_alloc) | (with_reducible apply row_drew) | (with_reducible apply row_drewN) | ((with_reducible apply row_up); assumption)))) | ((with_reducible apply st_rowP infoW); exact rfl; exact rfl; focus (repeat (first | assumption | ((with_reducible apply row_newc); (focus (first | rfl | (simp; done)))) | ((with_reducible apply row_newz); (focus (first | rfl | (simp; done)))) | (with_reducible apply row_same) | ((with_reducible apply row_else); (focus (first | (simp; done) | (simp; omega) | omega))) | (with_reducible apply row_alloc) | (with_reducible apply row_drew) | (with_reducible apply row_drewN) | ((with_reducible apply row_up); assumption)))) | ((with_reducible apply st_rowZ infoW); exact rfl; exact rfl; focus (repeat (first | assumption | ((with_reducible apply row_newc); (focus (first | rfl | (simp; done)))) | ((with_reducible apply row_newz); (focus (first | rfl | (simp; done)))) | (with_reducible apply row_same) | ((with_reducible apply row_else); (focus (first | (simp; done) | (simp; omega) | omega))) | (with_reducible apply row_alloc) | (with_reducible apply row_drew) | (with_reducible apply row_drewN) | ((with_reducible apply row_up); assumption)))) | (go_at_call 97; refine (HP.out _).mono ?_; rintro e w' ⟨rfl, hu⟩; have hsz := hu.size; simp at hsz))
        refine wp_region_upS (S := (fun wq => Row wq w.heap.size 54 16 (limb (enc a)) ∧ Row wq (w.heap.size + 1) 54 16 (limb (enc b)) ∧ Row wq (w.heap.size + 1 + 1) 54 16 (fun _ => 0) ∧ Row wq w'.heap.size 54 16 (limb (enc (a + b))) ∧ Below w.heap.size w wq)) (req := (fun _ => true)) (by kernel_rfl) (fun _ _ h hu => ⟨(h.1).up hu, (h.2.1).up hu, (h.2.2.1).up hu, (h.2.2.2.1).up hu, below_up (h.2.2.2.2) hu⟩) ⟨(by (repeat (first | assumption | ((with_reducible apply row_newc); (focus (first | rfl | (simp; done)))) | ((with_reducible apply row_newz); (focus (first | rfl | (simp; done)))) | (with_reducible apply row_same) | ((with_reducible apply row_else); (focus (first | (simp; done) | (simp; omega) | omega))) | (with_reducible apply row_alloc) | (with_reducible apply row_drew) | (with_reducible apply row_drewN) | ((with_reducible apply row_up); assumption)))), (by (repeat (first | assumption | ((with_reducible apply row_newc); (focus (first | rfl | (simp; done)))) | ((with_reducible apply row_newz); (focus (first | rfl | (simp; done)))) | (with_reducible apply row_same) | ((with_reducible apply row_else); (focus (first | (simp; done) | (simp; omega) | omega))) | (with_reducible apply row_alloc) | (with_reducible apply row_drew) | (with_reducible apply row_drewN) | ((with_reducible apply row_up); assumption)))), (by (repeat (first | assumption | ((with_reducible apply row_newc); (focus (first | rfl | (simp; done)))) | ((with_reducible apply row_newz); (focus (first | rfl | (simp; done)))) | (with_reducible apply row_same) | ((with_reducible apply row_else); (focus (first | (simp; done) | (simp; omega) | omega))) | (with_reducible apply row_alloc) | (with_reducible apply row_drew) | (with_reducible apply row_drewN) | ((with_reducible apply row_up); assumption)))), (by (repeat (first | assumption | ((with_reducible apply row_newc); (focus (first | rfl | (simp; done)))) | ((with_reducible apply row_newz); (focus (first | rfl | (simp; done)))) | (with_reducible apply row_same) | ((with_reducible apply row_else); (focus (first | (simp; done) | (simp; omega) | omega))) | (with_reducible apply row_alloc) | (with_reducible apply row_drew) | (with_reducible apply row_drewN) | ((with_reducible apply row_up); assumption)))), (by repeat (first | assumption | (with_reducible apply Up.of) | (with_reducible exact Below.refl _ _) | (with_reducible exact Up.refl _) | ((with_reducible apply bl_setRow); (focus (first | exact Nat.le_refl _ | (simp; done) | (simp; omega) | omega))) | (with_reducible apply below_drewN) | (with_reducible apply Below.drew) | ((with_reducible apply bl_alloc); (focus (first | exact Nat.le_refl _ | (simp; done) | (simp; omega) | omega))) | ((with_reducible apply bl_setCell); (focus (first | exact Nat.le_refl _ | (simp; done) | (simp; omega) | omega))) | ((with_reducible apply up_tr); assumption)))⟩ (fun wS hSS => ?_)
        have ⟨hS1, hS2, hS3, hS4, hSB⟩ := hSS
        clear hu
        refine wpAnyU_take (i := 0) (d := (some 10)) (v := _) rfl rfl (by kernel_rfl) (fun _ _ _ h => h) (fun _ _ h hu => ⟨(h.1).up hu, (h.2.1).up hu, (h.2.2.1).up hu, (h.2.2.2.1).up hu, below_up (h.2.2.2.2) hu⟩) hSS (Or.inl ⟨by rfl, fun w' hSw => yu_value (run_ld undW infoW _ rfl _ rfl hSw.1)⟩) ?_
        try simp only [Act.put, List.setIfInBounds_toArray, List.set_cons_zero, List.set_cons_succ]
        refine wpAnyU_take (i := 1) (d := (some 11)) (v := _) rfl rfl (by kernel_rfl) (fun _ _ _ h => h) (fun _ _ h hu => ⟨(h.1).up hu, (h.2.1).up hu, (h.2.2.1).up hu, (h.2.2.2.1).up hu, below_up (h.2.2.2.2) hu⟩) hSS (Or.inl ⟨by rfl, fun w' hSw => yu_call ?_ (HA.out _)⟩) ?_
        · go_simp
        try simp only [Act.put, List.setIfInBounds_toArray, List.set_cons_zero, List.set_cons_succ]
        refine wpAnyU_take (i := 2) (d := (some 12)) (v := _) rfl rfl (by kernel_rfl) (fun _ _ _ h => h) (fun _ _ h hu => ⟨(h.1).up hu, (h.2.1).up hu, (h.2.2.1).up hu, (h.2.2.2.1).up hu, below_up (h.2.2.2.2) hu⟩) hSS (Or.inl ⟨by rfl, fun w' hSw => yu_value (run_ld undW infoW _ rfl _ rfl hSw.2.1)⟩) ?_
        try simp only [Act.put, List.setIfInBounds_toArray, List.set_cons_zero, List.set_cons_succ]
        refine wpAnyU_take (i := 3) (d := (some 13)) (v := _) rfl rfl (by kernel_rfl) (fun _ _ _ h => h) (fun _ _ h hu => ⟨(h.1).up hu, (h.2.1).up hu, (h.2.2.1).up hu, (h.2.2.2.1).up hu, below_up (h.2.2.2.2) hu⟩) hSS (Or.inl ⟨by rfl, fun w' hSw => yu_call ?_ (HB.out _)⟩) ?_
        · go_simp
        try simp only [Act.put, List.setIfInBounds_toArray, List.set_cons_zero, List.set_cons_succ]
        refine wpAnyU_pure (i := 4) (d := (some 14)) (v := ?_) rfl rfl (by kernel_rfl) (fun _ _ _ h => h) (fun _ _ h hu => ⟨(h.1).up hu, (h.2.1).up hu, (h.2.2.1).up hu, (h.2.2.2.1).up hu, below_up (h.2.2.2.2) hu⟩) (Or.inl ⟨by rfl, fun w' _ => yu_value ?_⟩) ?_
        rotate_left
        · (go_simp; (try exact rfl))
        try simp only [Act.put, List.setIfInBounds_toArray, List.set_cons_zero, List.set_cons_succ]
        refine wpAnyU_pure (i := 5) (d := (some 15)) (v := ?_) rfl rfl (by kernel_rfl) (fun _ _ _ h => h) (fun _ _ h hu => ⟨(h.1).up hu, (h.2.1).up hu, (h.2.2.1).up hu, (h.2.2.2.1).up hu, below_up (h.2.2.2.2) hu⟩) (Or.inl ⟨by rfl, fun w' _ => yu_value ?_⟩) ?_
        rotate_left
        · (go_simp; (try exact rfl))
        try simp only [Act.put, List.setIfInBounds_toArray, List.set_cons_zero, List.set_cons_succ]
        refine wpAnyU_take (i := 6) (d := (some 16)) (v := _) rfl rfl (by kernel_rfl) (fun _ _ _ h => h) (fun _ _ h hu => ⟨(h.1).up hu, (h.2.1).up hu, (h.2.2.1).up hu, (h.2.2.2.1).up hu, below_up (h.2.2.2.2) hu⟩) hSS (Or.inl ⟨by rfl, fun w' hSw => yu_value (run_ld undW infoW _ rfl _ rfl hSw.2.2.2.1)⟩) ?_
        try simp only [Act.put, List.setIfInBounds_toArray, List.set_cons_zero, List.set_cons_succ]
        refine wpAnyU_take (i := 7) (d := (some 17)) (v := _) rfl rfl (by kernel_rfl) (fun _ _ _ h => h) (fun _ _ h hu => ⟨(h.1).up hu, (h.2.1).up hu, (h.2.2.1).up hu, (h.2.2.2.1).up hu, below_up (h.2.2.2.2) hu⟩) hSS (Or.inl ⟨by rfl, fun w' hSw => yu_call ?_ (HM.out _)⟩) ?_
        · go_simp
        try simp only [Act.put, List.setIfInBounds_toArray, List.set_cons_zero, List.set_cons_succ]
        refine wpAnyU_take (i := 8) (d := (some 18)) (v := _) rfl rfl (by kernel_rfl) (fun _ _ _ h => h) (fun _ _ h hu => ⟨(h.1).up hu, (h.2.1).up hu, (h.2.2.1).up hu, (h.2.2.2.1).up hu, below_up (h.2.2.2.2) hu⟩) hSS (Or.inl ⟨by rfl, fun w' hSw => yu_value (run_ld undW infoW _ rfl _ rfl hSw.1)⟩) ?_
        try simp only [Act.put, List.setIfInBounds_toArray, List.set_cons_zero, List.set_cons_succ]
        refine wpAnyU_take (i := 9) (d := (some 19)) (v := _) rfl rfl (by kernel_rfl) (fun _ _ _ h => h) (fun _ _ h hu => ⟨(h.1).up hu, (h.2.1).up hu, (h.2.2.1).up hu, (h.2.2.2.1).up hu, below_up (h.2.2.2.2) hu⟩) hSS (Or.inl ⟨by rfl, fun w' hSw => yu_call ?_ (HA.out _)⟩) ?_
        · go_simp
        try simp only [Act.put, List.setIfInBounds_toArray, List.set_cons_zero, List.set_cons_succ]
        refine wpAnyU_pure (i := 10) (d := (some 20)) (v := ?_) rfl rfl (by kernel_rfl) (fun _ _ _ h => h) (fun _ _ h hu => ⟨(h.1).up hu, (h.2.1).up hu, (h.2.2.1).up hu, (h.2.2.2.1).up hu, below_up (h.2.2.2.2) hu⟩) (Or.inl ⟨by rfl, fun w' _ => yu_value ?_⟩) ?_
        rotate_left
        · (go_simp; (try exact rfl))
        try simp only [Act.put, List.setIfInBounds_toArray, List.set_cons_zero, List.set_cons_succ]
        refine wpAnyU_pure (i := 11) (d := (some 21)) (v := ?_) rfl rfl (by kernel_rfl) (fun _ _ _ h => h) (fun _ _ h hu => ⟨(h.1).up hu, (h.2.1).up hu, (h.2.2.1).up hu, (h.2.2.2.1).up hu, below_up (h.2.2.2.2) hu⟩) (Or.inl ⟨by rfl, fun w' _ => yu_value ?_⟩) ?_
        rotate_left
        · (go_simp; (try exact rfl))
        try simp only [Act.put, List.setIfInBounds_toArray, List.set_cons_zero, List.set_cons_succ]
        refine wpAnyU_done (by kernel_rfl) (fun wE huE => ?_) _
        have ⟨hS1, hS2, hS3, hS4, hSB⟩ := ((fun _ _ h hu => ⟨(h.1).up hu, (h.2.1).up hu, (h.2.2.1).up hu, (h.2.2.2.1).up hu, below_up (h.2.2.2.2) hu⟩) : ∀ w1 w2 : World, (fun wq => Row wq w.heap.size 54 16 (limb (enc a)) ∧ Row wq (w.heap.size + 1) 54 16 (limb (enc b)) ∧ Row wq (w.heap.size + 1 + 1) 54 16 (fun _ => 0) ∧ Row wq w'.heap.size 54 16 (limb (enc (a + b))) ∧ Below w.heap.size w wq) w1 → Up w1 w2 → (fun wq => Row wq w.heap.size 54 16 (limb (enc a)) ∧ Row wq (w.heap.size + 1) 54 16 (limb (enc b)) ∧ Row wq (w.heap.size + 1 + 1) 54 16 (fun _ => 0) ∧ Row wq w'.heap.size 54 16 (limb (enc (a + b))) ∧ Below w.heap.size w wq) w2) _ _ hSS huE
        clear huE hSS
        go_wp2_with (first | ((with_reducible apply ld_rowP undW infoW); exact rfl; exact rfl; focus (repeat (first | assumption | ((with_reducible apply row_newc); (focus (first | rfl | (simp; done)))) | ((with_reducible apply row_newz); (focus (first | rfl | (simp; done)))) | (with_reducible apply row_same) | ((with_reducible apply row_else); (focus (first | (simp; done) | (simp; omega) | omega))) | (with_reducible apply row_alloc) | (with_reducible apply row_drew) | (with_reducible apply row_drewN) | ((with_reducible apply row_up); assumption)))) | ((with_reducible apply st_rowP infoW); exact rfl; exact rfl; focus (repeat (first | assumption | ((with_reducible apply row_newc); (focus (first | rfl | (simp; done)))) | ((with_reducible apply row_newz); (focus (first | rfl | (simp; done)))) | (with_reducible apply row_same) | ((with_reducible apply row_else); (focus (first | (simp; done) | (simp; omega) | omega))) | (with_reducible apply row_alloc) | (with_reducible apply row_drew) | (with_reducible apply row_drewN) | ((with_reducible apply row_up); assumption)))) | ((with_reducible apply st_rowZ infoW); exact rfl; exact rfl; focus (repeat (first | assumption | ((with_reducible apply row_newc); (focus (first | rfl | (simp; done)))) | ((with_reducible apply row_newz); (focus (first | rfl | (simp; done)))) | (with_reducible apply row_same) | ((with_reducible apply row_else); (focus (first | (simp; done) | (simp; omega) | omega))) | (with_reducible apply row_alloc) | (with_reducible apply row_drew) | (with_reducible apply row_drewN) | ((with_reducible apply row_up); assumption)))))
        exact bodyPost_ret (res2 rfl undW infoW _ _ rfl (by (repeat (first | assumption | ((with_reducible apply row_newc); (focus (first | rfl | (simp; done)))) | ((with_reducible apply row_newz); (focus (first | rfl | (simp; done)))) | (with_reducible apply row_same) | ((with_reducible apply row_else); (focus (first | (simp; done) | (simp; omega) | omega))) | (with_reducible apply row_alloc) | (with_reducible apply row_drew) | (with_reducible apply row_drewN) | ((with_reducible apply row_up); assumption))))) rfl ⟨rfl, (by repeat (first | assumption | (with_reducible apply Up.of) | (with_reducible exact Below.refl _ _) | (with_reducible exact Up.refl _) | ((with_reducible apply bl_setRow); (focus (first | exact Nat.le_refl _ | (simp; done) | (simp; omega) | omega))) | (with_reducible apply below_drewN) | (with_reducible apply Below.drew) | ((with_reducible apply bl_alloc); (focus (first | exact Nat.le_refl _ | (simp; done) | (simp; omega) | omega))) | ((with_reducible apply bl_setCell); (focus (first | exact Nat.le_refl _ | (simp; done) | (simp; omega) | omega))) | ((with_reducible apply up_tr); assumption)))⟩

end Go.Proofs.YtdcpoamjmoceiaaGreatDoor
/-
  wide: one step of a product: x y + a + b, its limb, and what is carried.
-/
namespace Go.Proofs.YtdcpoamjmoceiaaGreatDoor
open Go Go.RowKit
set_option maxRecDepth 100000

theorem step_arith {x y a b h l r1 c1 r2 c2 : Nat} (hx : x < 18446744073709551616) (hy : y < 18446744073709551616) (ha : a < 18446744073709551616) (hb' : b < 18446744073709551616)
    (eh : h = x * y / 18446744073709551616) (el : l = x * y % 18446744073709551616) (e1 : r1 = (l + a + 0) % 18446744073709551616) (f1 : c1 = (l + a + 0) / 18446744073709551616)
    (e2 : r2 = (r1 + b + 0) % 18446744073709551616) (f2 : c2 = (r1 + b + 0) / 18446744073709551616) :
    h + c1 + c2 < 18446744073709551616 ∧ r2 = (x * y + a + b) % 18446744073709551616 ∧ h + c1 + c2 = (x * y + a + b) / 18446744073709551616 := by
  have h1 : x * y ≤ 18446744073709551615 * 18446744073709551615 := Nat.mul_le_mul (by omega) (by omega)
  generalize x * y = p at *
  omega
set_option maxHeartbeats 400000 in
theorem step_any (x y a b : Nat) (hx : x < 18446744073709551616) (hy : y < 18446744073709551616) (ha : a < 18446744073709551616) (hb' : b < 18446744073709551616) (w : World) :
    Calls Tryz.prog 115 #[.int .u64 x, .int .u64 y, .int .u64 a, .int .u64 b] w
      fun e w' => e = .returned (.tuple #[.int .u64 ((x * y + a + b) % 18446744073709551616 : Nat), .int .u64 ((x * y + a + b) / 18446744073709551616 : Nat)]) ∧ w' = w := by
  obtain ⟨h, l, HM, eh, el⟩ : ∃ h l : Nat, Hid (∀ w, Calls Tryz.prog 96 #[.int .u64 x, .int .u64 y] w fun e w' => e = .returned (.tuple #[.int .u64 (h : Nat), .int .u64 (l : Nat)]) ∧ w' = w) ∧
      h = x * y / 18446744073709551616 ∧ l = x * y % 18446744073709551616 := ⟨_, _, hid (Tryz.bits_Mul64 x y hx hy), rfl, rfl⟩
  obtain ⟨r1, c1, HA, e1, f1⟩ : ∃ r c : Nat, (∀ w, (callFunc 93 #[.int .u64 (l : Nat), .int .u64 (a : Nat), .int .u64 0]).run Tryz.prog w = .ok (.value (.tuple #[.int .u64 (r : Nat), .int .u64 (c : Nat)])) w) ∧
      r = (l + a + 0) % 18446744073709551616 ∧ c = (l + a + 0) / 18446744073709551616 := ⟨_, _, run_add l a 0 (by omega), rfl, rfl⟩
  obtain ⟨r2, c2, HA2, e2, f2⟩ : ∃ r c : Nat, (∀ w, (callFunc 93 #[.int .u64 (r1 : Nat), .int .u64 (b : Nat), .int .u64 0]).run Tryz.prog w = .ok (.value (.tuple #[.int .u64 (r : Nat), .int .u64 (c : Nat)])) w) ∧
      r = (r1 + b + 0) % 18446744073709551616 ∧ c = (r1 + b + 0) / 18446744073709551616 := ⟨_, _, run_add r1 b 0 (by omega), rfl, rfl⟩
  obtain ⟨g1, g2, g3⟩ := step_arith hx hy ha hb' eh el e1 f1 e2 f2
  rw [← g2, ← g3]
  clear g2 g3 eh el e1 f1 e2 f2
  go_enter Tryz.func115, Tryz.ntmps115
  go_wp2_with (go_at_call 96; refine (HM.out _).mono ?_; rintro e w' ⟨rfl, rfl⟩)
  go_ret2
  exact ⟨rfl, rfl⟩
end Go.Proofs.YtdcpoamjmoceiaaGreatDoor
/-
  A whole number told as an int64, or that there is none: the two ways.
-/
namespace Go.Proofs.YtdcpoamjmoceiaaGreatDoor
open Go Go.RowKit
set_option maxRecDepth 100000

theorem i64V_yes {z : Int} (h : -9223372036854775808 ≤ z ∧ z < 9223372036854775808) : i64V z = .tuple #[.int .i64 z, .bool true] := by
  unfold i64V
  rw [if_pos h, decide_eq_true h]
theorem i64V_no {z : Int} (h : ¬ (-9223372036854775808 ≤ z ∧ z < 9223372036854775808)) : i64V z = .tuple #[.int .i64 0, .bool false] := by
  unfold i64V
  rw [if_neg h, decide_eq_false h]
end Go.Proofs.YtdcpoamjmoceiaaGreatDoor
/-
  fx: numbers of 64 bits that don't go round.
-/
namespace Go.Proofs.YtdcpoamjmoceiaaGreatDoor
open Go Go.RowKit
set_option maxRecDepth 100000

theorem fx_size (v : Int) (h1 : -9223372036854775808 ≤ v) (h2 : v < 9223372036854775808) (w : World) :
    Calls Tryz.prog 102 #[.int .i64 v] w fun e w' => e = .returned (.int .u64 ((v.natAbs : Nat) : Int)) ∧ Up w w' := by
  by_cases h : v < 0
  · have hd : decide (v < 0) = true := decide_eq_true h
    have e : IntKind.u64.wrap (-IntKind.u64.wrap v) = ((v.natAbs : Nat) : Int) := by
      rw [IntKind.wrap_u64, IntKind.wrap_u64]; omega
    go_enter Tryz.func102, Tryz.ntmps102
    go_wp2
    go_ret
    exact ⟨rfl, (by repeat (first | assumption | (with_reducible apply Up.of) | (with_reducible exact Below.refl _ _) | (with_reducible exact Up.refl _) | ((with_reducible apply bl_setRow); (focus (first | exact Nat.le_refl _ | (simp; done) | (simp; omega) | omega))) | (with_reducible apply below_drewN) | (with_reducible apply Below.drew) | ((with_reducible apply bl_alloc); (focus (first | exact Nat.le_refl _ | (simp; done) | (simp; omega) | omega))) | ((with_reducible apply bl_setCell); (focus (first | exact Nat.le_refl _ | (simp; done) | (simp; omega) | omega))) | ((with_reducible apply up_tr); assumption)))⟩
  · have hd : decide (v < 0) = false := decide_eq_false h
    have e : IntKind.u64.wrap v = ((v.natAbs : Nat) : Int) := by
      rw [IntKind.wrap_u64]; omega
    go_enter Tryz.func102, Tryz.ntmps102
    go_wp2
    go_ret
    exact ⟨rfl, (by repeat (first | assumption | (with_reducible apply Up.of) | (with_reducible exact Below.refl _ _) | (with_reducible exact Up.refl _) | ((with_reducible apply bl_setRow); (focus (first | exact Nat.le_refl _ | (simp; done) | (simp; omega) | omega))) | (with_reducible apply below_drewN) | (with_reducible apply Below.drew) | ((with_reducible apply bl_alloc); (focus (first | exact Nat.le_refl _ | (simp; done) | (simp; omega) | omega))) | ((with_reducible apply bl_setCell); (focus (first | exact Nat.le_refl _ | (simp; done) | (simp; omega) | omega))) | ((with_reducible apply up_tr); assumption)))⟩
theorem fx_signed (n : Nat) (hn : n < 18446744073709551616) (neg : Bool) (w : World) :
    Calls Tryz.prog 101 #[.int .u64 n, .bool neg] w fun e w' => e = .returned (i64V (pm neg n)) ∧ Up w w' := by
  cases neg with
  | false =>
    by_cases h : n < 9223372036854775808
    · rw [show i64V (pm false n) = .tuple #[.int .i64 n, .bool true] from i64V_yes (by simp only [pm, Bool.false_eq_true, if_false]; omega)]
      have hc : IntKind.i64.wrap (n : Int) = n := IntWalk.i64_in _ (by omega)
      have hd : decide ((n : Int) < 0) = false := decide_eq_false (by omega)
      go_enter Tryz.func101, Tryz.ntmps101
      go_wp2
      go_ret2
      exact ⟨rfl, (by repeat (first | assumption | (with_reducible apply Up.of) | (with_reducible exact Below.refl _ _) | (with_reducible exact Up.refl _) | ((with_reducible apply bl_setRow); (focus (first | exact Nat.le_refl _ | (simp; done) | (simp; omega) | omega))) | (with_reducible apply below_drewN) | (with_reducible apply Below.drew) | ((with_reducible apply bl_alloc); (focus (first | exact Nat.le_refl _ | (simp; done) | (simp; omega) | omega))) | ((with_reducible apply bl_setCell); (focus (first | exact Nat.le_refl _ | (simp; done) | (simp; omega) | omega))) | ((with_reducible apply up_tr); assumption)))⟩
    · rw [show i64V (pm false n) = .tuple #[.int .i64 0, .bool false] from i64V_no (by simp only [pm, Bool.false_eq_true, if_false]; omega)]
      obtain ⟨u, hu⟩ : ∃ u : Int, u = (n : Int) - 18446744073709551616 := ⟨_, rfl⟩
      have hc : IntKind.i64.wrap (n : Int) = u := by rw [IntKind.wrap_i64]; omega
      have hd : decide (u < 0) = true := decide_eq_true (by omega)
      have h0 : ((n : Int) != 0) = true := by simp; omega
      clear hu h hn
      go_enter Tryz.func101, Tryz.ntmps101
      go_wp2
      go_ret2
      exact ⟨rfl, (by repeat (first | assumption | (with_reducible apply Up.of) | (with_reducible exact Below.refl _ _) | (with_reducible exact Up.refl _) | ((with_reducible apply bl_setRow); (focus (first | exact Nat.le_refl _ | (simp; done) | (simp; omega) | omega))) | (with_reducible apply below_drewN) | (with_reducible apply Below.drew) | ((with_reducible apply bl_alloc); (focus (first | exact Nat.le_refl _ | (simp; done) | (simp; omega) | omega))) | ((with_reducible apply bl_setCell); (focus (first | exact Nat.le_refl _ | (simp; done) | (simp; omega) | omega))) | ((with_reducible apply up_tr); assumption)))⟩
  | true =>
    by_cases h : n ≤ 9223372036854775808
    · rw [show i64V (pm true n) = .tuple #[.int .i64 (-(n : Int)), .bool true] from i64V_yes (by simp only [pm, if_true]; omega)]
      obtain ⟨u, hu⟩ : ∃ u : Int, u = if (n : Int) < 9223372036854775808 then (n : Int) else -9223372036854775808 := ⟨_, rfl⟩
      have hc : IntKind.i64.wrap (n : Int) = u := by rw [IntKind.wrap_i64]; split at hu <;> omega
      obtain ⟨v, hv⟩ : ∃ v : Int, v = -(n : Int) := ⟨_, rfl⟩
      have hc2 : IntKind.i64.wrap (-u) = v := by rw [IntKind.wrap_i64]; split at hu <;> omega
      by_cases h0 : n = 0
      · have h00 : ((n : Int) != 0) = false := by simp; omega
        have hd : decide (v < 0) = false := decide_eq_false (by omega)
        rw [← hv]
        clear hu hv h hn h0
        go_enter Tryz.func101, Tryz.ntmps101
        go_wp2
        go_ret2
        exact ⟨rfl, (by repeat (first | assumption | (with_reducible apply Up.of) | (with_reducible exact Below.refl _ _) | (with_reducible exact Up.refl _) | ((with_reducible apply bl_setRow); (focus (first | exact Nat.le_refl _ | (simp; done) | (simp; omega) | omega))) | (with_reducible apply below_drewN) | (with_reducible apply Below.drew) | ((with_reducible apply bl_alloc); (focus (first | exact Nat.le_refl _ | (simp; done) | (simp; omega) | omega))) | ((with_reducible apply bl_setCell); (focus (first | exact Nat.le_refl _ | (simp; done) | (simp; omega) | omega))) | ((with_reducible apply up_tr); assumption)))⟩
      · have hd : decide (v < 0) = true := decide_eq_true (by omega)
        rw [← hv]
        clear hu hv h hn h0
        go_enter Tryz.func101, Tryz.ntmps101
        go_wp2
        go_ret2
        exact ⟨rfl, (by repeat (first | assumption | (with_reducible apply Up.of) | (with_reducible exact Below.refl _ _) | (with_reducible exact Up.refl _) | ((with_reducible apply bl_setRow); (focus (first | exact Nat.le_refl _ | (simp; done) | (simp; omega) | omega))) | (with_reducible apply below_drewN) | (with_reducible apply Below.drew) | ((with_reducible apply bl_alloc); (focus (first | exact Nat.le_refl _ | (simp; done) | (simp; omega) | omega))) | ((with_reducible apply bl_setCell); (focus (first | exact Nat.le_refl _ | (simp; done) | (simp; omega) | omega))) | ((with_reducible apply up_tr); assumption)))⟩
    · rw [show i64V (pm true n) = .tuple #[.int .i64 0, .bool false] from i64V_no (by simp only [pm, if_true]; omega)]
      obtain ⟨u, hu⟩ : ∃ u : Int, u = (n : Int) - 18446744073709551616 := ⟨_, rfl⟩
      have hc : IntKind.i64.wrap (n : Int) = u := by rw [IntKind.wrap_i64]; omega
      obtain ⟨v, hv⟩ : ∃ v : Int, v = -u := ⟨_, rfl⟩
      have hc2 : IntKind.i64.wrap (-u) = v := by rw [IntKind.wrap_i64]; omega
      have hd : decide (v < 0) = false := decide_eq_false (by omega)
      have h0 : ((n : Int) != 0) = true := by simp; omega
      clear hu hv h hn
      go_enter Tryz.func101, Tryz.ntmps101
      go_wp2
      go_ret2
      exact ⟨rfl, (by repeat (first | assumption | (with_reducible apply Up.of) | (with_reducible exact Below.refl _ _) | (with_reducible exact Up.refl _) | ((with_reducible apply bl_setRow); (focus (first | exact Nat.le_refl _ | (simp; done) | (simp; omega) | omega))) | (with_reducible apply below_drewN) | (with_reducible apply Below.drew) | ((with_reducible apply bl_alloc); (focus (first | exact Nat.le_refl _ | (simp; done) | (simp; omega) | omega))) | ((with_reducible apply bl_setCell); (focus (first | exact Nat.le_refl _ | (simp; done) | (simp; omega) | omega))) | ((with_reducible apply up_tr); assumption)))⟩
/-- A sum's test tells whether it went round. -/
theorem fx_add (a b : Int) (a1 : -9223372036854775808 ≤ a) (a2 : a < 9223372036854775808) (b1 : -9223372036854775808 ≤ b) (b2 : b < 9223372036854775808) (w : World) :
    Calls Tryz.prog 56 #[.int .i64 a, .int .i64 b] w fun e w' => e = .returned (i64V (a + b)) ∧ Up w w' := by
  obtain ⟨s, hs⟩ : ∃ s : Int, IntKind.i64.wrap (a + b) = s := ⟨_, rfl⟩
  obtain ⟨p, hp⟩ : ∃ p : Bool, decide (a < s) = p := ⟨_, rfl⟩
  obtain ⟨q, hq⟩ : ∃ q : Bool, decide (0 < b) = q := ⟨_, rfl⟩
  have hs' := hs
  have hp' := hp
  have hq' := hq
  rw [IntKind.wrap_i64] at hs'
  by_cases h : -9223372036854775808 ≤ a + b ∧ a + b < 9223372036854775808
  · have e : s = a + b := by omega
    rw [i64V_yes h, ← e]
    have : p = q := by rw [← hp, ← hq, decide_eq_decide]; omega
    subst this
    clear hs' hp' hq' e h
    go_enter Tryz.func56, Tryz.ntmps56
    cases p <;> (go_wp2; go_ret2; exact ⟨rfl, (by repeat (first | assumption | (with_reducible apply Up.of) | (with_reducible exact Below.refl _ _) | (with_reducible exact Up.refl _) | ((with_reducible apply bl_setRow); (focus (first | exact Nat.le_refl _ | (simp; done) | (simp; omega) | omega))) | (with_reducible apply below_drewN) | (with_reducible apply Below.drew) | ((with_reducible apply bl_alloc); (focus (first | exact Nat.le_refl _ | (simp; done) | (simp; omega) | omega))) | ((with_reducible apply bl_setCell); (focus (first | exact Nat.le_refl _ | (simp; done) | (simp; omega) | omega))) | ((with_reducible apply up_tr); assumption)))⟩)
  · rw [i64V_no h]
    have : p = !q := by
      rw [← hp, ← hq, ← decide_not, decide_eq_decide]; omega
    subst this
    clear hs' hp' hq' h
    go_enter Tryz.func56, Tryz.ntmps56
    cases q <;> (simp only [Bool.not_true, Bool.not_false] at hp; go_wp2; go_ret2; exact ⟨rfl, (by repeat (first | assumption | (with_reducible apply Up.of) | (with_reducible exact Below.refl _ _) | (with_reducible exact Up.refl _) | ((with_reducible apply bl_setRow); (focus (first | exact Nat.le_refl _ | (simp; done) | (simp; omega) | omega))) | (with_reducible apply below_drewN) | (with_reducible apply Below.drew) | ((with_reducible apply bl_alloc); (focus (first | exact Nat.le_refl _ | (simp; done) | (simp; omega) | omega))) | ((with_reducible apply bl_setCell); (focus (first | exact Nat.le_refl _ | (simp; done) | (simp; omega) | omega))) | ((with_reducible apply up_tr); assumption)))⟩)
theorem fx_amount (v : Int) (h1 : -9223372036854775808 ≤ v) (h2 : v < 9223372036854775808) (w : World) :
    Calls Tryz.prog 78 #[.int .i64 v] w fun e w' => e = .returned (i64V (v.natAbs : Nat)) ∧ Up w w' := by
  have HS := hid (fun w => fx_size v h1 h2 w)
  have HG := hid (fun w => fx_signed v.natAbs (by omega) false w)
  rw [show pm false v.natAbs = ((v.natAbs : Nat) : Int) from rfl] at HG
  generalize v.natAbs = n at *
  obtain ⟨x, ok, hx⟩ : ∃ x ok, i64V (n : Int) = .tuple #[.int .i64 x, .bool ok] := ⟨_, _, rfl⟩
  rw [hx] at HG ⊢
  clear hx
  go_enter Tryz.func78, Tryz.ntmps78
  go_wp2_with (first | (go_at_call 102; refine (HS.out _).mono ?_; rintro e w' ⟨rfl, hu⟩) | (go_at_call 101; refine (HG.out _).mono ?_; rintro e w' ⟨rfl, hu⟩))
  go_ret2
  exact ⟨rfl, (by repeat (first | assumption | (with_reducible apply Up.of) | (with_reducible exact Below.refl _ _) | (with_reducible exact Up.refl _) | ((with_reducible apply bl_setRow); (focus (first | exact Nat.le_refl _ | (simp; done) | (simp; omega) | omega))) | (with_reducible apply below_drewN) | (with_reducible apply Below.drew) | ((with_reducible apply bl_alloc); (focus (first | exact Nat.le_refl _ | (simp; done) | (simp; omega) | omega))) | ((with_reducible apply bl_setCell); (focus (first | exact Nat.le_refl _ | (simp; done) | (simp; omega) | omega))) | ((with_reducible apply up_tr); assumption)))⟩
end Go.Proofs.YtdcpoamjmoceiaaGreatDoor
/-
  Errors in memory: a number; a fault of an error, or of none; two errors joined.
-/
namespace Go.Proofs.YtdcpoamjmoceiaaGreatDoor
open Go Go.RowKit
set_option maxRecDepth 100000

/-- An error's shape. -/
inductive Er where
  | num (n : Int)
  | nilf (op : ByteArray)
  | flt (op : ByteArray) (e : Er)
/-- The value v is the error e, in world w. -/
def IsEr (w : World) : Value → Er → Prop
  | v, .num n => v = .iface 80 (.int .i64 n)
  | v, .nilf op => ∃ b, v = .iface 122 (.pointer (some ⟨b, 0, none⟩)) ∧ Blk w b 125 #[.string op, .nilIface]
  | v, .flt op e => ∃ b u, v = .iface 122 (.pointer (some ⟨b, 0, none⟩)) ∧ Blk w b 125 #[.string op, u] ∧ IsEr w u e
theorem IsEr.up {w w' : World} (hu : Up w w') {v : Value} {e : Er} (h : IsEr w v e) : IsEr w' v e := by
  induction e generalizing v with
  | num n => exact h
  | nilf op => obtain ⟨b, h1, h2⟩ := h; exact ⟨b, h1, h2.up hu⟩
  | flt op e ih => obtain ⟨b, u, h1, h2, h3⟩ := h; exact ⟨b, u, h1, h2.up hu, ih h3⟩
theorem IsEr.iface {w : World} {v : Value} {e : Er} (h : IsEr w v e) : ∃ t u, v = .iface t u := by
  cases e with
  | num n => exact ⟨_, _, h⟩
  | nilf op => obtain ⟨b, h1, _⟩ := h; exact ⟨_, _, h1⟩
  | flt op e => obtain ⟨b, u, h1, _⟩ := h; exact ⟨_, _, h1⟩
/-- Is n found in it? -/
def Er.has (n : Int) : Er → Bool
  | .num m => m == n
  | .nilf _ => false
  | .flt _ e => e.has n
/-- The first number in it. -/
def Er.first : Er → Option Int
  | .num m => some m
  | .nilf _ => none
  | .flt _ e => e.first
/-- Its Ops: outermost first; of joined ones the first one's. -/
def Er.ops : Er → List ByteArray
  | .num _ => []
  | .nilf op => [op]
  | .flt op e => op :: e.ops
theorem wrap_any {op : ByteArray} {v : Value} {e : Er} {w : World} (h : IsEr w v e) :
    Calls Tryz.prog 75 #[.string op, v] w fun r w' => ∃ u, r = .returned u ∧ Up w w' ∧ IsEr w' u (.flt op e) := by
  obtain ⟨t, u, rfl⟩ := h.iface
  have H := hid h
  clear h
  go_enter Tryz.func75, Tryz.ntmps75
  go_wp2
  go_ret
  exact ⟨_, rfl, Up.alloc _ _, _, _, rfl, Blk.new _ _ rfl, H.out.up (Up.alloc _ _)⟩
end Go.Proofs.YtdcpoamjmoceiaaGreatDoor
/-
  errors.Is, asked for a number: whether it is in the error.
-/
namespace Go.Proofs.YtdcpoamjmoceiaaGreatDoor
open Go Go.RowKit Go.Extern.Stop Go.Stop Go.Extern
set_option maxRecDepth 100000

theorem noUnN (v : Value) (xT : TypeId) (w : World) : (Instr.typeAssert (.iface 80 v) xT 179 true).run Tryz.prog w = .ok (.tuple #[.nilIface, .bool false]) w := run_typeAssert_lacksB Tryz.underlying179 (by kernel_rfl) (by kernel_rfl) v xT w
theorem noUsN (v : Value) (xT : TypeId) (w : World) : (Instr.typeAssert (.iface 80 v) xT 165 true).run Tryz.prog w = .ok (.tuple #[.nilIface, .bool false]) w := run_typeAssert_lacksB Tryz.underlying165 (by kernel_rfl) (by kernel_rfl) v xT w
theorem hasUnF (v : Value) (xT : TypeId) (w : World) : (Instr.typeAssert (.iface 122 v) xT 179 true).run Tryz.prog w = .ok (.tuple #[.iface 122 v, .bool true]) w := run_typeAssert_hasB Tryz.underlying179 (by kernel_rfl) v xT w
theorem unwrap_flt {b : Nat} {op : ByteArray} {u : Value} {w : World} (h : Blk w b 125 #[.string op, u]) :
    Calls Tryz.prog 152 #[.pointer (some ⟨b, 0, none⟩)] w fun r w' => r = .returned u ∧ w' = w := by
  have hc := h.cell 1 rfl
  go_enter Tryz.func152, Tryz.ntmps152
  go_wp2
  go_ret
  exact ⟨rfl, rfl⟩
theorem mUnF (v : Value) (w : World) : (Go.method 322 122 v "Unwrap").run Tryz.prog w = .ok (152, v) w := by kernel_rfl
/-- How many parts. -/
def Er.size : Er → Nat
  | .num _ => 1
  | .nilf _ => 1
  | .flt _ e => e.size + 1
end Go.Proofs.YtdcpoamjmoceiaaGreatDoor
/-
  errors.As, asked for a number: the first one in the error.
-/
namespace Go.Proofs.YtdcpoamjmoceiaaGreatDoor
open Go Go.RowKit Go.Extern.Stop Go.Stop Go.Extern
set_option maxRecDepth 100000

/-! Closed facts on the model's entries for internal/reflectlite, at this program's types. -/
theorem valueOfP (t : Addr) (w : World) : (ReflectliteValue.unpack (.iface 127 (.pointer (some t)))).run Tryz.prog w
    = .ok (.agg #[.pointer (some ⟨3, 127, none⟩), .pointer (some ⟨w.heap.size, 0, none⟩), .int .u64 150]) (w.alloc (.cells #[.pointer (some t)] 127)) := by kernel_rfl
theorem typeP (a : Addr) (w : World) : (ReflectliteValue.methodAny (ReflectliteValue.valueError "reflectlite.Value.Type" 0) (fun t _ _ _ => ReflectliteType.toType t) #[.agg #[.pointer (some ⟨3, 127, none⟩), .pointer (some a), .int .u64 150]]).run Tryz.prog w
    = .ok (.iface 171 (.agg #[.pointer (some ⟨3, 127, none⟩)])) w := by kernel_rfl
theorem mKind (h : Value) (w : World) : (Go.method 322 171 (.agg #[h]) "Kind").run Tryz.prog w = .ok (147, h) w := by kernel_rfl
theorem kindP (w : World) : ((ReflectliteType.abiMethod fun t => (fun a : Nat => Value.int IntKind.u8 (a : Int)) <$> Rtype.kind t) #[.pointer (some ⟨3, 127, none⟩)]).run Tryz.prog w = .ok (.int .u8 22) w := by kernel_rfl
theorem kindN (w : World) : ((ReflectliteType.abiMethod fun t => (fun a : Nat => Value.int IntKind.u8 (a : Int)) <$> Rtype.kind t) #[.pointer (some ⟨3, 80, none⟩)]).run Tryz.prog w = .ok (.int .u8 2) w := by kernel_rfl
theorem rlm (z : Sem Value) (f : TypeId → Addr → Nat → Nat → Sem Value) (v : Value) :
    ReflectliteValue.method z f #[v] = (do match ← ReflectliteValue.parts v with | none => z | some (t, a, fl) => f t a fl (fl % 32)) := rfl
theorem partsP (a : Addr) (w : World) : (ReflectliteValue.parts (.agg #[.pointer (some ⟨3, 127, none⟩), .pointer (some a), .int .u64 150])).run Tryz.prog w = .ok (some (127, a, 150)) w := by kernel_rfl
theorem isNilP (a p : Addr) (W : World) (ha : W.cell? a = some (.pointer (some p))) :
    (ReflectliteValue.method (ReflectliteValue.valueError "reflectlite.Value.IsNil" 0) ReflectliteValue.isNil #[.agg #[.pointer (some ⟨3, 127, none⟩), .pointer (some a), .int .u64 150]]).run Tryz.prog W = .ok (.bool false) W := by
  rw [rlm]
  simp only [Sem.run_bind, partsP, Result.andThen]
  simp [ReflectliteValue.isNil, loadVar, isAgg, underlying, Tryz.underlying127, ha, Result.andThen]
theorem mElem (h : Value) (w : World) : (Go.method 322 171 (.agg #[h]) "Elem").run Tryz.prog w = .ok (159, .agg #[h]) w := by kernel_rfl
theorem mImplements (h : Value) (w : World) : (Go.method 322 171 (.agg #[h]) "Implements").run Tryz.prog w = .ok (160, .agg #[h]) w := by kernel_rfl
theorem mAssignableTo (h : Value) (w : World) : (Go.method 322 171 (.agg #[h]) "AssignableTo").run Tryz.prog w = .ok (157, .agg #[h]) w := by kernel_rfl
theorem elemP (w : World) : (ReflectliteType.method ReflectliteType.elem #[.agg #[.pointer (some ⟨3, 127, none⟩)]]).run Tryz.prog w = .ok (.iface 171 (.agg #[.pointer (some ⟨3, 80, none⟩)])) w := by kernel_rfl
theorem implementsN (w : World) : (ReflectliteType.relation "Implements" ReflectliteType.implements_ #[.agg #[.pointer (some ⟨3, 80, none⟩)], .iface 171 (.agg #[.pointer (some ⟨3, 34, none⟩)])]).run Tryz.prog w = .ok (.bool true) w := by kernel_rfl
theorem typeOfN2 (v : Value) (w : World) : (ReflectliteType.typeOf #[.iface 80 v]).run Tryz.prog w = .ok (.iface 171 (.agg #[.pointer (some ⟨3, 80, none⟩)])) w := by kernel_rfl
theorem typeOfF (v : Value) (w : World) : (ReflectliteType.typeOf #[.iface 122 v]).run Tryz.prog w = .ok (.iface 171 (.agg #[.pointer (some ⟨3, 122, none⟩)])) w := by kernel_rfl
theorem assignN (w : World) : (ReflectliteType.relation "AssignableTo" ReflectliteType.assignableTo #[.agg #[.pointer (some ⟨3, 80, none⟩)], .iface 171 (.agg #[.pointer (some ⟨3, 80, none⟩)])]).run Tryz.prog w = .ok (.bool true) w := by kernel_rfl
theorem assignF (w : World) : (ReflectliteType.relation "AssignableTo" ReflectliteType.assignableTo #[.agg #[.pointer (some ⟨3, 122, none⟩)], .iface 171 (.agg #[.pointer (some ⟨3, 80, none⟩)])]).run Tryz.prog w = .ok (.bool false) w := by kernel_rfl
theorem valueOfN (n : Int) (w : World) : (ReflectliteValue.unpack (.iface 80 (.int .i64 n))).run Tryz.prog w
    = .ok (.agg #[.pointer (some ⟨3, 80, none⟩), .pointer (some ⟨w.heap.size, 0, none⟩), .int .u64 130]) (w.alloc (.cells #[.int .i64 n] 80)) := by kernel_rfl
theorem elemOfP (w : World) : (Rtype.elem? 127).run Tryz.prog w = .ok (some 80) w := by kernel_rfl
theorem mkN (p : Addr) (w : World) : (ReflectliteValue.mk 80 p ReflectliteValue.flagAddr).run Tryz.prog w = .ok (.agg #[.pointer (some ⟨3, 80, none⟩), .pointer (some p), .int .u64 386]) w := by kernel_rfl
theorem elemVP (a p : Addr) (W : World) (ha : W.cell? a = some (.pointer (some p))) :
    (ReflectliteValue.method (ReflectliteValue.valueError "reflectlite.Value.Elem" 0) ReflectliteValue.elem #[.agg #[.pointer (some ⟨3, 127, none⟩), .pointer (some a), .int .u64 150]]).run Tryz.prog W
      = .ok (.agg #[.pointer (some ⟨3, 80, none⟩), .pointer (some p), .int .u64 386]) W := by
  rw [rlm]
  simp only [Sem.run_bind, partsP, Result.andThen]
  simp [ReflectliteValue.elem, loadVar, isAgg, underlying, Tryz.underlying127, ha, Result.andThen, elemOfP, mkN]
theorem lt_of_cell {w : World} {a : Addr} {v : Value} (h : w.cell? a = some v) : a.block < w.heap.size := by
  rcases Nat.lt_or_ge a.block w.heap.size with h1 | h1
  · exact h1
  · simp [World.cell?, Array.getElem?_eq_none h1] at h
theorem rls (v x : Value) : ReflectliteValue.set #[v, x] = (do
    let (some (dst, a, fl), some (src, b, _)) := (← ReflectliteValue.parts v, ← ReflectliteValue.parts x)
      | unsupported (.noEntry "extern/(internal/reflectlite.Value).Set.zeroValue")
    if fl / ReflectliteValue.flagAddr % 2 == 0 then unsupported (.noEntry "extern/(internal/reflectlite.Value).Set.unaddressable")
    let val ← loadVar src b
    if ← Rtype.directlyAssignable dst src then storeVar dst a val
    else if ← Rtype.implements dst src then
      if (← Rtype.kind src) == 20 then
        match val with
        | .nilIface => unsupported (.noEntry "extern/reflectlite: a nil value of one interface type handed on as a value of another")
        | _ => storeVar dst a val
      else storeVar dst a (.iface src val)
    else panicString ("reflectlite.Set: value of type " ++ (← Rtype.spelt src) ++ " is not assignable to type " ++ (← Rtype.spelt dst))
    pure (.tuple #[])) := rfl
theorem partsNa (a : Addr) (w : World) : (ReflectliteValue.parts (.agg #[.pointer (some ⟨3, 80, none⟩), .pointer (some a), .int .u64 386])).run Tryz.prog w = .ok (some (80, a, 386)) w := by kernel_rfl
theorem partsN (a : Addr) (w : World) : (ReflectliteValue.parts (.agg #[.pointer (some ⟨3, 80, none⟩), .pointer (some a), .int .u64 130])).run Tryz.prog w = .ok (some (80, a, 130)) w := by kernel_rfl
theorem directN (w : World) : (Rtype.directlyAssignable 80 80).run Tryz.prog w = .ok true w := by kernel_rfl
theorem setN (ta b : Addr) (n : Int) (old : Value) (W : World) (hb : W.cell? b = some (.int .i64 n)) (ht : W.cell? ta = some old) (hf : W.frozen? ta = false) :
    (ReflectliteValue.set #[.agg #[.pointer (some ⟨3, 80, none⟩), .pointer (some ta), .int .u64 386], .agg #[.pointer (some ⟨3, 80, none⟩), .pointer (some b), .int .u64 130]]).run Tryz.prog W
      = .ok (.tuple #[]) (W.setCell ta (.int .i64 n)) := by
  rw [rls]
  simp only [Sem.run_bind, partsNa, partsN, Result.andThen]
  simp [ReflectliteValue.flagAddr, loadVar, isAgg, underlying, Tryz.underlying80, hb, Result.andThen, directN, storeVar, Value.cells, storeCells, Addr.add]
  rw [run_store Tryz.prog W ta _ _ (by rfl)]
  simp [ht, hf]
theorem noAsN (v : Value) (xT : TypeId) (w : World) : (Instr.typeAssert (.iface 80 v) xT 176 true).run Tryz.prog w = .ok (.tuple #[.nilIface, .bool false]) w := run_typeAssert_lacksB Tryz.underlying176 (by kernel_rfl) (by kernel_rfl) v xT w
theorem noAsF (v : Value) (xT : TypeId) (w : World) : (Instr.typeAssert (.iface 122 v) xT 176 true).run Tryz.prog w = .ok (.tuple #[.nilIface, .bool false]) w := run_typeAssert_lacksB Tryz.underlying176 (by kernel_rfl) (by kernel_rfl) v xT w
theorem undV0 : (match Tryz.prog.underlying 147 with | some (.struct _) => true | _ => false) = true := by kernel_rfl
theorem undV : ∃ fs, Tryz.prog.underlying 147 = some (.struct fs) := by
  have h := undV0
  cases hq : Tryz.prog.underlying 147 with
  | none => rw [hq] at h; simp at h
  | some d =>
    rw [hq] at h
    cases d <;> first | exact ⟨_, rfl⟩ | simp at h
theorem infoV : (Tryz.prog.info? 147).map (·.size) = some 3 := by kernel_rfl
theorem ldV {ops : Array Oper} {rest : List Oper} {Q : Exit → Act → World → Prop} {a : Act} {w : World} {d : Option Tmp} {s : Tmp} {ty : TypeId} {pos : String} {af : Array Edge} {gd : Option (Nat × Bool)} {g : Nat} {C : Array Value}
    (hw : Region.wanted { dst := d, op := .load 147 (.tmp s), type := ty, pos := pos, after := af, guard := gd } (yielded ops a.tmps) = true) (hx : a.eval (.tmp s) = .pointer (some ⟨g, 0, none⟩)) (hC : Blk w g 147 C) (h2 : C.size = 3)
    (h : wpList Tryz.prog ops Q rest (a.put d (.agg C)) w) : wpList Tryz.prog ops Q ({ dst := d, op := .load 147 (.tmp s), type := ty, pos := pos, after := af, guard := gd } :: rest) a w := by
  refine wpList_run hw ?_ h
  obtain ⟨fs, hu⟩ := undV
  unfold execOp
  simp only [hx, Instr.loadAt, Instr.sureAddr, Sem.run_bind, Sem.run_pure, Result.andThen_ok, run_loadVar_row w g _ 147 C (0, 0) _ hC hu rfl (by rw [infoV, h2])]
theorem Up.frozen {w w' : World} (hu : Up w w') {a : Addr} (h : a.block < w.heap.size) (hf : w.frozen? a = false) : w'.frozen? a = false := by
  rw [World.frozen?_of_block (hu.block a.block h)]; exact hf
theorem Up.cellEq {w w' : World} (hu : Up w w') {a : Addr} {v : Value} (h : w.cell? a = some v) : w'.cell? a = some v := by
  rw [World.cell?_of_block (hu.block a.block (lt_of_cell h))]; exact h
/-- What errors.as leaves behind. -/
def Told (t : Addr) (w : World) (r : Ending) (w' : World) : Option Int → Prop
  | none => r = .returned (.bool false) ∧ Up w w'
  | some m => r = .returned (.bool true) ∧ ∃ w1, Up w w1 ∧ w' = w1.setCell t (.int .i64 m)
set_option maxHeartbeats 8000000 in
theorem as_sz (t p0 : Addr) (old : Value) (k : Nat) : ∀ (e : Er), e.size ≤ k → ∀ (v : Value) (w : World), IsEr w v e → w.cell? p0 = some (.pointer (some t)) → w.cell? t = some old → w.frozen? t = false →
    Calls Tryz.prog 109 #[v, .iface 127 (.pointer (some t)), .agg #[.pointer (some ⟨3, 127, none⟩), .pointer (some p0), .int .u64 150], .iface 171 (.agg #[.pointer (some ⟨3, 80, none⟩)])] w fun r w' => Told t w r w' e.first := by
  induction k with
  | zero => intro e he; cases e <;> simp [Er.size] at he
  | succ k ih =>
    intro e he v w hE hp ht hf
    have h1 := noAsN
    have h2 := noAsF
    have h4 := noUnN
    have h5 := noUsN
    have h6 := hasUnF
    have h9 := mUnF
    have h31 := @run_callFunc_extern Tryz.prog 118 _ ReflectliteType.typeOf Tryz.func118 (by kernel_rfl) (by kernel_rfl) (by kernel_rfl) (by kernel_rfl)
    have h73 := @run_callFunc_extern Tryz.prog 157 _ (ReflectliteType.relation "AssignableTo" ReflectliteType.assignableTo) Tryz.func157 (by kernel_rfl) (by kernel_rfl) (by kernel_rfl) (by kernel_rfl)
    have h35 := @run_callFunc_extern Tryz.prog 119 _ (ReflectliteValue.method (ReflectliteValue.valueError "reflectlite.Value.Elem" 0) ReflectliteValue.elem) Tryz.func119 (by kernel_rfl) (by kernel_rfl) (by kernel_rfl) (by kernel_rfl)
    have h36 := @run_callFunc_extern Tryz.prog 120 _ ReflectliteValue.set Tryz.func120 (by kernel_rfl) (by kernel_rfl) (by kernel_rfl) (by kernel_rfl)
    have h25 := @run_callFunc_extern Tryz.prog 106 _ (fun args => ReflectliteValue.unpack (args.getD 0 (.tuple #[]))) Tryz.func106 (by kernel_rfl) (by kernel_rfl) (by kernel_rfl) (by kernel_rfl)
    have tN := typeOfN2
    have tF := typeOfF
    have aN := assignN
    have aF := assignF
    have mA := mAssignableTo
    have vN := valueOfN
    have IH := hid ih
    have hlp := lt_of_cell hp
    have hlt := lt_of_cell ht
    clear ih
    go_enter Tryz.func109, Tryz.ntmps109
    go_wp2_with fail
    obtain ⟨wb, hwb⟩ : ∃ wb, w.alloc (Obj.cells #[.pointer (some ⟨3, 127, none⟩), .pointer (some p0), .int .u64 150] 147) = wb := ⟨_, rfl⟩
    have hub : Up w wb := by rw [← hwb]; exact Up.alloc _ _
    have hbox : Blk wb w.heap.size 147 #[.pointer (some ⟨3, 127, none⟩), .pointer (some p0), .int .u64 150] := by rw [← hwb]; exact Blk.new _ _ rfl
    rw [hwb]
    clear hwb
    go_loopg [0] (k + 1) (fun g tv wr => ∃ x : Er, x.size ≤ g ∧ x.size ≤ k + 1 ∧ x.first = e.first ∧ IsEr w tv x ∧ wr = wb)
    case atStart => exact ⟨e, he, he, rfl, hE, rfl⟩
    case round =>
      obtain ⟨x, hx1, hx2, hx3, hX, hw0⟩ := hrel
      subst hw0
      have HX3 := hid hx3
      clear hx3 hE he
      cases x with
      | num m =>
        obtain rfl : _ = _ := hX
        have hq := hub.cellEq hp
        have el := elemVP p0 t wr hq
        have st := setN t ⟨wr.heap.size, 0, none⟩ m old (wr.alloc (.cells #[.int .i64 m] 80)) (by simp) ((hub.trans (Up.alloc _ _)).cellEq ht) ((hub.trans (Up.alloc _ _)).frozen hlt hf)
        have HF := hid (show e.first = some m from HX3.out.symm)
        clear hq
        go_wp2_with (first | ((with_reducible apply ldV); exact rfl; exact rfl; exact hbox; exact rfl))
        go_ret
        rw [HF.out]
        exact ⟨rfl, _, hub.trans (Up.alloc _ _), rfl⟩
      | nilf op =>
        obtain ⟨b, rfl, hB⟩ := hX
        have HU := hid (fun (w' : World) (h : Up wr w') => unwrap_flt ((hB.up hub).up h))
        have HF := hid (show e.first = none from HX3.out.symm)
        clear hB
        go_wp2_with (first | (go_at_call 152; (with_reducible refine (HU.out _ (Up.refl _)).mono ?_); rintro r w' ⟨rfl, rfl⟩))
        go_ret
        rw [HF.out]
        exact ⟨rfl, hub⟩
      | flt op y =>
        obtain ⟨b, u, rfl, hB, hY⟩ := hX
        obtain ⟨tu, uu, rfl⟩ := hY.iface
        have HU := hid (fun (w' : World) (h : Up wr w') => unwrap_flt ((hB.up hub).up h))
        have HY := hid hY
        have hs1 : y.size + 1 ≤ gk := hx1
        have hs2 : y.size + 1 ≤ k + 1 := hx2
        have HH := hid (show y.first = e.first from HX3.out)
        clear hY hB
        go_wp2_with (first | (go_at_call 152; (with_reducible refine (HU.out _ (Up.refl _)).mono ?_); rintro r w' ⟨rfl, rfl⟩))
        go_roundg (gk - 1)
        case measure => omega
        case rel => exact ⟨y, by omega, by omega, HH.out, HY.out, rfl⟩
end Go.Proofs.YtdcpoamjmoceiaaGreatDoor
/-
  fault.Is: whether a number is in an error.
-/
namespace Go.Proofs.YtdcpoamjmoceiaaGreatDoor
open Go Go.RowKit
set_option maxRecDepth 100000
set_option maxRecDepth 100000

theorem idle_out (w : World) : CallsD Tryz.prog 104 #[] .returning w fun e u' w' => e = .returned (.tuple #[]) ∧ u' = .returning ∧ w' = w := by
  refine callsD_of_wpS Tryz.func104 rfl fun c₀ cs hu => ?_
  apply wpS_region
  simp [wpOpsS, go_sem, recoverD, hu, Tryz.ntmps104, bodyPostS, results, Tryz.results104]
  cases c₀
  simp_all
end Go.Proofs.YtdcpoamjmoceiaaGreatDoor
/-
  errors.As at a number's address; fault.Code.
-/
namespace Go.Proofs.YtdcpoamjmoceiaaGreatDoor
open Go Go.RowKit Go.Extern.Stop Go.Stop Go.Extern
set_option maxRecDepth 100000

/-- The variable errors.errorType holds the type error. -/
def Glob (w : World) : Prop := w.cell? ⟨0, 0, none⟩ = some (.iface 171 (.agg #[.pointer (some ⟨3, 34, none⟩)]))
set_option maxHeartbeats 4000000 in
theorem as_any {e : Er} {v : Value} {w : World} (t : Addr) (old : Value) (h : IsEr w v e) (hg : Glob w) (ht : w.cell? t = some old) (hf : w.frozen? t = false) :
    Calls Tryz.prog 87 #[v, .iface 127 (.pointer (some t))] w fun r w' => Told t w r w' e.first := by
  obtain ⟨t1, v1, rfl⟩ := h.iface
  obtain ⟨o, ho⟩ : ∃ o, e.first = o := ⟨_, rfl⟩
  rw [ho]
  have h25 := @run_callFunc_extern Tryz.prog 106 _ (fun args => ReflectliteValue.unpack (args.getD 0 (.tuple #[]))) Tryz.func106 (by kernel_rfl) (by kernel_rfl) (by kernel_rfl) (by kernel_rfl)
  have h26 := @run_callFunc_extern Tryz.prog 107 _ (ReflectliteValue.methodAny (ReflectliteValue.valueError "reflectlite.Value.Type" 0) (fun t _ _ _ => ReflectliteType.toType t)) Tryz.func107 (by kernel_rfl) (by kernel_rfl) (by kernel_rfl) (by kernel_rfl)
  have h27 := @run_callFunc_extern Tryz.prog 108 _ (ReflectliteValue.method (ReflectliteValue.valueError "reflectlite.Value.IsNil" 0) ReflectliteValue.isNil) Tryz.func108 (by kernel_rfl) (by kernel_rfl) (by kernel_rfl) (by kernel_rfl)
  have h63 := @run_callFunc_extern Tryz.prog 147 _ (ReflectliteType.abiMethod fun t => do pure (.int .u8 (← Rtype.kind t))) Tryz.func147 (by kernel_rfl) (by kernel_rfl) (by kernel_rfl) (by kernel_rfl)
  have h75 := @run_callFunc_extern Tryz.prog 159 _ (ReflectliteType.method ReflectliteType.elem) Tryz.func159 (by kernel_rfl) (by kernel_rfl) (by kernel_rfl) (by kernel_rfl)
  have h76 := @run_callFunc_extern Tryz.prog 160 _ (ReflectliteType.relation "Implements" ReflectliteType.implements_) Tryz.func160 (by kernel_rfl) (by kernel_rfl) (by kernel_rfl) (by kernel_rfl)
  have f25 := valueOfP
  have f26 := typeP
  have mK := mKind
  have kP := kindP
  have kN := kindN
  have mE := mElem
  have eP := elemP
  have mI := mImplements
  have iN := implementsN
  obtain ⟨w1, hw1⟩ : ∃ w1, (w.alloc (.cells #[.pointer (some t)] 127)).alloc (.cells #[.pointer (some ⟨3, 127, none⟩), .pointer (some ⟨w.heap.size, 0, none⟩), .int .u64 150] 147) = w1 := ⟨_, rfl⟩
  have hu1 : Up w w1 := by rw [← hw1]; exact (Up.alloc _ _).trans (Up.alloc _ _)
  have hp1 : w1.cell? ⟨w.heap.size, 0, none⟩ = some (.pointer (some t)) := by rw [← hw1]; simp
  have n27 := isNilP ⟨w.heap.size, 0, none⟩ t w1 hp1
  have hg1 : w1.cell? ⟨0, 0, none⟩ = some (.iface 171 (.agg #[.pointer (some ⟨3, 34, none⟩)])) := hu1.cellEq hg
  have HS := hid (as_sz t ⟨w.heap.size, 0, none⟩ old e.size e (Nat.le_refl _) _ w1 (h.up hu1) hp1 (hu1.cellEq ht) (hu1.frozen (lt_of_cell ht) hf))
  rw [ho] at HS
  rw [← hw1] at n27 hg1
  have HW := hid hw1
  clear hw1 h hg ht hf hp1 ho
  go_enter Tryz.func87, Tryz.ntmps87
  cases o with
  | none =>
    go_wp2_with fail
    rw [HW.out]
    refine HS.out.mono ?_
    rintro r wF ⟨rfl, hu⟩
    go_wp2_with fail
    go_ret
    exact ⟨rfl, hu1.trans hu⟩
  | some m =>
    go_wp2_with fail
    rw [HW.out]
    refine HS.out.mono ?_
    rintro r wF ⟨rfl, wX, hu, rfl⟩
    go_wp2_with fail
    go_ret
    exact ⟨rfl, wX, hu1.trans hu, rfl⟩
theorem idle_code (p : Addr) (w : World) : CallsD Tryz.prog 86 #[.pointer (some p)] .returning w fun e u' w' => e = .returned (.tuple #[]) ∧ u' = .returning ∧ w' = w := by
  refine callsD_of_wpS Tryz.func86 rfl fun c₀ cs hu => ?_
  apply wpS_seq
  apply wpS_region
  simp [wpOpsS, go_sem, recoverD, hu, Tryz.ntmps86, Exit.thenS]
  refine wpS_cond (t := false) (by simp [Act.eval, Array.replicate]) ?_
  simp only [Bool.false_eq_true, if_false]
  refine wpS_of_wp (wp_skip ?_)
  cases c₀
  simp_all [bodyPostS, results, Tryz.results86]
theorem code_any {e : Er} {v : Value} {w : World} (h : IsEr w v e) (hg : Glob w) :
    Calls Tryz.prog 58 #[v] w fun r w' => r = .returned (.int .i64 (e.first.getD 36)) ∧ Up w w' := by
  obtain ⟨t1, v1, rfl⟩ := h.iface
  have hmf : ∀ (fn : Fn) (first cap : Array Value) (w : World), (Instr.makeFunc fn first cap).run Tryz.prog w = .ok (.func fn first cap) w := fun _ _ _ _ => rfl
  have hu0 : Up w (w.alloc (.cells #[.int .i64 0] 80)) := Up.alloc _ _
  have hB0 : Blk (w.alloc (.cells #[.int .i64 0] 80)) w.heap.size 80 #[.int .i64 0] := Blk.new _ _ rfl
  have HA := hid (as_any ⟨w.heap.size, 0, none⟩ (.int .i64 0) (h.up hu0) (hu0.cellEq hg) (by simp) (by simp))
  obtain ⟨o, ho⟩ : ∃ o, e.first = o := ⟨_, rfl⟩
  rw [ho] at HA ⊢
  clear ho h hg
  cases o with
  | none =>
    go_enter_defers Tryz.func58, Tryz.ntmps58
    go_wp2_with (first | (go_at_call 87; (with_reducible refine (HA.out).mono ?_); rintro r wA ⟨rfl, huA⟩; have hBA := hB0.up huA; have hcA := hBA.cell 0 rfl; have hfA := hBA.frozen 0))
    have hBF := hBA.set 0 (.int .i64 36)
    have hcF := hBF.cell 0 rfl
    have huF := (hu0.trans huA).setCell (p := ⟨w.heap.size, 0, none⟩) (Nat.le_refl _) (.int .i64 36)
    refine leaves_cons (f := 86) (args := #[.pointer (some ⟨w.heap.size, 0, none⟩)]) (by simp) (by simp [go_sem]) ?_
    refine (idle_code _ _).mono ?_
    rintro e u' w'' ⟨rfl, rfl, rfl⟩
    simp [Leaves, settle, results, Tryz.results58, go_sem, hcF]
    exact huF
  | some m =>
    go_enter_defers Tryz.func58, Tryz.ntmps58
    go_wp2_with (first | (go_at_call 87; (with_reducible refine (HA.out).mono ?_); rintro r wA ⟨rfl, wX, huA, rfl⟩; have hBX := (hB0.up huA).set 0 (.int .i64 m); have hcX := hBX.cell 0 rfl; have hfX := hBX.frozen 0))
    have hBF := hBX.set 0 (.int .i64 m)
    have hcF := hBF.cell 0 rfl
    have huF := ((hu0.trans huA).setCell (p := ⟨w.heap.size, 0, none⟩) (Nat.le_refl _) (.int .i64 m)).setCell (p := ⟨w.heap.size, 0, none⟩) (Nat.le_refl _) (.int .i64 m)
    refine leaves_cons (f := 86) (args := #[.pointer (some ⟨w.heap.size, 0, none⟩)]) (by simp) (by simp [go_sem]) ?_
    refine (idle_code _ _).mono ?_
    rintro e u' w'' ⟨rfl, rfl, rfl⟩
    simp [Leaves, settle, results, Tryz.results58, go_sem, hcF]
    exact huF
end Go.Proofs.YtdcpoamjmoceiaaGreatDoor
/-
  Symmetric matrices: slices of whole numbers, matrices in memory; where entries stand.
-/
namespace Go.Proofs.YtdcpoamjmoceiaaGreatDoor
open Go Go.RowKit
set_option maxRecDepth 100000
set_option maxRecDepth 100000

def zth (l : List Int) (i : Nat) : Int := l.getD i 0
theorem zth_get {l : List Int} {i : Nat} (h : i < l.length) : zth l i = l[i] := by
  unfold zth; rw [List.getD_eq_getElem?_getD, List.getElem?_eq_getElem h]; rfl
/-- The value v is a slice of the numbers l, in world w. -/
def Vw (w : World) (v : Value) (l : List Int) : Prop :=
  ∃ p cap, v = .slice p l.length cap ∧ (l.length ≤ cap ∧ (p = none → cap = 0)) ∧ ∀ i, i < l.length → ∃ a, p = some a ∧ w.cell? (a.add i) = some (.int .i64 (zth l i))
theorem Vw.up {w w' : World} (hu : Up w w') {v : Value} {l : List Int} (h : Vw w v l) : Vw w' v l := by
  obtain ⟨p, cap, e, hcap, hc⟩ := h
  refine ⟨p, cap, e, hcap, fun i hi => ?_⟩
  obtain ⟨a, ha, h1⟩ := hc i hi
  exact ⟨a, ha, hu.cellEq h1⟩
def I64 (z : Int) : Prop := -9223372036854775808 ≤ z ∧ z < 9223372036854775808
def In64 (l : List Int) : Prop := ∀ i, i < l.length → I64 (zth l i)
/-- The value v is the matrix of N rows with the entries l, in world w. -/
def Sm (w : World) (v : Value) (N : Int) (l : List Int) : Prop :=
  ∃ s, v = .agg #[.int .i64 N, s] ∧ Vw w s l ∧ I64 N ∧ In64 l ∧ l.length ≤ 1000
theorem Sm.up {w w' : World} (hu : Up w w') {v : Value} {N : Int} {l : List Int} (h : Sm w v N l) : Sm w' v N l := by
  obtain ⟨s, e, h1, h2⟩ := h
  exact ⟨s, e, h1.up hu, h2⟩
def tri (n : Int) : Int := n * (n + 1) / 2
def idx (n i j : Int) : Int := tri n - tri (n - min i j) + max i j - min i j
theorem nine {n : Int} (h0 : 0 ≤ n) (h8 : n ≤ 8) : n = 0 ∨ n = 1 ∨ n = 2 ∨ n = 3 ∨ n = 4 ∨ n = 5 ∨ n = 6 ∨ n = 7 ∨ n = 8 := by omega
theorem tri_le {n : Int} (h0 : 0 ≤ n) (h8 : n ≤ 8) : 0 ≤ tri n ∧ tri n ≤ 36 := by
  rcases nine h0 h8 with rfl | rfl | rfl | rfl | rfl | rfl | rfl | rfl | rfl <;> decide
theorem tri_mul {n : Int} (h0 : 0 ≤ n) (h8 : n ≤ 8) : 0 ≤ n * (n + 1) ∧ n * (n + 1) ≤ 72 := by
  rcases nine h0 h8 with rfl | rfl | rfl | rfl | rfl | rfl | rfl | rfl | rfl <;> decide
theorem entries_any (n : Int) (h0 : 0 ≤ n) (h8 : n ≤ 8) (w : World) :
    Calls Tryz.prog 73 #[.int .i64 n] w fun e w' => e = .returned (.int .i64 (tri n)) ∧ w' = w := by
  have ⟨m1, m2⟩ := tri_mul h0 h8
  obtain ⟨p, hp⟩ : ∃ p, n * (n + 1) = p := ⟨_, rfl⟩
  have ht : tri n = p / 2 := by unfold tri; rw [hp]
  rw [ht]
  have hm : IntKind.i64.wrap (n * (n + 1)) = p := by rw [hp]; rw [hp] at m1 m2; exact IntWalk.i64_in _ (by omega)
  rw [hp] at m1 m2
  clear ht hp
  go_enter Tryz.func73, Tryz.ntmps73
  go_wp2
  go_ret
  exact ⟨rfl, rfl⟩
theorem hasrow_any {v : Value} {N : Int} {l : List Int} (i : Int) {w : World} (h : Sm w v N l) :
    Calls Tryz.prog 74 #[v, .int .i64 i] w fun e w' => e = .returned (.bool (decide (0 ≤ i ∧ i < N))) ∧ Up w w' := by
  obtain ⟨s, rfl, _, _⟩ := h
  by_cases h1 : 0 ≤ i
  · by_cases h2 : i < N
    · rw [show decide (0 ≤ i ∧ i < N) = true from decide_eq_true ⟨h1, h2⟩]
      go_enter Tryz.func74, Tryz.ntmps74
      go_wp2
      go_ret
      exact ⟨rfl, Up.alloc _ _⟩
    · rw [show decide (0 ≤ i ∧ i < N) = false from decide_eq_false (by omega)]
      go_enter Tryz.func74, Tryz.ntmps74
      go_wp2
      go_ret
      exact ⟨rfl, Up.alloc _ _⟩
  · rw [show decide (0 ≤ i ∧ i < N) = false from decide_eq_false (by omega)]
    go_enter Tryz.func74, Tryz.ntmps74
    go_wp2
    go_ret
    exact ⟨rfl, Up.alloc _ _⟩
def fit (v : Int) : Bool := decide (-1073741824 ≤ v ∧ v ≤ 1073741824)
theorem fits_any (v : Int) (h : I64 v) (w : World) :
    Calls Tryz.prog 50 #[.int .i64 v] w fun e w' => e = .returned (.bool (fit v)) ∧ Up w w' := by
  have HA := hid (fx_amount v h.1 h.2)
  unfold I64 at h
  by_cases h1 : v.natAbs < 9223372036854775808
  · have HA := hid (fun w => fx_amount v h.1 h.2 w)
    rw [i64V_yes (by omega)] at HA
    by_cases h2 : v.natAbs ≤ 1073741824
    · rw [show fit v = true from decide_eq_true (by omega)]
      have d : decide (((v.natAbs : Nat) : Int) ≤ 1073741824) = true := decide_eq_true (by omega)
      clear h
      generalize v.natAbs = n at *
      go_enter Tryz.func50, Tryz.ntmps50
      go_wp2_with (first | (go_at_call 78; refine (HA.out _).mono ?_; rintro e w' ⟨rfl, hu⟩))
      go_ret
      exact ⟨rfl, (by repeat (first | assumption | (with_reducible apply Up.of) | (with_reducible exact Below.refl _ _) | (with_reducible exact Up.refl _) | ((with_reducible apply bl_setRow); (focus (first | exact Nat.le_refl _ | (simp; done) | (simp; omega) | omega))) | (with_reducible apply below_drewN) | (with_reducible apply Below.drew) | ((with_reducible apply bl_alloc); (focus (first | exact Nat.le_refl _ | (simp; done) | (simp; omega) | omega))) | ((with_reducible apply bl_setCell); (focus (first | exact Nat.le_refl _ | (simp; done) | (simp; omega) | omega))) | ((with_reducible apply up_tr); assumption)))⟩
    · rw [show fit v = false from decide_eq_false (by omega)]
      have d : decide (((v.natAbs : Nat) : Int) ≤ 1073741824) = false := decide_eq_false (by omega)
      clear h
      generalize v.natAbs = n at *
      go_enter Tryz.func50, Tryz.ntmps50
      go_wp2_with (first | (go_at_call 78; refine (HA.out _).mono ?_; rintro e w' ⟨rfl, hu⟩))
      go_ret
      exact ⟨rfl, (by repeat (first | assumption | (with_reducible apply Up.of) | (with_reducible exact Below.refl _ _) | (with_reducible exact Up.refl _) | ((with_reducible apply bl_setRow); (focus (first | exact Nat.le_refl _ | (simp; done) | (simp; omega) | omega))) | (with_reducible apply below_drewN) | (with_reducible apply Below.drew) | ((with_reducible apply bl_alloc); (focus (first | exact Nat.le_refl _ | (simp; done) | (simp; omega) | omega))) | ((with_reducible apply bl_setCell); (focus (first | exact Nat.le_refl _ | (simp; done) | (simp; omega) | omega))) | ((with_reducible apply up_tr); assumption)))⟩
  · have HA := hid (fun w => fx_amount v h.1 h.2 w)
    rw [i64V_no (by omega)] at HA
    rw [show fit v = false from decide_eq_false (by omega)]
    clear h h1
    go_enter Tryz.func50, Tryz.ntmps50
    go_wp2_with (first | (go_at_call 78; refine (HA.out _).mono ?_; rintro e w' ⟨rfl, hu⟩))
    go_ret
    exact ⟨rfl, (by repeat (first | assumption | (with_reducible apply Up.of) | (with_reducible exact Below.refl _ _) | (with_reducible exact Up.refl _) | ((with_reducible apply bl_setRow); (focus (first | exact Nat.le_refl _ | (simp; done) | (simp; omega) | omega))) | (with_reducible apply below_drewN) | (with_reducible apply Below.drew) | ((with_reducible apply bl_alloc); (focus (first | exact Nat.le_refl _ | (simp; done) | (simp; omega) | omega))) | ((with_reducible apply bl_setCell); (focus (first | exact Nat.le_refl _ | (simp; done) | (simp; omega) | omega))) | ((with_reducible apply up_tr); assumption)))⟩
/-- Is it right? -/
def rt (N : Int) (l : List Int) : Bool := decide (0 ≤ N ∧ N ≤ 8 ∧ (l.length : Int) = tri N) && l.all fit
theorem rt_no {N : Int} {l : List Int} (h : ¬ (0 ≤ N ∧ N ≤ 8 ∧ (l.length : Int) = tri N)) : rt N l = false := by unfold rt; rw [decide_eq_false h]; rfl
theorem rt_yes {N : Int} {l : List Int} (h : 0 ≤ N ∧ N ≤ 8 ∧ (l.length : Int) = tri N) : rt N l = l.all fit := by unfold rt; rw [decide_eq_true h]; rfl
theorem all_no {l : List Int} {k : Nat} (hk : k < l.length) (h : fit (zth l k) = false) : l.all fit = false := by
  rw [zth_get hk] at h
  rw [List.all_eq_false]
  exact ⟨l[k], List.getElem_mem hk, by rw [h]; decide⟩
theorem all_yes {l : List Int} (h : ∀ k, k < l.length → fit (zth l k) = true) : l.all fit = true := by
  rw [List.all_eq_true]
  intro x hx
  obtain ⟨k, hk, rfl⟩ := List.getElem_of_mem hx
  rw [← zth_get hk]
  exact h k hk
theorem up_alloc_drewN (w : World) (o : Obj) (n : Nat) : Up w ((w.alloc o).drewN n) := below_drewN (Up.alloc w o) n
set_option maxHeartbeats 2000000 in
theorem sright_any {v : Value} {N : Int} {l : List Int} {w : World} (h : Sm w v N l) :
    Calls Tryz.prog 42 #[v] w fun e w' => e = .returned (.bool (rt N l)) ∧ Up w w' := by
  obtain ⟨s, rfl, ⟨p, cap, rfl, hcap, hc⟩, hN, hl, hlen⟩ := h
  unfold I64 at hN
  by_cases hb : 0 ≤ N ∧ N ≤ 8
  · obtain ⟨b1, b2⟩ := hb
    have d1 : decide (N < 0) = false := decide_eq_false (by omega)
    have d2 : decide (8 < N) = false := decide_eq_false (by omega)
    have HE := hid (fun w => entries_any N b1 b2 w)
    by_cases hT : (l.length : Int) = tri N
    · have hR := rt_yes ⟨b1, b2, hT⟩
      have d3 : ((l.length : Int) != tri N) = false := by rw [hT]; simp
      generalize tri N = T at *
      have HL := hid hl
      have HC := hid (fun w' (hu : Up w w') (i : Nat) (hi : i < l.length) => (show ∃ a, p = some a ∧ w'.cell? (a.add i) = some (.int .i64 (zth l i)) from by obtain ⟨a, h1, h2⟩ := hc i hi; exact ⟨a, h1, hu.cellEq h2⟩))
      rw [hR]
      obtain ⟨n, hn⟩ : ∃ n, l.length = n := ⟨_, rfl⟩
      have HN := hid hn
      rw [hn] at d3 HC hlen ⊢
      clear hR hl hc hT hcap hn
      go_enter Tryz.func42, Tryz.ntmps42
      go_wp2_with fail
      go_quiet ((go_at_call 73; exact Calls.quiet_of_same (HE.out _)))
      go_wp2_with fail
      go_loopg [25] n (fun g ti wr => ∃ k : Nat, k ≤ n ∧ n - k ≤ g ∧ ti = .int .i64 (k : Nat) ∧ Up w wr ∧ Hid (∀ j, j < k → fit (zth l j) = true))
      case atStart => exact ⟨0, Nat.zero_le _, Nat.le_refl _, rfl, up_alloc_drewN _ _ _, hid (fun j hj => absurd hj (Nat.not_lt_zero _))⟩
      case round =>
        clear d1 d2 d3
        obtain ⟨k, hk, hkg, rfl, hu, HA⟩ := hrel
        by_cases hlt : k < n
        · have e1 : IntKind.i64.wrap ((k : Int) + 1) = (k : Int) + 1 := IntWalk.i64_in _ (by omega)
          obtain ⟨a, rfl, hcell⟩ := HC.out _ hu k hlt
          have HF := hid (fun w => fits_any (zth l k) (HL.out k (by rw [HN.out]; exact hlt)) w)
          cases hf : fit (zth l k) with
          | true =>
            rw [hf] at HF
            have Hf := hid hf
            clear hf
            go_wp2_with (first | (go_at_call 50; refine (HF.out _).mono ?_; rintro e w' ⟨rfl, hu9⟩))
            go_roundg (n - (k + 1))
            case measure => omega
            case rel => exact ⟨k + 1, by omega, Nat.le_refl _, rfl, hu.trans hu9, hid (fun j hj => by rcases Nat.lt_succ_iff_lt_or_eq.1 hj with h | h; exact HA.out j h; rw [h]; exact Hf.out)⟩
          | false =>
            rw [hf] at HF
            have Hf := hid hf
            clear hf
            go_wp2_with (first | (go_at_call 50; refine (HF.out _).mono ?_; rintro e w' ⟨rfl, hu9⟩))
            go_ret
            exact ⟨by rw [all_no (by rw [HN.out]; exact hlt) Hf.out]; rfl, hu.trans hu9⟩
        · obtain rfl : k = n := by omega
          have HX := hid (all_yes (by rw [HN.out]; exact HA.out))
          clear hlt hk
          go_wp2_with fail
          go_ret
          exact ⟨by rw [HX.out]; rfl, hu⟩
    · rw [rt_no (fun h => hT h.2.2)]
      have d3 : ((l.length : Int) != tri N) = true := by simpa using hT
      generalize tri N = T at *
      clear hT hl hc
      go_enter Tryz.func42, Tryz.ntmps42
      go_wp2_with fail
      go_quiet ((go_at_call 73; exact Calls.quiet_of_same (HE.out _)))
      go_wp2_with fail
      go_ret
      exact ⟨rfl, up_alloc_drewN _ _ _⟩
  · rw [rt_no (fun h => hb ⟨h.1, h.2.1⟩)]
    by_cases h0 : N < 0
    · have d1 : decide (N < 0) = true := decide_eq_true h0
      clear hb hl hc
      go_enter Tryz.func42, Tryz.ntmps42
      go_wp2_with fail
      go_quiet (fail)
      go_wp2_with fail
      go_ret
      exact ⟨rfl, up_alloc_drewN _ _ _⟩
    · have d1 : decide (N < 0) = false := decide_eq_false h0
      have d2 : decide (8 < N) = true := decide_eq_true (by omega)
      clear hb hl hc
      go_enter Tryz.func42, Tryz.ntmps42
      go_wp2_with fail
      go_quiet (fail)
      go_wp2_with fail
      go_ret
      exact ⟨rfl, up_alloc_drewN _ _ _⟩
end Go.Proofs.YtdcpoamjmoceiaaGreatDoor
/-
  fault.Ops: the first fault of an error.
-/
namespace Go.Proofs.YtdcpoamjmoceiaaGreatDoor
open Go Go.RowKit
set_option maxRecDepth 100000
set_option maxRecDepth 100000

theorem noSevN (v : Value) (xT : TypeId) (w : World) : (Instr.typeAssert (.iface 80 v) xT 166 true).run Tryz.prog w = .ok (.tuple #[.nilIface, .bool false]) w := run_typeAssert_lacksB Tryz.underlying166 (by kernel_rfl) (by kernel_rfl) v xT w
theorem isF (v : Value) (w : World) : (Instr.typeAssert (.iface 122 v) 34 122 true).run Tryz.prog w = .ok (.tuple #[v, .bool true]) w := by kernel_rfl
theorem notFN (v : Value) (w : World) : (Instr.typeAssert (.iface 80 v) 34 122 true).run Tryz.prog w = .ok (.tuple #[.pointer none, .bool false]) w := by kernel_rfl
theorem first_num (n : Int) (w : World) : Calls Tryz.prog 105 #[.iface 80 (.int .i64 n)] w fun r w' => r = .returned .nilIface ∧ w' = w := by
  have h1 := noSevN
  go_enter Tryz.func105, Tryz.ntmps105
  go_wp2
  go_ret
  exact ⟨rfl, rfl⟩
/-- The pointer p is the first fault of what has the Ops l. -/
def Out (w : World) (p : Value) : List ByteArray → Prop
  | [] => p = .pointer none
  | op :: l => ∃ b u, p = .pointer (some ⟨b, 0, none⟩) ∧ Blk w b 125 #[.string op, u] ∧ ((u = .nilIface ∧ l = []) ∨ ∃ e, IsEr w u e ∧ e.ops = l)
theorem Out.up {w w' : World} {p : Value} {l : List ByteArray} (hu : Up w w') (h : Out w p l) : Out w' p l := by
  cases l with
  | nil => exact h
  | cons op l =>
    obtain ⟨b, u, h1, h2, h3⟩ := h
    refine ⟨b, u, h1, h2.up hu, ?_⟩
    rcases h3 with h3 | ⟨e, h3, h4⟩
    · exact .inl h3
    · exact .inr ⟨e, h3.up hu, h4⟩
set_option maxHeartbeats 4000000 in
theorem out_any {e : Er} {v : Value} {w0 w : World} (h : IsEr w0 v e) (_hu0 : Up w0 w) :
    Calls Tryz.prog 85 #[v] w fun r w' => ∃ p, r = .returned p ∧ Up w w' ∧ Out w0 p e.ops := by
  obtain ⟨l, hl⟩ : ∃ l, e.ops = l := ⟨_, rfl⟩
  have HL := hid hl
  rw [hl]
  clear hl
  go_enter_defers Tryz.func85, Tryz.ntmps85
  go_wp2_with fail
  go_loopg [0] (e.size + 1) (fun g tv wr => ((tv = .nilIface ∧ l = []) ∨ (∃ t u x, tv = .iface t u ∧ Er.size x + 1 ≤ g ∧ x.ops = l ∧ IsEr w0 (.iface t u) x)) ∧ Up w wr)
  case atStart =>
    obtain ⟨t, u, rfl⟩ := h.iface
    exact ⟨.inr ⟨t, u, e, rfl, Nat.le_refl _, HL.out, h⟩, Up.refl _⟩
  case round =>
    clear HL h
    obtain ⟨h1 | ⟨t, u, x, rfl, hx, hxl, hX⟩, hu⟩ := hrel
    · obtain ⟨rfl, rfl⟩ := h1
      go_wp2_with fail
      refine leaves_cons (f := 104) (args := #[]) (by simp) (by simp [go_sem]) ?_
      refine (idle_out _).mono ?_
      rintro e u' w'' ⟨rfl, rfl, rfl⟩
      exact ⟨_, results_tmp rfl _ _ _, _, rfl, hu, (by simp [Out])⟩
    · have hF := isF
      have hN := notFN
      cases x with
      | num n =>
        obtain ⟨rfl, rfl⟩ : t = _ ∧ u = _ := by simpa [IsEr] using hX
        have hnil : [] = l := hxl
        subst hnil
        go_wp2_with (first | (go_at_call 105; (with_reducible refine (first_num _ _).mono ?_); rintro r w' ⟨rfl, rfl⟩))
        go_roundg 0
        case measure => omega
        case rel => exact ⟨.inl (by simp), hu⟩
      | nilf op =>
        obtain ⟨b, hv, hB⟩ := hX
        obtain ⟨rfl, rfl⟩ : t = _ ∧ u = _ := by simpa using hv
        have hl : [op] = l := hxl
        have HL := hid hl
        clear hl hxl hv
        go_wp2_with fail
        refine leaves_cons (f := 104) (args := #[]) (by simp) (by simp [go_sem]) ?_
        refine (idle_out _).mono ?_
        rintro e u' w'' ⟨rfl, rfl, rfl⟩
        exact ⟨_, results_tmp rfl _ _ _, _, rfl, hu, HL.out ▸ ⟨b, .nilIface, rfl, hB, .inl ⟨rfl, rfl⟩⟩⟩
      | flt op y =>
        obtain ⟨b, uu, hv, hB, hY⟩ := hX
        obtain ⟨rfl, rfl⟩ : t = _ ∧ u = _ := by simpa using hv
        have hl : op :: y.ops = l := hxl
        have HL := hid hl
        have HY := hid hY
        clear hl hxl hv hY
        go_wp2_with fail
        refine leaves_cons (f := 104) (args := #[]) (by simp) (by simp [go_sem]) ?_
        refine (idle_out _).mono ?_
        rintro e u' w'' ⟨rfl, rfl, rfl⟩
        exact ⟨_, results_tmp rfl _ _ _, _, rfl, hu, HL.out ▸ ⟨b, uu, rfl, hB, .inr ⟨y, HY.out, rfl⟩⟩⟩
theorem out_nil (w : World) :
    Calls Tryz.prog 85 #[.nilIface] w fun r w' => r = .returned (.pointer none) ∧ Up w w' := by
  go_enter_defers Tryz.func85, Tryz.ntmps85
  go_wp2_with fail
  refine wp_loop_rounds 1 ?_
  rw [rounds_succ]
  go_wp2_with fail
  refine leaves_cons (f := 104) (args := #[]) (by simp) (by simp [go_sem]) ?_
  refine (idle_out _).mono ?_
  rintro e u' w'' ⟨rfl, rfl, rfl⟩
  exact ⟨_, results_tmp rfl _ _ _, rfl, Up.refl _⟩
end Go.Proofs.YtdcpoamjmoceiaaGreatDoor
/-
  fault.Ops: the Ops of the faults that wrap one another, outermost first.
-/
namespace Go.Proofs.YtdcpoamjmoceiaaGreatDoor
open Go Go.RowKit
set_option maxRecDepth 100000
set_option maxRecDepth 100000

theorem undSS : Tryz.prog.underlying 93 = some (.slice 9) := by kernel_rfl
theorem infoStr : (Tryz.prog.info? 9).map (fun i => (i.zero, i.size, i.bytes)) = some (some (.string { data := #[] }), 1, 16) := by kernel_rfl
theorem appSP {ops : Array Oper} {rest : List Oper} {Q : Exit → Act → World → Prop} {a : Act} {w : World} {d : Option Tmp} {s u : Tmp} {ty : TypeId} {pos : String} {af : Array Edge} {b n base : Nat} {v : Value} {xs : List Value} {op : ByteArray}
    (hs : a.eval (.tmp s) = v) (hu : a.eval (.tmp u) = .slice (some ⟨b, 0, none⟩) 1 1) (hB : w.cell? ⟨b, 0, none⟩ = some (.string op)) (hown : w.ownsRow base 9 1 v n xs) (hbase : base ≤ w.heap.size) (hn : n < 1000000)
    (h : ∀ v' w', w'.ownsRow base 9 1 v' (n + 1) (xs ++ [.string op]) → Below base w w' → wpList Tryz.prog ops Q rest (a.put d v') w') :
    wpList Tryz.prog ops Q ({ dst := d, op := .call { callee := .builtin .append, args := #[.tmp s, .tmp u], argTypes := #[93, 93] }, type := ty, pos := pos, after := af, guard := none } :: rest) a w := by
  obtain ⟨i0, hi0, he⟩ := Option.map_eq_some_iff.1 infoStr
  simp only [Prod.mk.injEq] at he
  have hlt := hown.lt
  refine wpList_append_own w rfl _ _ 93 rfl base 9 i0 (.string { data := #[] }) 1 16 undSS hi0 he.1 he.2.1 he.2.2 rfl (by decide) v n xs hs hown ⟨b, 0, none⟩ 1 1 [.string op] hu rfl ?_ ?_ (by unfold maxLen; omega) (by omega) hbase ?_
  · intro j x hj
    cases j with
    | zero => simp only [List.getElem?_cons_zero, Option.some.injEq] at hj; subst hj; exact hB
    | succ j => simp at hj
  · intro x hx; simp at hx; subst hx; rfl
  · intro v' w' h1 h2 _
    refine h v' w' h1 ⟨h2.os, h2.tape, h2.output, h2.size, fun k hk => h2.block k (by omega) ?_⟩
    intro e
    have := hlt k e.symm
    omega
theorem _root_.Go.World.ownsRow.up {w w' : World} {base : Nat} {e : TypeId} {size : Nat} {v : Value} {n : Nat} {xs : List Value} (h : w.ownsRow base e size v n xs) (hu : Up w w') : w'.ownsRow base e size v n xs := by
  refine ⟨h.1, ?_⟩
  rcases h.2 with h2 | ⟨g, cap, cur, h1, h2, h3, h4⟩
  · exact .inl h2
  · exact .inr ⟨g, cap, cur, h1, h2, hu.row h3, h4⟩
set_option maxHeartbeats 4000000 in
theorem ops_any {e : Er} {v : Value} {w : World} (h : IsEr w v e) (hn : e.ops.length < 1000000) :
    Calls Tryz.prog 57 #[v] w fun r w' => ∃ s, r = .returned s ∧ Up w w' ∧ w'.ownsRow w.heap.size 9 1 s e.ops.length (e.ops.map Value.string) := by
  have HO := hid (fun w' (hu : Up w w') => out_any h hu)
  obtain ⟨l, hl⟩ : ∃ l, e.ops = l := ⟨_, rfl⟩
  rw [hl] at HO hn ⊢
  clear h hl
  go_enter Tryz.func57, Tryz.ntmps57
  go_wp2_with (first | (go_at_call 85; (with_reducible refine (HO.out _ (Up.refl _)).mono ?_); rintro r wA ⟨p, rfl, huA, hA⟩))
  go_loopg [3, 4] l.length (fun k ts tp wr => ∃ d r : List ByteArray, d ++ r = l ∧ r.length ≤ k ∧ wr.ownsRow w.heap.size 9 1 ts d.length (d.map Value.string) ∧ Out w tp r ∧ Up w wr)
  case atStart => exact ⟨[], l, rfl, Nat.le_refl _, World.ownsRow_nil _ _ _ _, hA, huA⟩
  case round =>
    clear hA huA
    obtain ⟨d, r, hdr, hrk, hown, hO, hu⟩ := hrel
    cases r with
    | nil =>
      simp only [Out] at hO
      subst hO
      rw [List.append_nil] at hdr
      subst hdr
      have HW := hid hown
      clear hown
      go_wp2_with fail
      go_ret
      exact ⟨_, rfl, hu, HW.out⟩
    | cons op r =>
      obtain ⟨b, u, rfl, hB, h3⟩ := hO
      have hsz := hu.size
      have hc0 := (hB.up hu).cell 0 rfl
      have hdl : d.length + (r.length + 1) = l.length := by rw [← hdr]; simp
      have hr1 : r.length + 1 ≤ gk := hrk
      have HDR := hid (show (d ++ [op]) ++ r = l by rw [← hdr]; simp)
      clear hdr hrk
      rcases h3 with ⟨rfl, rfl⟩ | ⟨x, hx, rfl⟩
      · go_wp2_with (first | ((with_reducible apply appSP (op := op)); exact rfl; exact rfl; (focus (simp; done)); exact hown.alloc _; (focus (simp; omega)); omega; rintro v' w' h1 h2; have hu2 : Up w w' := Below.trans (hu.trans (Up.alloc _ _)) h2; have hc1 := (hB.up hu2).cell 1 rfl) | (go_at_call 85; (with_reducible refine (out_nil _).mono ?_); rintro r wB ⟨rfl, huB⟩))
        go_roundg 0
        case measure => omega
        case rel => exact ⟨d ++ [op], [], HDR.out, Nat.le_refl _, by simpa using h1.up huB, rfl, hu2.trans huB⟩
      · have HO2 := hid (fun w' (hu : Up w w') => out_any hx hu)
        go_wp2_with (first | ((with_reducible apply appSP (op := op)); exact rfl; exact rfl; (focus (simp; done)); exact hown.alloc _; (focus (simp; omega)); omega; rintro v' w' h1 h2; have hu2 : Up w w' := Below.trans (hu.trans (Up.alloc _ _)) h2; have hc1 := (hB.up hu2).cell 1 rfl) | (go_at_call 85; (with_reducible refine (HO2.out _ hu2).mono ?_); rintro r wB ⟨p, rfl, huB, hOB⟩))
        go_roundg x.ops.length
        case measure => omega
        case rel => exact ⟨d ++ [op], x.ops, HDR.out, Nat.le_refl _, by simpa using h1.up huB, hOB, hu2.trans huB⟩
end Go.Proofs.YtdcpoamjmoceiaaGreatDoor
/-
  Symmetric matrices: right ones by the reference; where entries stand; errors; a list that is copied.
-/
namespace Go.Proofs.YtdcpoamjmoceiaaGreatDoor
open Go Go.RowKit
set_option maxRecDepth 100000
set_option maxRecDepth 100000

theorem tri_def (n : Int) : tri n = n * (n + 1) / 2 := rfl
set_option maxHeartbeats 2000000 in
theorem rright_any {v : Value} {N : Int} {l : List Int} {w : World} (h : Sm w v N l) :
    Calls Tryz.prog 26 #[v] w fun e w' => e = .returned (.bool (rt N l)) ∧ Up w w' := by
  obtain ⟨s, rfl, ⟨p, cap, rfl, hcap, hc⟩, hN, hl, hlen⟩ := h
  unfold I64 at hN
  by_cases hb : 0 ≤ N ∧ N ≤ 8
  · obtain ⟨b1, b2⟩ := hb
    have d1 : decide (N < 0) = false := decide_eq_false (by omega)
    have d2 : decide (8 < N) = false := decide_eq_false (by omega)
    have ⟨m1, m2⟩ := tri_mul b1 b2
    obtain ⟨T2, hT2⟩ : ∃ p, N * (N + 1) = p := ⟨_, rfl⟩
    have hm : IntKind.i64.wrap (N * (N + 1)) = T2 := by rw [hT2]; rw [hT2] at m1 m2; exact IntWalk.i64_in _ (by omega)
    have htr := tri_def N
    rw [hT2] at m1 m2 htr
    by_cases hT : (l.length : Int) = T2 / 2
    · have hR := rt_yes ⟨b1, b2, by rw [htr]; exact hT⟩
      have d3 : ((l.length : Int) != T2 / 2) = false := by rw [hT]; simp
      have HL := hid hl
      have HC := hid (fun w' (hu : Up w w') (i : Nat) (hi : i < l.length) => (show ∃ a, p = some a ∧ w'.cell? (a.add i) = some (.int .i64 (zth l i)) from by obtain ⟨a, h1, h2⟩ := hc i hi; exact ⟨a, h1, hu.cellEq h2⟩))
      rw [hR]
      obtain ⟨n, hn⟩ : ∃ n, l.length = n := ⟨_, rfl⟩
      have HN := hid hn
      rw [hn] at d3 HC hlen ⊢
      clear hR hl hc hT hcap hn hT2 htr
      go_enter Tryz.func26, Tryz.ntmps26
      go_wp2_with fail
      go_loop [3] (fun ti => ∃ k : Nat, k ≤ n ∧ ti = .int .i64 (k : Nat) ∧ Hid (∀ j, j < k → fit (zth l j) = true)) (fun ti => n - (intOf ti).toNat)
      case atStart => exact ⟨0, Nat.zero_le _, rfl, hid (fun j hj => absurd hj (Nat.not_lt_zero _))⟩
      case round =>
        clear d1 d2 d3 hm
        obtain ⟨k, hk, rfl, HA⟩ := hrel
        by_cases hlt : k < n
        · have e1 : IntKind.i64.wrap ((k : Int) + 1) = (k : Int) + 1 := IntWalk.i64_in _ (by omega)
          obtain ⟨a, rfl, hcell⟩ := HC.out _ (Up.alloc w (.cells #[.int .i64 N, .slice p n cap] 24)) k hlt
          cases hf : fit (zth l k) with
          | true =>
            have Hf := hid hf
            have ⟨f1, f2⟩ := of_decide_eq_true hf
            have q1 : decide (1073741824 < zth l k) = false := decide_eq_false (by omega)
            have q2 : decide (zth l k < -1073741824) = false := decide_eq_false (by omega)
            clear hf f1 f2
            go_wp2_with fail
            go_round
            case measure => simp [intOf]; omega
            case rel => exact ⟨k + 1, by omega, by go_num, hid (fun j hj => by rcases Nat.lt_succ_iff_lt_or_eq.1 hj with h | h; exact HA.out j h; rw [h]; exact Hf.out)⟩
          | false =>
            have Hf := hid (all_no (by rw [HN.out]; exact hlt) hf)
            have f1 := of_decide_eq_false hf
            clear hf
            by_cases q : 1073741824 < zth l k
            · have q1 : decide (1073741824 < zth l k) = true := decide_eq_true q
              clear f1
              go_wp2_with fail
              go_ret
              exact ⟨by rw [Hf.out]; rfl, Up.alloc _ _⟩
            · have q1 : decide (1073741824 < zth l k) = false := decide_eq_false q
              have q2 : decide (zth l k < -1073741824) = true := decide_eq_true (by omega)
              clear f1
              go_wp2_with fail
              go_ret
              exact ⟨by rw [Hf.out]; rfl, Up.alloc _ _⟩
        · obtain rfl : k = n := by omega
          have HX := hid (all_yes (by rw [HN.out]; exact HA.out))
          clear hlt hk
          go_wp2_with fail
          go_ret
          exact ⟨by rw [HX.out]; rfl, Up.alloc _ _⟩
    · rw [rt_no (fun h => hT (by rw [← htr]; exact h.2.2))]
      have d3 : ((l.length : Int) != T2 / 2) = true := by simpa using hT
      clear hT hl hc htr hT2
      go_enter Tryz.func26, Tryz.ntmps26
      go_wp2_with fail
      go_ret
      exact ⟨rfl, Up.alloc _ _⟩
  · rw [rt_no (fun h => hb ⟨h.1, h.2.1⟩)]
    by_cases h0 : N < 0
    · have d1 : decide (N < 0) = true := decide_eq_true h0
      clear hb hl hc
      go_enter Tryz.func26, Tryz.ntmps26
      go_wp2_with fail
      go_ret
      exact ⟨rfl, Up.alloc _ _⟩
    · have d1 : decide (N < 0) = false := decide_eq_false h0
      have d2 : decide (8 < N) = true := decide_eq_true (by omega)
      clear hb hl hc
      go_enter Tryz.func26, Tryz.ntmps26
      go_wp2_with fail
      go_ret
      exact ⟨rfl, Up.alloc _ _⟩
theorem tri_ge {n : Int} (h0 : 0 ≤ n) (h8 : n ≤ 8) : n ≤ tri n := by
  rcases nine h0 h8 with rfl | rfl | rfl | rfl | rfl | rfl | rfl | rfl | rfl <;> decide
theorem tri_mono {m n : Int} (h0 : 0 ≤ m) (h : m ≤ n) (h8 : n ≤ 8) : tri m ≤ tri n := by
  rcases nine (by omega : 0 ≤ n) h8 with rfl | rfl | rfl | rfl | rfl | rfl | rfl | rfl | rfl <;> rcases nine h0 (by omega) with rfl | rfl | rfl | rfl | rfl | rfl | rfl | rfl | rfl <;> first | decide | omega
theorem idx_in {n i j : Int} (h8 : n ≤ 8) (i0 : 0 ≤ i) (i1 : i < n) (j0 : 0 ≤ j) (j1 : j < n) : 0 ≤ idx n i j ∧ idx n i j < tri n := by
  have a := tri_ge (n := n - min i j) (by omega) (by omega)
  have b := tri_mono (m := n - min i j) (n := n) (by omega) (by omega) h8
  unfold idx
  omega
theorem idx_at {n i : Int} (h8 : n ≤ 8) (i0 : 0 ≤ i) (i1 : i < n) : i * n - i * (i - 1) / 2 = tri n - tri (n - i) := by
  rcases nine (by omega : 0 ≤ n) h8 with rfl | rfl | rfl | rfl | rfl | rfl | rfl | rfl | rfl <;> rcases nine i0 (by omega) with rfl | rfl | rfl | rfl | rfl | rfl | rfl | rfl | rfl <;> first | decide | omega
theorem idx_any (n i j : Int) (h8 : n ≤ 8) (i0 : 0 ≤ i) (i1 : i < n) (j0 : 0 ≤ j) (j1 : j < n) (w : World) :
    Calls Tryz.prog 45 #[.int .i64 n, .int .i64 i, .int .i64 j] w fun e w' => e = .returned (.int .i64 (idx n i j)) ∧ w' = w := by
  have ⟨x1, x2⟩ := idx_in h8 i0 i1 j0 j1
  have ⟨t1, t2⟩ := tri_le (n := n) (by omega) h8
  have HE := hid (fun w => entries_any n (by omega) h8 w)
  by_cases hij : j < i
  · have ⟨t3, t4⟩ := tri_le (n := n - j) (by omega) (by omega)
    have HF := hid (fun w => entries_any (n - j) (by omega) (by omega) w)
    have e : idx n i j = tri n - tri (n - j) + i - j := by unfold idx; rw [show min i j = j by omega, show max i j = i by omega]
    rw [e]
    clear e x1 x2
    generalize tri n = T at *
    generalize tri (n - j) = T' at *
    go_enter Tryz.func45, Tryz.ntmps45
    go_wp2_with (first | (go_at_call 73; first | ((with_reducible refine (HE.out _).mono ?_); rintro e w' ⟨rfl, rfl⟩) | ((with_reducible refine (HF.out _).mono ?_); rintro e w' ⟨rfl, rfl⟩)))
    go_ret
    exact ⟨rfl, rfl⟩
  · have ⟨t3, t4⟩ := tri_le (n := n - i) (by omega) (by omega)
    have HF := hid (fun w => entries_any (n - i) (by omega) (by omega) w)
    have e : idx n i j = tri n - tri (n - i) + j - i := by unfold idx; rw [show min i j = i by omega, show max i j = j by omega]
    rw [e]
    clear e x1 x2
    generalize tri n = T at *
    generalize tri (n - i) = T' at *
    go_enter Tryz.func45, Tryz.ntmps45
    go_wp2_with (first | (go_at_call 73; first | ((with_reducible refine (HE.out _).mono ?_); rintro e w' ⟨rfl, rfl⟩) | ((with_reducible refine (HF.out _).mono ?_); rintro e w' ⟨rfl, rfl⟩)))
    go_ret
    exact ⟨rfl, rfl⟩
theorem at_pre {n i : Int} (h8 : n ≤ 8) (i0 : 0 ≤ i) (i1 : i < n) : 0 ≤ i * n ∧ i * n ≤ 64 ∧ 0 ≤ i * (i - 1) ∧ i * (i - 1) ≤ 64 := by
  rcases nine (by omega : 0 ≤ n) h8 with rfl | rfl | rfl | rfl | rfl | rfl | rfl | rfl | rfl <;> rcases nine i0 (by omega) with rfl | rfl | rfl | rfl | rfl | rfl | rfl | rfl | rfl <;> first | decide | omega
theorem rat_any (n i j : Int) (h8 : n ≤ 8) (i0 : 0 ≤ i) (i1 : i < n) (j0 : 0 ≤ j) (j1 : j < n) (w : World) :
    Calls Tryz.prog 55 #[.int .i64 n, .int .i64 i, .int .i64 j] w fun e w' => e = .returned (.int .i64 (idx n i j)) ∧ w' = w := by
  by_cases hij : j < i
  · have ⟨p1, p2, p3, p4⟩ := at_pre h8 j0 j1
    have e : idx n i j = j * n - j * (j - 1) / 2 + i - j := by unfold idx; rw [show min i j = j by omega, show max i j = i by omega, idx_at h8 j0 j1]
    rw [e]
    obtain ⟨P, hP⟩ : ∃ P, j * n = P := ⟨_, rfl⟩
    obtain ⟨R, hR⟩ : ∃ R, j * (j - 1) = R := ⟨_, rfl⟩
    have m1 : IntKind.i64.wrap (j * n) = P := by rw [hP]; rw [hP] at p1 p2; exact IntWalk.i64_in _ (by omega)
    have m2 : IntKind.i64.wrap (j * (j - 1)) = R := by rw [hR]; rw [hR] at p3 p4; exact IntWalk.i64_in _ (by omega)
    rw [hP, hR]
    rw [hP] at p1 p2; rw [hR] at p3 p4
    clear e hP hR
    go_enter Tryz.func55, Tryz.ntmps55
    go_wp2_with fail
    go_ret
    exact ⟨rfl, rfl⟩
  · have ⟨p1, p2, p3, p4⟩ := at_pre h8 i0 i1
    have e : idx n i j = i * n - i * (i - 1) / 2 + j - i := by unfold idx; rw [show min i j = i by omega, show max i j = j by omega, idx_at h8 i0 i1]
    rw [e]
    obtain ⟨P, hP⟩ : ∃ P, i * n = P := ⟨_, rfl⟩
    obtain ⟨R, hR⟩ : ∃ R, i * (i - 1) = R := ⟨_, rfl⟩
    have m1 : IntKind.i64.wrap (i * n) = P := by rw [hP]; rw [hP] at p1 p2; exact IntWalk.i64_in _ (by omega)
    have m2 : IntKind.i64.wrap (i * (i - 1)) = R := by rw [hR]; rw [hR] at p3 p4; exact IntWalk.i64_in _ (by omega)
    rw [hP, hR]
    rw [hP] at p1 p2; rw [hR] at p3 p4
    clear e hP hR
    go_enter Tryz.func55, Tryz.ntmps55
    go_wp2_with fail
    go_ret
    exact ⟨rfl, rfl⟩
def symB : ByteArray := { data := #[115, 121, 109] }
theorem wrong_any (n : Int) (w : World) :
    Calls Tryz.prog 43 #[.int .i64 n] w fun r w' => ∃ t u, r = .returned (.iface t u) ∧ Up w w' ∧ IsEr w' (.iface t u) (.flt symB (.num n)) := by
  have HW := hid (fun w => wrap_any (op := { data := #[115, 121, 109] }) (v := .iface 80 (.int .i64 n)) (e := .num n) (w := w) rfl)
  go_enter Tryz.func43, Tryz.ntmps43
  go_wp2_with (first | (go_at_call 75; (with_reducible refine (HW.out _).mono ?_); rintro r w1 ⟨u1, rfl, hu1, h1⟩))
  go_ret
  obtain ⟨t, u, rfl⟩ := h1.iface
  exact ⟨t, u, rfl, hu1, h1⟩
end Go.Proofs.YtdcpoamjmoceiaaGreatDoor
