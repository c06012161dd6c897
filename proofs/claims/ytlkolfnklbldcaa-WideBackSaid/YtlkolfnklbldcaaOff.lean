/-
  wide: limb times y off x, y back to x, in place; the guess of a limb.
-/
import Derived.Test.YtlkolfnklbldcaaDivide
namespace Go.Proofs.Ytlkolfnklbldcaa
open Go Go.RowKit
set_option maxRecDepth 100000

/-- All but block g stands as it stood; there may be more of it. -/
structure Near (g : Nat) (w w' : World) : Prop where
  os : w'.os = w.os
  tape : w'.tape = w.tape
  output : w'.output = w.output
  size : w.heap.size ≤ w'.heap.size
  block : ∀ k, k < w.heap.size → k ≠ g → w'.heap[k]? = w.heap[k]?
theorem Near.refl (g : Nat) (w : World) : Near g w w := ⟨rfl, rfl, rfl, Nat.le_refl _, fun _ _ _ => rfl⟩
theorem Near.trans {g : Nat} {a b c : World} (h : Near g a b) (k : Near g b c) : Near g a c :=
  ⟨k.os.trans h.os, k.tape.trans h.tape, k.output.trans h.output, Nat.le_trans h.size k.size, fun i hi hg => (k.block i (Nat.lt_of_lt_of_le hi h.size) hg).trans (h.block i hi hg)⟩
theorem Near.of {g : Nat} {a b : World} (h : Up a b) : Near g a b := ⟨h.os, h.tape, h.output, h.size, fun k hk _ => h.block k hk⟩
theorem Near.up {g : Nat} {a b c : World} (h : Near g a b) (hu : Up b c) : Near g a c := h.trans (Near.of hu)
theorem Near.cell {g i : Nat} {a w : World} (h : Near g a w) (v : Value) : Near g a (w.setCell ⟨g, i, none⟩ v) := by
  have k : Below 0 w (w.setCell ⟨g, i, none⟩ v) := (Below.refl 0 w).setCell (Nat.zero_le _) v
  exact h.trans ⟨k.os, k.tape, k.output, k.size, fun j _ hg => Below.heap_setCell w ⟨g, i, none⟩ v j hg⟩
theorem Near.row {g b n : Nat} {t : TypeId} {f : Nat → Nat} {w w' : World} (h : Near g w w') (hb : b ≠ g) (hr : Row w b t n f) : Row w' b t n f := by
  have h1 := hr.lt
  unfold Row Blk at *
  rw [h.block b h1 hb]; exact hr
theorem Near.below {g B : Nat} {a w w' : World} (h : Near g w w') (hg : B ≤ g) (hb : Below B a w) (hB : B ≤ w.heap.size) : Below B a w' :=
  Below.trans hb ⟨h.os, h.tape, h.output, h.size, fun k hk => h.block k (by omega) (by omega)⟩

theorem off_step {A L M X V l lo c c' r b b' P : Nat} (h : A + L = M + (b + c) * P) (h1 : lo + c' * 18446744073709551616 = l * V + c) (h2 : r + lo + b = X + b' * 18446744073709551616) :
    A + r * P + (L + l * V * P) = M + X * P + (b' + c') * (P * 18446744073709551616) := by
  have e : (r + lo + b + (lo + c' * 18446744073709551616)) * P = (X + b' * 18446744073709551616 + (l * V + c)) * P := by rw [h1, h2]
  grind
theorem off_last {A L M X c r b b' P : Nat} (h : A + L = M + (b + c) * P) (h2 : r + c + b = X + b' * 18446744073709551616) :
    A + r * P + L = M + X * P + b' * (P * 18446744073709551616) := by
  have e : (r + c + b) * P = (X + b' * 18446744073709551616) * P := by rw [h2]
  grind
theorem sum_shift_upd (f : Nat → Nat) (o k v : Nat) : sumL (fun j => upd f (o + k) v (o + j)) (k + 1) = sumL (fun j => f (o + j)) k + v * bp k := by
  rw [sumL_succ, upd_same]
  congr 1
  exact sumL_congr fun i hi => upd_other f (o + k) v (by omega)
set_option maxHeartbeats 4000000 in
theorem take_off (gx o n gy cx cy l : Nat) (S V : Nat → Nat) (hS : ∀ j, j < 17 → S j < 18446744073709551616) (hV : ∀ j, j < 17 → V j < 18446744073709551616) (hg : gx ≠ gy) (ho : o + n < 17) (hl : l < 18446744073709551616) (w : World) (rx : Row w gx 76 17 S) (ry : Row w gy 76 17 V) :
    Calls Try.prog 70 #[.slice (some ⟨gx, o, none⟩) (n + 1) cx, .slice (some ⟨gy, 0, none⟩) n cy, .int .u64 (l : Nat)] w fun e w' =>
      ∃ (S' : Nat → Nat) (b : Nat), e = .returned (.bool (decide (b ≠ 0))) ∧ b ≤ 1 ∧ sumL (fun j => S' (o + j)) (n + 1) + l * sumL V n = sumL (fun j => S (o + j)) (n + 1) + b * bp (n + 1) ∧
        (∀ j, j < o ∨ o + n < j → S' j = S j) ∧ (∀ j, j < 17 → S' j < 18446744073709551616) ∧ Row w' gx 76 17 S' ∧ Near gx w w' := by
  have HS := hid hS
  have HV := hid hV
  clear hS hV
  go_enter Try.func70, Try.ntmps70
  go_wp2
  go_loopw [8, 9, 14] (fun tc tb ti wr => ∃ (i c b : Nat) (T : Nat → Nat), i ≤ n ∧ tc = .int .u64 (c : Nat) ∧ tb = .int .u64 (b : Nat) ∧ ti = .int .i64 (i : Nat) ∧ c < 18446744073709551616 ∧ b ≤ 1 ∧
      sumL (fun j => T (o + j)) i + l * sumL V i = sumL (fun j => S (o + j)) i + (b + c) * bp i ∧ (∀ j, j < o ∨ o + i ≤ j → T j = S j) ∧ (∀ j, j < 17 → T j < 18446744073709551616) ∧ Row wr gx 76 17 T ∧ Near gx w wr)
    (fun _ _ ti _ => n - (intOf ti).toNat)
  case atStart => exact ⟨0, 0, 0, S, by omega, rfl, rfl, rfl, by omega, by omega, by simp [sumL_zero], fun _ _ => rfl, HS.out, rx, Near.refl _ _⟩
  case round =>
    obtain ⟨i, c, b, T, hi, rfl, rfl, rfl, hc, hb, hsum, hT, hTl, hR, hN⟩ := hrel
    have Hsum := hid hsum
    have HT := hid hT
    have HTl := hid hTl
    clear hsum hT hTl rx
    by_cases hlt : i < n
    · have hVi := HV.out i (by omega)
      have hcy := (hN.row (Ne.symm hg) ry).cell i (by omega)
      have hcx := hR.cell (o + i) (by omega)
      have hfx := hR.frozen (o + i)
      obtain ⟨lo, c', hlo, hc'⟩ : ∃ lo c' : Nat, lo = (l * V i + c + 0) % 18446744073709551616 ∧ c' = (l * V i + c + 0) / 18446744073709551616 := ⟨_, _, rfl, rfl⟩
      have hstep := step_any l (V i) c 0 hl hVi hc (by decide)
      rw [← hlo, ← hc'] at hstep
      obtain ⟨b1, b2, b3⟩ := step_bound hl hVi hc (by decide) hlo hc'
      have HST := hid (show ∀ w, Calls Try.prog 58 #[.int .u64 (l : Nat), .int .u64 (V i : Nat), .int .u64 (c : Nat), .int .u64 0] w (fun e w' => e = .returned (.tuple #[.int .u64 (lo : Nat), .int .u64 (c' : Nat)]) ∧ w' = w) from hstep)
      have HB3 := hid b3
      clear hlo hc' hstep b3
      obtain ⟨r, b', hadd, hr, hrl, hb1⟩ : ∃ r b' : Nat, (∀ w, (callFunc 56 #[.int .u64 (T (o + i) : Nat), .int .u64 (lo : Nat), .int .u64 (b : Nat)]).run Try.prog w = .ok (.value (.tuple #[.int .u64 (r : Nat), .int .u64 (b' : Nat)])) w) ∧
          Hid (r + lo + b = T (o + i) + b' * 18446744073709551616) ∧ r < 18446744073709551616 ∧ b' ≤ 1 :=
        ⟨_, _, run_sub (T (o + i)) lo b hb, hid (by have := HTl.out (o + i) (by omega); split <;> omega), Nat.mod_lt _ (by decide), by split <;> omega⟩
      have gR := hR.set (o + i) r
      have gN := hN.cell (i := o + i) (.int .u64 (r : Nat))
      clear hR hN
      go_wp2_with (go_at_call 58; (with_reducible refine (HST.out _).mono ?_); rintro e w' ⟨rfl, rfl⟩)
      go_roundw
      case rel =>
        refine ⟨i + 1, c', b', upd T (o + i) r, by omega, rfl, rfl, by go_num, b2, hb1, ?_, fun j hj => by rw [upd_other _ _ _ (by omega)]; exact HT.out j (by omega), upd_lt HTl.out hrl, gR, gN⟩
        rw [sum_shift_upd, sumL_succ V, sumL_succ (fun j => S (o + j)), bp_succ, Nat.mul_add, ← Nat.mul_assoc]
        have h1 := HB3.out
        have h2 := hr.out
        rw [HT.out (o + i) (by omega)] at h2
        exact off_step Hsum.out (by omega) h2
      case measure => simp [intOf] <;> omega
    · obtain rfl : i = n := by omega
      have hcx := hR.cell (o + i) (by omega)
      have hfx := hR.frozen (o + i)
      obtain ⟨r, b', hadd, hr, hrl, hb1⟩ : ∃ r b' : Nat, (∀ w, (callFunc 56 #[.int .u64 (T (o + i) : Nat), .int .u64 (c : Nat), .int .u64 (b : Nat)]).run Try.prog w = .ok (.value (.tuple #[.int .u64 (r : Nat), .int .u64 (b' : Nat)])) w) ∧
          Hid (r + c + b = T (o + i) + b' * 18446744073709551616) ∧ r < 18446744073709551616 ∧ b' ≤ 1 :=
        ⟨_, _, run_sub (T (o + i)) c b hb, hid (by have := HTl.out (o + i) (by omega); split <;> omega), Nat.mod_lt _ (by decide), by split <;> omega⟩
      have gR := hR.set (o + i) r
      have gN := hN.cell (i := o + i) (.int .u64 (r : Nat))
      clear hR hN
      go_wp2
      go_ret
      refine ⟨upd T (o + i) r, b', ret_bool ?_, hb1, ?_, fun j hj => by rw [upd_other _ _ _ (by omega)]; exact HT.out j (by omega), upd_lt HTl.out hrl, gR, gN⟩
      · rw [Bool.eq_iff_iff, bne_iff_ne, decide_eq_true_iff]; omega
      · rw [sum_shift_upd, sumL_succ (fun j => S (o + j)), bp_succ]
        have h2 := hr.out
        rw [HT.out (o + i) (by omega)] at h2
        exact off_last Hsum.out h2
theorem back_step {A L M X V c c' r P : Nat} (h : A + c * P = M + L) (h2 : r + c' * 18446744073709551616 = X + V + c) :
    A + r * P + c' * (P * 18446744073709551616) = M + X * P + (L + V * P) := by
  have e : (r + c' * 18446744073709551616) * P = (X + V + c) * P := by rw [h2]
  grind
set_option maxHeartbeats 4000000 in
theorem put_back (gx o n gy cx cy : Nat) (S V : Nat → Nat) (hS : ∀ j, j < 17 → S j < 18446744073709551616) (hV : ∀ j, j < 17 → V j < 18446744073709551616) (hg : gx ≠ gy) (ho : o + n < 17) (w : World) (rx : Row w gx 76 17 S) (ry : Row w gy 76 17 V) :
    Calls Try.prog 71 #[.slice (some ⟨gx, o, none⟩) (n + 1) cx, .slice (some ⟨gy, 0, none⟩) n cy] w fun e w' =>
      ∃ (S' : Nat → Nat) (b : Nat), e = .returned (.bool (decide (b ≠ 0))) ∧ b ≤ 1 ∧ sumL (fun j => S' (o + j)) (n + 1) + b * bp (n + 1) = sumL (fun j => S (o + j)) (n + 1) + sumL V n ∧
        (∀ j, j < o ∨ o + n < j → S' j = S j) ∧ (∀ j, j < 17 → S' j < 18446744073709551616) ∧ Row w' gx 76 17 S' ∧ Near gx w w' := by
  have HS := hid hS
  have HV := hid hV
  clear hS hV
  go_enter Try.func71, Try.ntmps71
  go_wp2
  go_loopw [5, 10] (fun tc ti wr => ∃ (i c : Nat) (T : Nat → Nat), i ≤ n ∧ tc = .int .u64 (c : Nat) ∧ ti = .int .i64 (i : Nat) ∧ c ≤ 1 ∧
      sumL (fun j => T (o + j)) i + c * bp i = sumL (fun j => S (o + j)) i + sumL V i ∧ (∀ j, j < o ∨ o + i ≤ j → T j = S j) ∧ (∀ j, j < 17 → T j < 18446744073709551616) ∧ Row wr gx 76 17 T ∧ Near gx w wr)
    (fun _ ti _ => n - (intOf ti).toNat)
  case atStart => exact ⟨0, 0, S, by omega, rfl, rfl, by omega, by simp [sumL_zero], fun _ _ => rfl, HS.out, rx, Near.refl _ _⟩
  case round =>
    obtain ⟨i, c, T, hi, rfl, rfl, hc, hsum, hT, hTl, hR, hN⟩ := hrel
    have Hsum := hid hsum
    have HT := hid hT
    have HTl := hid hTl
    clear hsum hT hTl rx
    by_cases hlt : i < n
    · have hY := hN.row (Ne.symm hg) ry
      have hcy := hY.cell i (by omega)
      have hcx := hR.cell (o + i) (by omega)
      have hfx := hR.frozen (o + i)
      obtain ⟨r, c', hadd, hr, hrl, hc1⟩ : ∃ r c' : Nat, (∀ w, (callFunc 39 #[.int .u64 (T (o + i) : Nat), .int .u64 (V i : Nat), .int .u64 (c : Nat)]).run Try.prog w = .ok (.value (.tuple #[.int .u64 (r : Nat), .int .u64 (c' : Nat)])) w) ∧
          Hid (r + c' * 18446744073709551616 = T (o + i) + V i + c) ∧ r < 18446744073709551616 ∧ c' ≤ 1 :=
        ⟨_, _, run_add (T (o + i)) (V i) c hc, hid (by omega), Nat.mod_lt _ (by decide), by have := HTl.out (o + i) (by omega); have := HV.out i (by omega); omega⟩
      go_wp2
      refine wp_region_upS (S := (fun wq => Row wq gx 76 17 T ∧ Row wq gy 76 17 V ∧ wq.cell? ⟨gx, o + i, none⟩ = some (.int .u64 (T (o + i) : Nat)) ∧ wq.cell? ⟨gy, i, none⟩ = some (.int .u64 (V i : Nat)) ∧ Near gx w wq)) (req := (fun j => j != 16)) (by kernel_rfl) (fun _ _ h hu => ⟨(h.1).up hu, (h.2.1).up hu, hu.cell (h.2.2.1), hu.cell (h.2.2.2.1), Near.up (h.2.2.2.2) hu⟩) ⟨(by (repeat (first | assumption | ((with_reducible apply row_newc); (focus (first | rfl | (simp; done)))) | ((with_reducible apply row_newz); (focus (first | rfl | (simp; done)))) | (with_reducible apply row_same) | ((with_reducible apply row_else); (focus (first | (simp; done) | (simp; omega) | omega))) | (with_reducible apply row_alloc) | (with_reducible apply row_drew) | (with_reducible apply row_drewN) | ((with_reducible apply row_up); assumption)))), (by (repeat (first | assumption | ((with_reducible apply row_newc); (focus (first | rfl | (simp; done)))) | ((with_reducible apply row_newz); (focus (first | rfl | (simp; done)))) | (with_reducible apply row_same) | ((with_reducible apply row_else); (focus (first | (simp; done) | (simp; omega) | omega))) | (with_reducible apply row_alloc) | (with_reducible apply row_drew) | (with_reducible apply row_drewN) | ((with_reducible apply row_up); assumption)))), (by first | assumption | (apply Blk.cell; (focus (repeat (first | assumption | ((with_reducible apply blk_new); (focus (first | rfl | (simp; done)))) | (with_reducible apply blk_alloc) | (with_reducible apply blk_drew) | (with_reducible apply blk_drewN) | ((with_reducible apply blk_up); assumption) | (with_reducible apply blk_same) | ((with_reducible apply blk_else); (focus (first | (simp; done) | (simp; omega) | omega)))))); exact rfl)), (by first | assumption | (apply Blk.cell; (focus (repeat (first | assumption | ((with_reducible apply blk_new); (focus (first | rfl | (simp; done)))) | (with_reducible apply blk_alloc) | (with_reducible apply blk_drew) | (with_reducible apply blk_drewN) | ((with_reducible apply blk_up); assumption) | (with_reducible apply blk_same) | ((with_reducible apply blk_else); (focus (first | (simp; done) | (simp; omega) | omega)))))); exact rfl)), (by assumption)⟩ (fun wS hSS => ?_)
      have ⟨hS1, hS2, hS3, hS4, hSB⟩ := hSS
      clear hcx hcy hfx hR hY hN
      have hk1 : (i : Int) < (n : Int) + 1 := by omega
      refine wpAnyU_pure (i := 0) (d := (some 14)) (v := ?_) rfl rfl (by kernel_rfl) (fun _ _ _ h => h) (fun _ _ h hu => ⟨(h.1).up hu, (h.2.1).up hu, hu.cell (h.2.2.1), hu.cell (h.2.2.2.1), Near.up (h.2.2.2.2) hu⟩) (Or.inl ⟨by rfl, fun w' _ => yu_value ?_⟩) ?_
      rotate_left
      · (go_simp; (try exact rfl))
      try simp only [Act.put, List.setIfInBounds_toArray, List.set_cons_zero, List.set_cons_succ]
      refine wpAnyU_pure (i := 1) (d := (some 15)) (v := ?_) rfl rfl (by kernel_rfl) (fun _ _ _ h => h) (fun _ _ h hu => ⟨(h.1).up hu, (h.2.1).up hu, hu.cell (h.2.2.1), hu.cell (h.2.2.2.1), Near.up (h.2.2.2.2) hu⟩) (Or.inl ⟨by rfl, fun w' _ => yu_value ?_⟩) ?_
      rotate_left
      · (go_simp; (try exact rfl))
      try simp only [Act.put, List.setIfInBounds_toArray, List.set_cons_zero, List.set_cons_succ]
      refine wpAnyU_pure (i := 2) (d := (some 16)) (v := ?_) rfl rfl (by kernel_rfl) (fun _ _ _ h => h) (fun _ _ h hu => ⟨(h.1).up hu, (h.2.1).up hu, hu.cell (h.2.2.1), hu.cell (h.2.2.2.1), Near.up (h.2.2.2.2) hu⟩) (Or.inl ⟨by rfl, fun w' _ => yu_value ?_⟩) ?_
      rotate_left
      · (go_simp; (try exact rfl))
      try simp only [Act.put, List.setIfInBounds_toArray, List.set_cons_zero, List.set_cons_succ]
      refine wpAnyU_pure (i := 3) (d := (some 17)) (v := ?_) rfl rfl (by kernel_rfl) (fun _ _ _ h => h) (fun _ _ h hu => ⟨(h.1).up hu, (h.2.1).up hu, hu.cell (h.2.2.1), hu.cell (h.2.2.2.1), Near.up (h.2.2.2.2) hu⟩) (Or.inl ⟨by rfl, fun w' _ => yu_value ?_⟩) ?_
      rotate_left
      · (go_simp; (try exact rfl))
      try simp only [Act.put, List.setIfInBounds_toArray, List.set_cons_zero, List.set_cons_succ]
      refine wpAnyU_pure (i := 4) (d := (some 18)) (v := ?_) rfl rfl (by kernel_rfl) (fun _ _ _ h => h) (fun _ _ h hu => ⟨(h.1).up hu, (h.2.1).up hu, hu.cell (h.2.2.1), hu.cell (h.2.2.2.1), Near.up (h.2.2.2.2) hu⟩) (Or.inl ⟨by rfl, fun w' _ => yu_value ?_⟩) ?_
      rotate_left
      · (go_simp; (try exact rfl))
      try simp only [Act.put, List.setIfInBounds_toArray, List.set_cons_zero, List.set_cons_succ]
      refine wpAnyU_take (i := 5) (d := (some 19)) (v := ?_) rfl rfl (by kernel_rfl) (fun _ _ _ h => h) (fun _ _ h hu => ⟨(h.1).up hu, (h.2.1).up hu, hu.cell (h.2.2.1), hu.cell (h.2.2.2.1), Near.up (h.2.2.2.2) hu⟩) hSS (Or.inl ⟨by rfl, fun w' hSw => yu_value ?_⟩) ?_
      rotate_left
      · ((try dsimp only at hSw); (try obtain ⟨_, _, _, _, _⟩ := hSw); go_simp; (try exact rfl))
      try simp only [Act.put, List.setIfInBounds_toArray, List.set_cons_zero, List.set_cons_succ]
      refine wpAnyU_pure (i := 6) (d := (some 20)) (v := ?_) rfl rfl (by kernel_rfl) (fun _ _ _ h => h) (fun _ _ h hu => ⟨(h.1).up hu, (h.2.1).up hu, hu.cell (h.2.2.1), hu.cell (h.2.2.2.1), Near.up (h.2.2.2.2) hu⟩) (Or.inl ⟨by rfl, fun w' _ => yu_value ?_⟩) ?_
      rotate_left
      · (go_simp; (try exact rfl))
      try simp only [Act.put, List.setIfInBounds_toArray, List.set_cons_zero, List.set_cons_succ]
      refine wpAnyU_pure (i := 7) (d := (some 21)) (v := ?_) rfl rfl (by kernel_rfl) (fun _ _ _ h => h) (fun _ _ h hu => ⟨(h.1).up hu, (h.2.1).up hu, hu.cell (h.2.2.1), hu.cell (h.2.2.2.1), Near.up (h.2.2.2.2) hu⟩) (Or.inl ⟨by rfl, fun w' _ => yu_value ?_⟩) ?_
      rotate_left
      · (go_simp; (try exact rfl))
      try simp only [Act.put, List.setIfInBounds_toArray, List.set_cons_zero, List.set_cons_succ]
      refine wpAnyU_pure (i := 8) (d := (some 22)) (v := ?_) rfl rfl (by kernel_rfl) (fun _ _ _ h => h) (fun _ _ h hu => ⟨(h.1).up hu, (h.2.1).up hu, hu.cell (h.2.2.1), hu.cell (h.2.2.2.1), Near.up (h.2.2.2.2) hu⟩) (Or.inl ⟨by rfl, fun w' _ => yu_value ?_⟩) ?_
      rotate_left
      · (go_simp; (try exact rfl))
      try simp only [Act.put, List.setIfInBounds_toArray, List.set_cons_zero, List.set_cons_succ]
      refine wpAnyU_take (i := 9) (d := (some 23)) (v := ?_) rfl rfl (by kernel_rfl) (fun _ _ _ h => h) (fun _ _ h hu => ⟨(h.1).up hu, (h.2.1).up hu, hu.cell (h.2.2.1), hu.cell (h.2.2.2.1), Near.up (h.2.2.2.2) hu⟩) hSS (Or.inl ⟨by rfl, fun w' hSw => yu_value ?_⟩) ?_
      rotate_left
      · ((try dsimp only at hSw); (try obtain ⟨_, _, _, _, _⟩ := hSw); go_simp; (try exact rfl))
      try simp only [Act.put, List.setIfInBounds_toArray, List.set_cons_zero, List.set_cons_succ]
      refine wpAnyU_pure (i := 10) (d := (some 24)) (v := ?_) rfl rfl (by kernel_rfl) (fun _ _ _ h => h) (fun _ _ h hu => ⟨(h.1).up hu, (h.2.1).up hu, hu.cell (h.2.2.1), hu.cell (h.2.2.2.1), Near.up (h.2.2.2.2) hu⟩) (Or.inl ⟨by rfl, fun w' _ => yu_value ?_⟩) ?_
      rotate_left
      · (go_simp; (try exact rfl))
      try simp only [Act.put, List.setIfInBounds_toArray, List.set_cons_zero, List.set_cons_succ]
      refine wpAnyU_pure (i := 11) (d := (some 25)) (v := ?_) rfl rfl (by kernel_rfl) (fun _ _ _ h => h) (fun _ _ h hu => ⟨(h.1).up hu, (h.2.1).up hu, hu.cell (h.2.2.1), hu.cell (h.2.2.2.1), Near.up (h.2.2.2.2) hu⟩) (Or.inl ⟨by rfl, fun w' _ => yu_value ?_⟩) ?_
      rotate_left
      · (go_simp; (try exact rfl))
      try simp only [Act.put, List.setIfInBounds_toArray, List.set_cons_zero, List.set_cons_succ]
      refine wpAnyU_pure (i := 12) (d := (some 13)) (v := ?_) rfl rfl (by kernel_rfl) (fun _ _ _ h => h) (fun _ _ h hu => ⟨(h.1).up hu, (h.2.1).up hu, hu.cell (h.2.2.1), hu.cell (h.2.2.2.1), Near.up (h.2.2.2.2) hu⟩) (Or.inl ⟨by rfl, fun w' _ => yu_value ?_⟩) ?_
      rotate_left
      · (go_simp; (try exact rfl))
      try simp only [Act.put, List.setIfInBounds_toArray, List.set_cons_zero, List.set_cons_succ]
      refine wpAnyU_pure (i := 13) (d := (some 26)) (v := ?_) rfl rfl (by kernel_rfl) (fun _ _ _ h => h) (fun _ _ h hu => ⟨(h.1).up hu, (h.2.1).up hu, hu.cell (h.2.2.1), hu.cell (h.2.2.2.1), Near.up (h.2.2.2.2) hu⟩) (Or.inl ⟨by rfl, fun w' _ => yu_value ?_⟩) ?_
      rotate_left
      · (go_simp; (try exact rfl))
      try simp only [Act.put, List.setIfInBounds_toArray, List.set_cons_zero, List.set_cons_succ]
      refine wpAnyU_pure (i := 14) (d := (some 27)) (v := ?_) rfl rfl (by kernel_rfl) (fun _ _ _ h => h) (fun _ _ h hu => ⟨(h.1).up hu, (h.2.1).up hu, hu.cell (h.2.2.1), hu.cell (h.2.2.2.1), Near.up (h.2.2.2.2) hu⟩) (Or.inl ⟨by rfl, fun w' _ => yu_value ?_⟩) ?_
      rotate_left
      · (go_simp; (try exact rfl))
      try simp only [Act.put, List.setIfInBounds_toArray, List.set_cons_zero, List.set_cons_succ]
      refine wpAnyU_pure (i := 15) (d := (some 28)) (v := ?_) rfl rfl (by kernel_rfl) (fun _ _ _ h => h) (fun _ _ h hu => ⟨(h.1).up hu, (h.2.1).up hu, hu.cell (h.2.2.1), hu.cell (h.2.2.2.1), Near.up (h.2.2.2.2) hu⟩) (Or.inl ⟨by rfl, fun w' _ => yu_value ?_⟩) ?_
      rotate_left
      · (go_simp; (try exact rfl))
      try simp only [Act.put, List.setIfInBounds_toArray, List.set_cons_zero, List.set_cons_succ]
      refine wpAnyU_one (i := 16) rfl (by kernel_rfl) (by rfl) fun w1 hw1 => ?_
      have hcW := (hS1.up hw1).cell (o+i) (by omega)
      have hfW := (hS1.up hw1).frozen (o+i)
      go_simp
      clear hcW hfW
      refine wpAnyU_pure (i := 17) (d := (some 5)) (v := ?_) rfl rfl (by kernel_rfl) (fun _ _ _ h => h) (fun _ _ h hu => ⟨(h.1).up hu, (h.2.1).up hu, hu.cell (h.2.2.1), hu.cell (h.2.2.2.1), Near.up (h.2.2.2.2) hu⟩) (Or.inl ⟨by rfl, fun w' _ => yu_value ?_⟩) ?_
      rotate_left
      · (go_simp; (try exact rfl))
      try simp only [Act.put, List.setIfInBounds_toArray, List.set_cons_zero, List.set_cons_succ]
      refine wpAnyU_done (by kernel_rfl) (fun wF huE => ?_) _
      have gR := ((hS1.up hw1).set (o + i) r).up huE
      have gN := ((hSB.up hw1).cell (i := o + i) (.int .u64 (r : Nat))).up huE
      clear hS1 hS2 hS3 hS4 hSB hSS hw1 huE
      go_wp2
      go_roundw
      case rel =>
        refine ⟨i + 1, c', upd T (o + i) r, by omega, rfl, by go_num, hc1, ?_, fun j hj => by rw [upd_other _ _ _ (by omega)]; exact HT.out j (by omega), upd_lt HTl.out hrl, gR, gN⟩
        rw [sum_shift_upd, sumL_succ V, sumL_succ (fun j => S (o + j)), bp_succ]
        have h2 := hr.out
        rw [HT.out (o + i) (by omega)] at h2
        exact back_step Hsum.out h2
      case measure => simp [intOf] <;> omega
    · obtain rfl : i = n := by omega
      have hcx := hR.cell (o + i) (by omega)
      have hfx := hR.frozen (o + i)
      obtain ⟨r, c', hadd, hr, hrl, hc1⟩ : ∃ r c' : Nat, (∀ w, (callFunc 39 #[.int .u64 (T (o + i) : Nat), .int .u64 0, .int .u64 (c : Nat)]).run Try.prog w = .ok (.value (.tuple #[.int .u64 (r : Nat), .int .u64 (c' : Nat)])) w) ∧
          Hid (r + c' * 18446744073709551616 = T (o + i) + 0 + c) ∧ r < 18446744073709551616 ∧ c' ≤ 1 := by
        have h := run_add (T (o + i)) 0 c hc
        simp only [show ((0 : Nat) : Int) = 0 from rfl] at h
        exact ⟨_, _, h, hid (by omega), Nat.mod_lt _ (by decide), by have := HTl.out (o + i) (by omega); omega⟩
      have gR := hR.set (o + i) r
      have gN := hN.cell (i := o + i) (.int .u64 (r : Nat))
      clear hR hN
      go_wp2
      go_ret
      refine ⟨upd T (o + i) r, c', ret_bool ?_, hc1, ?_, fun j hj => by rw [upd_other _ _ _ (by omega)]; exact HT.out j (by omega), upd_lt HTl.out hrl, gR, gN⟩
      · rw [Bool.eq_iff_iff, bne_iff_ne, decide_eq_true_iff]; omega
      · rw [sum_shift_upd, sumL_succ (fun j => S (o + j)), bp_succ]
        have h2 := hr.out
        rw [HT.out (o + i) (by omega)] at h2
        have h3 := back_step (V := 0) Hsum.out h2
        rw [Nat.zero_mul, Nat.add_zero] at h3
        exact h3
/-- The guess of a quotient's limb: the quotient of two limbs by one, or the greatest limb. -/
def guessN (h l y : Nat) : Nat := if y ≤ h then 18446744073709551615 else (18446744073709551616 * h + l) / y
theorem guess_lt {h l y : Nat} (hl : l < 18446744073709551616) : guessN h l y < 18446744073709551616 := by
  unfold guessN
  split
  · decide
  · exact short_q (by omega) hl
set_option maxHeartbeats 1000000 in
theorem guess_any (h l y : Nat) (_ : h < 18446744073709551616) (hl : l < 18446744073709551616) (hy : y < 18446744073709551616) (w : World) :
    Calls Try.prog 69 #[.int .u64 (h : Nat), .int .u64 (l : Nat), .int .u64 (y : Nat)] w fun e w' => e = .returned (.int .u64 (guessN h l y : Nat)) ∧ Up w w' := by
  by_cases hc : y ≤ h
  · have e : guessN h l y = 18446744073709551615 := by unfold guessN; rw [if_pos hc]
    rw [e]
    clear e
    go_enter Try.func69, Try.ntmps69
    go_wp2
    go_ret
    exact ⟨rfl, (by repeat (first | assumption | (with_reducible apply Up.of) | (with_reducible exact Below.refl _ _) | (with_reducible exact Up.refl _) | ((with_reducible apply bl_setRow); (focus (first | exact Nat.le_refl _ | (simp; done) | (simp; omega) | omega))) | (with_reducible apply below_drewN) | (with_reducible apply Below.drew) | ((with_reducible apply bl_alloc); (focus (first | exact Nat.le_refl _ | (simp; done) | (simp; omega) | omega))) | ((with_reducible apply bl_setCell); (focus (first | exact Nat.le_refl _ | (simp; done) | (simp; omega) | omega))) | ((with_reducible apply up_tr); assumption)))⟩
  · have e : guessN h l y = (18446744073709551616 * h + l) / y := by unfold guessN; rw [if_neg hc]
    have hD := fun w => div64_any h l y hy hl (by omega) w
    rw [← e] at hD
    generalize guessN h l y = g at *
    generalize (18446744073709551616 * h + l) % y = r at *
    have HD := hid hD
    clear e hD
    go_enter Try.func69, Try.ntmps69
    go_wp2_with (go_at_call 64; (with_reducible refine (HD.out _).mono ?_); rintro e w' ⟨rfl, hu⟩)
    go_ret
    exact ⟨rfl, (by repeat (first | assumption | (with_reducible apply Up.of) | (with_reducible exact Below.refl _ _) | (with_reducible exact Up.refl _) | ((with_reducible apply bl_setRow); (focus (first | exact Nat.le_refl _ | (simp; done) | (simp; omega) | omega))) | (with_reducible apply below_drewN) | (with_reducible apply Below.drew) | ((with_reducible apply bl_alloc); (focus (first | exact Nat.le_refl _ | (simp; done) | (simp; omega) | omega))) | ((with_reducible apply bl_setCell); (focus (first | exact Nat.le_refl _ | (simp; done) | (simp; omega) | omega))) | ((with_reducible apply up_tr); assumption)))⟩
end Go.Proofs.Ytlkolfnklbldcaa
