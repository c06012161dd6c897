import Derived.Test.YtbmlkimgjkdaiaaDoorPa
import Derived.Deep.DeepCutAuto
import Derived.Deep.QuietTactic
import Derived.BigQuiet
import Derived.Deep.CutBlock
import Derived.Test.YtbmlkimgjkdaiaaDoorProg
import Derived.WalkKit
import Derived.LaidEql
import Derived.WideLaws
import Derived.Stop.Asserts
import Derived.Defers
import Derived.Recover
import Derived.Deep.LoopGhost
import Derived.RowKitTokens
import Derived.Laws.AppendOwn
import Derived.Laws.OwnMore
namespace Go.Proofs.YtbmlkimgjkdaiaaDoor
open Go Go.RowKit
set_option maxRecDepth 100000
theorem sumL_upd (f : Nat -> Nat) {k n : Nat} (v : Nat) (h : k < n) : sumL (upd f k v) n + f k * bp k = sumL f n + v * bp k := by
 induction n with
 | zero => omega
 | succ n ih =>
   rw [sumL_succ, sumL_succ]
   by_cases e : k = n
   ·subst e
    rw [sumL_upd_above f (Nat.le_refl k), upd_same]
    omega
   ·have := ih (by omega)
    rw [upd_other f k v (show n ≠ k by omega)]
    omega
theorem times_step {S P X sk yk r c c' b bi bk : Nat} {S' : Nat} (h : S + c * (bi * bk) = P + X * bi * b) (hu : S' + sk * (bi * bk) = S + r * (bi * bk)) (hr : r + c' * 18446744073709551616 = X * yk + sk + c) :
   S' + c' * (bi * bk * 18446744073709551616) = P + X * bi * (b + yk * bk) := by
 have h2 : (r + c' * 18446744073709551616) * (bi * bk) = (X * yk + sk + c) * (bi * bk) := by rw [hr]
 have h3 : S' + c' * (bi * bk * 18446744073709551616) + sk * (bi * bk) = P + X * bi * (b + yk * bk) + sk * (bi * bk) := by grind
 omega
theorem step_up (x y a b : Nat) (hx : x < 18446744073709551616) (hy : y < 18446744073709551616) (ha : a < 18446744073709551616) (hb' : b < 18446744073709551616) {r c : Nat} (hr : r = (x * y + a + b) % 18446744073709551616) (hc : c = (x * y + a + b) / 18446744073709551616) (w : World) :
   Calls Tryd.prog 56 #[.int .u64 x, .int .u64 y, .int .u64 a, .int .u64 b] w fun e w' => e = .returned (.tuple #[.int .u64 (r : Nat), .int .u64 (c : Nat)]) /\ Up w w' := by
 refine (step_any x y a b hx hy ha hb' w).mono ?_
 rintro e w' ⟨rfl, rfl⟩
 exact ⟨by rw [hr, hc], Up.refl _⟩
theorem step_bound {x y a b r c : Nat} (hx : x < 18446744073709551616) (hy : y < 18446744073709551616) (ha : a < 18446744073709551616) (hb' : b < 18446744073709551616) (hr : r = (x * y + a + b) % 18446744073709551616) (hc : c = (x * y + a + b) / 18446744073709551616) :
   r < 18446744073709551616 /\ c < 18446744073709551616 /\ r + c * 18446744073709551616 = x * y + a + b := by
 have h1 : x * y <= 18446744073709551615 * 18446744073709551615 := Nat.mul_le_mul (by omega) (by omega)
 generalize x * y = p at *
 omega
theorem sumL_zeros (n : Nat) : sumL (fun _ => 0) n = 0 := by
 induction n with
 | zero => exact sumL_zero _
 | succ n ih => rw [sumL_succ, ih]; simp
def prodV (p : Nat) : Value := .tuple #[wideV (if p < bp 16 then p else 0), .bool (decide (p < bp 16))]
theorem limb_len (x : Nat) (hx : x < bp 16) : sumL (limb x) (lenL (limb x) 16) = x := by
 rw [lenL_sum, sumL_limb, Nat.mod_eq_of_lt hx]
theorem long_prod {x y : Nat} (hx : x < bp 16) (hy : y < bp 16) (h : 17 < lenL (limb x) 16 + lenL (limb y) 16) : ¬ x * y < bp 16 := by
 have h1 := lenL_le (limb x) 16
 have h2 := lenL_le (limb y) 16
 have h3 := bp_le_of_len (limb x) 16 (by omega)
 have h4 := bp_le_of_len (limb y) 16 (by omega)
 rw [sumL_limb, Nat.mod_eq_of_lt hx] at h3
 rw [sumL_limb, Nat.mod_eq_of_lt hy] at h4
 have h5 := Nat.mul_le_mul h3 h4
 rw [<- bp_add] at h5
 have h6 := bp_mono (show 16 <= lenL (limb x) 16 - 1 + (lenL (limb y) 16 - 1) by omega)
 omega
theorem zeroW : wideV 0 = .agg (cells 16 (fun _ => 0)) := by
 unfold wideV
 rw [zero_limb, enc_zero]
set_option maxHeartbeats 2000000 in
theorem times_any (x y : Nat) (hx : x < bp 16) (hy : y < bp 16) (w : World) :
   Calls Tryd.prog 46 #[wideV x, wideV y] w fun e w' => e = .returned (prodV (x * y)) /\ Up w w' := by
 have HLX := hid (length_any x)
 have HLY := hid (length_any y)
 have hlx := lenL_le (limb x) 16
 have hly := lenL_le (limb y) 16
 have HSX := hid (limb_len x hx)
 have HSY := hid (limb_len y hy)
 by_cases hnm : 17 < lenL (limb x) 16 + lenL (limb y) 16
 ·have e : prodV (x * y) = .tuple #[.agg (cells 16 (fun _ => 0)), .bool false] := by
   have h := long_prod hx hy hnm
   unfold prodV
   rw [if_neg h, decide_eq_false h, zeroW]
  rw [e]
  clear e HSX HSY
  generalize lenL (limb x) 16 = n at *
  generalize lenL (limb y) 16 = m at *
  unfold wideV at *
  go_enter Tryd.func46, Tryd.ntmps46
  go_wp2
  refine opU (S := (fun wq => Row wq w.heap.size 80 16 (limb x) /\ Row wq (w.heap.size + 1) 80 16 (limb y) /\ Row wq (w.heap.size + 1 + 1) 80 16 (fun _ => 0) /\ Below w.heap.size w wq)) (req := (fun _ => true)) (fun _ _ h hu => ⟨(h.1).up hu, (h.2.1).up hu, (h.2.2.1).up hu, below_up (h.2.2.2) hu⟩) ⟨gRow, gRow, gRow, gUp⟩ (fun wS hSS hSu => ?_)
  have ⟨hS1, hS2, hS3, hSB⟩ := hSS
  refine tkT 0 (some 12) rfl hSu hSS ?_ (hy := fun w' hSw => run_ld undW infoW _ rfl _ rfl hSw.1)
  refine tkC 1 (some 13) rfl hSu hSS ?_ (hy := fun w' hSw => (HLX.out _))
  refine tkT 2 (some 14) rfl hSu hSS ?_ (hy := fun w' hSw => run_ld undW infoW _ rfl _ rfl hSw.2.1)
  refine tkC 3 (some 15) rfl hSu hSS ?_ (hy := fun w' hSw => (HLY.out _))
  refine tkP 4 (some 6) hSu ?_
  refine tkP 5 (some 7) hSu ?_
  refine wpAnyU_done (by kernel_rfl) (fun wE huE => ?_) _
  have ⟨hS1, hS2, hS3, hSB⟩ := hSu.out _ _ hSS huE
  clear huE hSS
  go_wp2_with (first | ((with_reducible apply ld_rowP undW infoW); exact rfl; exact rfl; exact gRow) | ((with_reducible apply st_rowP infoW); exact rfl; exact rfl; exact gRow) | ((with_reducible apply st_rowZ infoW); exact rfl; exact rfl; exact gRow))
  exact bodyPost_ret (res2 rfl undW infoW _ _ rfl gRow) rfl ⟨rfl, gUp⟩
 ·generalize lenL (limb x) 16 = n at *
  generalize lenL (limb y) 16 = m at *
  have hlb := bp16
  have h19 : decide (17 < (n : Int) + (m : Int)) = false := decide_eq_false (by omega)
  unfold wideV at *
  go_enter Tryd.func46, Tryd.ntmps46
  go_wp2
  refine opU (S := (fun wq => Row wq w.heap.size 80 16 (limb x) /\ Row wq (w.heap.size + 1) 80 16 (limb y) /\ Row wq (w.heap.size + 1 + 1) 80 16 (fun _ => 0) /\ Below w.heap.size w wq)) (req := (fun _ => true)) (fun _ _ h hu => ⟨(h.1).up hu, (h.2.1).up hu, (h.2.2.1).up hu, below_up (h.2.2.2) hu⟩) ⟨gRow, gRow, gRow, gUp⟩ (fun wS hSS hSu => ?_)
  have ⟨hS1, hS2, hS3, hSB⟩ := hSS
  refine tkT 0 (some 12) rfl hSu hSS ?_ (hy := fun w' hSw => run_ld undW infoW _ rfl _ rfl hSw.1)
  refine tkC 1 (some 13) rfl hSu hSS ?_ (hy := fun w' hSw => (HLX.out _))
  refine tkT 2 (some 14) rfl hSu hSS ?_ (hy := fun w' hSw => run_ld undW infoW _ rfl _ rfl hSw.2.1)
  refine tkC 3 (some 15) rfl hSu hSS ?_ (hy := fun w' hSw => (HLY.out _))
  refine tkP 4 (some 6) hSu ?_
  refine tkP 5 (some 7) hSu ?_
  refine wpAnyU_done (by kernel_rfl) (fun wE huE => ?_) _
  have ⟨hS1, hS2, hS3, hSB⟩ := hSu.out _ _ hSS huE
  clear huE hSS
  have hsz := hS3.lt
  go_wp2_with (first | ((with_reducible apply ld_rowP undW infoW); exact rfl; exact rfl; exact gRow) | ((with_reducible apply st_rowP infoW); exact rfl; exact rfl; exact gRow) | ((with_reducible apply st_rowZ infoW); exact rfl; exact rfl; exact gRow))
  go_loopw [22] (fun t wr => ∃ (i : Nat) (S : Nat -> Nat), i <= n /\ t = .int .i64 i /\ (∀ j, j < 17 -> S j < 18446744073709551616) /\ sumL S 17 = sumL (limb x) i * sumL (limb y) m /\ (∀ j, i + m <= j -> j < 17 -> S j = 0) /\
     Row wr w.heap.size 80 16 (limb x) /\ Row wr (w.heap.size + 1) 80 16 (limb y) /\ Row wr (w.heap.size + 1 + 1) 80 16 (fun _ => 0) /\ Row wr wE.heap.size 119 17 S /\ Below w.heap.size w wr)
   (fun t _ => n - (intOf t).toNat)
  case atStart => exact ⟨0, fun _ => 0, by omega, rfl, fun i h => by simp, by rw [sumL_zero, Nat.zero_mul]; exact sumL_zeros 17, fun _ _ _ => rfl, gRow, gRow, gRow, row_newz17 _ rfl, bl_alloc (by omega) hSB⟩
  case round =>
   obtain ⟨i, S, hi, rfl, hSb, hsum, hz, hX, hY, hR, hM, hB⟩ := hrel
   have HSb := hid hSb
   have Hsum := hid hsum
   have Hz := hid hz
   clear hSb hsum hz hS1 hS2 hS3 hSB
   obtain ⟨wo, rfl⟩ : ∃ wo : World, wo = wr := ⟨_, rfl⟩
   by_cases hlt : i < n
   ·have hi16 : (i : Int) < 16 := by omega
    go_wp2
    go_loopw [10, 26] (fun tc t wi => ∃ (k c : Nat) (S' : Nat -> Nat), k <= m /\ t = .int .i64 k /\ tc = .int .u64 c /\ c < 18446744073709551616 /\ (∀ j, j < 17 -> S' j < 18446744073709551616) /\
       sumL S' 17 + c * (bp i * bp k) = sumL (limb x) i * sumL (limb y) m + limb x i * bp i * sumL (limb y) k /\ (∀ j, i + m <= j -> j < 17 -> S' j = 0) /\
       Row wi w.heap.size 80 16 (limb x) /\ Row wi (w.heap.size + 1) 80 16 (limb y) /\ Row wi (w.heap.size + 1 + 1) 80 16 (fun _ => 0) /\ Row wi wE.heap.size 119 17 S' /\ Below w.heap.size w wi)
     (fun _ t _ => m - (intOf t).toNat)
    case atStart => exact ⟨0, 0, S, by omega, rfl, rfl, by omega, HSb.out, by rw [sumL_zero, Hsum.out]; omega, Hz.out, hX, hY, hR, hM, hB⟩
    case round =>
     clear hX hY hR hM hB HSb Hsum Hz
     obtain ⟨k, c, S', hk, rfl, rfl, hc, hSb, hsum, hz, hX, hY, hR, hM, hB⟩ := hrel
     have HSb := hid hSb
     have Hsum := hid hsum
     have Hz := hid hz
     clear hSb hsum hz
     by_cases hkt : k < m
     ·obtain ⟨r, er⟩ : ∃ r, r = (limb x i * limb y k + S' (i + k) + c) % 18446744073709551616 := ⟨_, rfl⟩
      obtain ⟨c', ec⟩ : ∃ c', c' = (limb x i * limb y k + S' (i + k) + c) / 18446744073709551616 := ⟨_, rfl⟩
      have hlx' := limb_lt x i
      have hly' := limb_lt y k
      have hsk := HSb.out (i + k) (by omega)
      have HC := hid (fun w => step_up _ _ _ _ hlx' hly' hsk hc er ec w)
      obtain ⟨hr, hc', hrc⟩ := step_bound hlx' hly' hsk hc er ec
      have Hrc := hid hrc
      clear er ec hrc
      have hk16 : (k : Int) < 16 := by omega
      have hik : (i : Int) + (k : Int) < 17 := by omega
      have hik0 : (0 : Int) <= (i : Int) + (k : Int) := by omega
      have E1 : Hid (IntKind.i64.wrap ((i : Int) + (k : Int)) = (i : Int) + (k : Int)) := hid (IntWalk.i64_in _ (by omega))
      have E2 : Hid (((i : Int) + (k : Int)).toNat = i + k) := hid (by omega)
      have hcx := hX.cell i (by omega)
      have hcy := hY.cell k (by omega)
      have hcs := hM.cell (i + k) (by omega)
      go_wp2
      refine opU (S := (fun wq => Row wq w.heap.size 80 16 (limb x) /\ Row wq (w.heap.size + 1) 80 16 (limb y) /\ Row wq (w.heap.size + 1 + 1) 80 16 (fun _ => 0) /\ Row wq wE.heap.size 119 17 S' /\ wq.cell? ⟨w.heap.size, i, none⟩ = some (.int .u64 (limb x i : Nat)) /\ wq.cell? ⟨w.heap.size + 1, k, none⟩ = some (.int .u64 (limb y k : Nat)) /\ wq.cell? ⟨wE.heap.size, i + k, none⟩ = some (.int .u64 (S' (i + k) : Nat)) /\ Below w.heap.size w wq)) (req := (fun j => j != 20)) (fun _ _ h hu => ⟨(h.1).up hu, (h.2.1).up hu, (h.2.2.1).up hu, (h.2.2.2.1).up hu, hu.cell (h.2.2.2.2.1), hu.cell (h.2.2.2.2.2.1), hu.cell (h.2.2.2.2.2.2.1), below_up (h.2.2.2.2.2.2.2) hu⟩) ⟨gRow, gRow, gRow, gRow, (by first | assumption | (apply Blk.cell; exact gBlk; exact rfl)), (by first | assumption | (apply Blk.cell; exact gBlk; exact rfl)), (by first | assumption | (apply Blk.cell; exact gBlk; exact rfl)), gUp⟩ (fun wS hSS hSu => ?_)
      have ⟨hS1, hS2, hS3, hS4, hS5, hS6, hS7, hSB⟩ := hSS
      clear hcx hcy hcs hX hY hR hM hB
      refine tkP 0 (some 30) hSu ?_
      refine tkP 1 (some 31) hSu ?_
      refine tkT 2 (some 32) rfl hSu hSS ?_ (hy := fun w' hSw => by (have e1 := E1.out; go_simp; (try exact rfl)))
      refine tkP 3 (some 33) hSu ?_
      refine tkP 4 (some 34) hSu ?_
      refine tkT 5 (some 35) rfl hSu hSS ?_ (hy := fun w' hSw => by ((try dsimp only at hSw); (try obtain ⟨_, _, _, _, _, _, _, _⟩ := hSw); go_simp; (try exact rfl)))
      refine tkP 6 (some 36) hSu ?_
      refine tkP 7 (some 37) hSu ?_
      refine tkT 8 (some 38) rfl hSu hSS ?_ (hy := fun w' hSw => by ((try dsimp only at hSw); (try obtain ⟨_, _, _, _, _, _, _, _⟩ := hSw); go_simp; (try exact rfl)))
      refine tkP 9 (some 39) hSu ?_
      refine tkP 10 (some 40) hSu ?_
      refine tkT 11 (some 41) rfl hSu hSS ?_ (hy := fun w' hSw => by (have e1 := E1.out; go_simp; (try exact rfl)))
      refine tkT 12 (some 42) rfl hSu hSS ?_ (hy := fun w' hSw => by (have e2 := E2.out; go_simp; (try exact rfl)))
      refine tkT 13 (some 43) rfl hSu hSS ?_ (hy := fun w' hSw => by ((try dsimp only at hSw); (try obtain ⟨_, _, _, _, _, _, _, _⟩ := hSw); go_simp; (try exact rfl)))
      refine tkP 14 (some 44) hSu ?_
      refine tkC 15 (some 45) rfl hSu hSS ?_ (hy := fun w' hSw => (HC.out _))
      refine tkP 16 (some 29) hSu ?_
      refine tkP 17 (some 46) hSu ?_
      refine tkP 18 (some 47) hSu ?_
      refine tkT 19 (some 48) rfl hSu hSS ?_ (hy := fun w' hSw => by (have e2 := E2.out; go_simp; (try exact rfl)))
      refine wpAnyU_one (i := 20) rfl (by kernel_rfl) (by rfl) fun w1 hw1 => ?_
      have hcW := (hS4.up hw1).cell (i+k) (by omega)
      have hfW := (hS4.up hw1).frozen (i+k)
      go_simp
      clear hcW hfW
      refine tkP 21 (some 10) hSu ?_
      refine wpAnyU_done (by kernel_rfl) (fun wF huE => ?_) _
      have hne := hS4.lt
      have gX := ((hS1.up hw1).other ⟨wE.heap.size, i + k, none⟩ (.int .u64 (r : Nat)) (by simp; omega)).up huE
      have gY := ((hS2.up hw1).other ⟨wE.heap.size, i + k, none⟩ (.int .u64 (r : Nat)) (by simp; omega)).up huE
      have gR := ((hS3.up hw1).other ⟨wE.heap.size, i + k, none⟩ (.int .u64 (r : Nat)) (by simp; omega)).up huE
      have gM := ((hS4.up hw1).set (i + k) r).up huE
      have gB := below_up ((below_up hSB hw1).setCell (p := ⟨wE.heap.size, i + k, none⟩) (by simp; omega) (.int .u64 (r : Nat))) huE
      clear hS1 hS2 hS3 hS4 hS5 hS6 hS7 hSB hSS hw1 huE hne
      go_wp2
      go_roundw
      case rel =>
       refine ⟨k + 1, c', upd S' (i + k) r, by omega, by go_num, rfl, hc', upd_lt HSb.out hr, ?_, fun j h1 h2 => by rw [upd_other _ _ _ (by omega)]; exact Hz.out j h1 h2, gX, gY, gR, gM, gB⟩
       have h2 := sumL_upd S' r (show i + k < 17 by omega)
       rw [bp_add] at h2
       rw [bp_succ, sumL_succ (limb y) k, <- Nat.mul_assoc (bp i)]
       exact times_step Hsum.out h2 Hrc.out
      case measure => simp [intOf] <;> omega
     ·obtain rfl : k = m := by omega
      have him : (i : Int) + (k : Int) < 17 := by omega
      have him0 : (0 : Int) <= (i : Int) + (k : Int) := by omega
      have E2 : ((i : Int) + (k : Int)).toNat = i + k := by omega
      have hcs := hM.cell (i + k) (by omega)
      have hfs := hM.frozen (i + k)
      have gX := hX.other ⟨wE.heap.size, i + k, none⟩ (.int .u64 (c : Nat)) (by simp; omega)
      have gY := hY.other ⟨wE.heap.size, i + k, none⟩ (.int .u64 (c : Nat)) (by simp; omega)
      have gR := hR.other ⟨wE.heap.size, i + k, none⟩ (.int .u64 (c : Nat)) (by simp; omega)
      have gM := hM.set (i + k) c
      have gB := hB.setCell (p := ⟨wE.heap.size, i + k, none⟩) (by simp; omega) (.int .u64 (c : Nat))
      clear hX hY hR hM hB
      go_wp2
      go_roundw
      case rel =>
       refine ⟨i + 1, upd S' (i + k) c, by omega, by go_num, upd_lt HSb.out hc, ?_, fun j h1 h2 => by rw [upd_other _ _ _ (by omega)]; exact Hz.out j (by omega) h2, gX, gY, gR, gM, gB⟩
       have h2 := sumL_upd S' c (show i + k < 17 by omega)
       have h3 := Hz.out (i + k) (Nat.le_refl _) (by omega)
       have h4 := Hsum.out
       rw [bp_add, h3, Nat.zero_mul, Nat.add_zero] at h2
       rw [h2, sumL_succ (limb x) i, Nat.add_mul]
       exact h4
      case measure => simp [intOf] <;> omega
   ·obtain rfl : i = n := by omega
    have hprod := Hsum.out
    rw [HSX.out, HSY.out, sumL_succ] at hprod
    have hlt16 := sumL_lt (f := S) (k := 16) fun j hj => HSb.out j (by omega)
    have hfull : sumL S 17 = x * y := by rw [sumL_succ]; exact hprod
    have hcs := hM.cell 16 (by omega)
    have hRA := right_any S HSb.out 0 (by decide)
    rw [hfull, Nat.pow_zero, Nat.div_one] at hRA
    by_cases h0 : S 16 = 0
    ·have hp : x * y < bp 16 := by rw [<- hprod, h0]; omega
     have e : prodV (x * y) = .tuple #[wideV (x * y), .bool true] := by
      unfold prodV; rw [if_pos hp, decide_eq_true hp]
     have He := hid e
     rw [Nat.mod_eq_of_lt hp] at hRA
     unfold longV at hRA
     have HRA := hid hRA
     rw [h0] at hcs
     clear hfull hlt16 hprod h0 hRA e HSX HSY Hz Hsum
     go_wp2_with (first | ((with_reducible apply ld_rowP undL infoL); exact rfl; exact rfl; exact hM) | ((with_reducible apply st_rowP infoW); exact rfl; exact rfl; exact gRow) | ((with_reducible apply st_rowZ infoW); exact rfl; exact rfl; exact gRow) | (go_at_call 57; refine (HRA.out _).mono ?_; rintro e w' ⟨rfl, hu⟩))
     exact bodyPost_ret (res2 rfl undW infoW _ _ rfl gRow) rfl ⟨by rw [He.out]; rfl, gUp⟩
    ·have hp : ¬ x * y < bp 16 := by
      have : 1 * bp 16 <= S 16 * bp 16 := Nat.mul_le_mul_right _ (by omega)
      rw [<- hprod]; omega
     have e : prodV (x * y) = .tuple #[.agg (cells 16 (fun _ => 0)), .bool false] := by
      unfold prodV
      rw [if_neg hp, decide_eq_false hp, zeroW]
     have He := hid e
     have hb16 : ((S 16 : Int) != 0) = true := by simp; omega
     clear hfull hlt16 hprod hRA e HSX HSY Hz Hsum h0
     generalize S 16 = top at *
     go_wp2_with (first | ((with_reducible apply st_rowP infoW); exact rfl; exact rfl; exact gRow) | ((with_reducible apply st_rowZ infoW); exact rfl; exact rfl; exact gRow))
     exact bodyPost_ret (res2 rfl undW infoW _ _ rfl gRow) rfl ⟨by rw [He.out]; rfl, gUp⟩
theorem wp_st_rowN {P : Program} {t : TypeId} {n : Nat} {o : Oper} {a : Act} {w : World} {K : Act -> World -> Prop} {Q : Exit -> Act -> World -> Prop} (hi : (P.info? t).map (·.size) = some n) (hd : o.dst = none) (x y : Operand) (ho : o.op = .store t x y) (g : Nat)
   (hx : a.eval x = .pointer (some ⟨g, 0, none⟩)) {f v : Nat -> Nat} (hy : a.eval y = .agg (cells n v)) (hC : Row w g t n f) (h : K a (w.setRow g (cells n v))) : o.wp P a w K Q :=
 wp_st_row hi x y ho g hx hy hC (by rw [hd]; exact h)
theorem run_allocW {o : Oper} {a : Act} (ho : o.op = .alloc 80) (w : World) :
   (execOp a.eval o).run Tryd.prog w = .ok (.value (.pointer (some ⟨w.heap.size, 0, none⟩))) (w.alloc (.cells (cells 16 (fun _ => 0)) 80)) := by
 rw [<- zeros16]
 unfold execOp
 rw [ho]
 dsimp only
 go_simp
theorem wpAnyU_allocW {ops : Array Oper} {Q : Exit -> Act -> World -> Prop} {md : Region.Mode} {S : World -> Prop} {req : Nat -> Bool} {i : Nat} {o : Oper} {d : Option Tmp} {fuel : Nat} {listed : Array Bool} {a : Act} {w : World}
   (hi : ops[i]? = some o) (hd : o.dst = d) (hr : Region.ready md ops listed = [i]) (hw : Region.wanted o (yielded ops a.tmps) = true) (ho : o.op = .alloc 80) (hSup : ∀ w w', S w -> Up w w' -> S w')
   (h : ∀ w1, Up w w1 -> wpAnyU Tryd.prog md ops Q S req fuel (listed.setIfInBounds i true) (a.put d (.pointer (some ⟨w1.heap.size, 0, none⟩))) (w1.alloc (.cells (cells 16 (fun _ => 0)) 80))) : wpAnyU Tryd.prog md ops Q S req (fuel + 1) listed a w := by
 subst hd
 refine wpAnyU_one hi hr hw fun w1 hw1 => ?_
 unfold Oper.wp
 rw [run_allocW ho w1]
 exact ⟨fun _ hS => hSup _ _ hS (Up.alloc _ _), h w1 hw1⟩
theorem pm_mul (a b : Int) {sa sb : Bool} (ha : sa = decide (a < 0)) (hb' : sb = decide (b < 0)) : pm (sa != sb) (a.natAbs * b.natAbs) = a * b := by
 subst ha; subst hb'
 by_cases h1 : a < 0
 ·obtain ⟨n, e⟩ : ∃ n : Nat, a = -(n : Int) := ⟨a.natAbs, by omega⟩
  by_cases h2 : b < 0
  ·obtain ⟨m, f⟩ : ∃ m : Nat, b = -(m : Int) := ⟨b.natAbs, by omega⟩
   rw [decide_eq_true h1, decide_eq_true h2, e, f, Int.natAbs_neg, Int.natAbs_neg, Int.neg_mul_neg]
   rfl
  ·obtain ⟨m, f⟩ : ∃ m : Nat, b = (m : Int) := ⟨b.natAbs, by omega⟩
   rw [decide_eq_true h1, decide_eq_false h2, e, f, Int.natAbs_neg, Int.neg_mul]
   rfl
 ·obtain ⟨n, e⟩ : ∃ n : Nat, a = (n : Int) := ⟨a.natAbs, by omega⟩
  by_cases h2 : b < 0
  ·obtain ⟨m, f⟩ : ∃ m : Nat, b = -(m : Int) := ⟨b.natAbs, by omega⟩
   rw [decide_eq_false h1, decide_eq_true h2, e, f, Int.natAbs_neg, Int.mul_neg]
   rfl
  ·obtain ⟨m, f⟩ : ∃ m : Nat, b = (m : Int) := ⟨b.natAbs, by omega⟩
   rw [decide_eq_false h1, decide_eq_false h2, e, f]
   rfl
theorem mul_not {a b : Int} (h : ¬ a.natAbs * b.natAbs < bp 16) : ¬ InR (a * b) := fun hr => by
 have h1 := enc_natAbs hr
 rw [Int.natAbs_mul] at h1
 exact h h1.2
set_option maxHeartbeats 2000000 in
theorem mul_z {a b : Int} (ha : InR a) (hb' : InR b) (w : World) :
   Calls Tryd.prog 33 #[wideV (enc a), wideV (enc b)] w fun e w' => e = .returned (opt (a * b)) /\ Up w w' := by
 have HA := hid (fun w => amount_z ha w)
 have HB := hid (fun w => amount_z hb' w)
 have hT := fun w => times_any _ _ (enc_natAbs ha).2 (enc_natAbs hb').2 w
 have hMA := fun w => minus_z ha w
 have hMB := fun w => minus_z hb' w
 obtain ⟨sa, ea⟩ : ∃ sa, sa = decide (a < 0) := ⟨_, rfl⟩
 obtain ⟨sb, eb⟩ : ∃ sb, sb = decide (b < 0) := ⟨_, rfl⟩
 rw [<- ea] at hMA
 rw [<- eb] at hMB
 have HMA := hid hMA
 have HMB := hid hMB
 clear hMA hMB
 by_cases hp : a.natAbs * b.natAbs < bp 16
 ·have hv : prodV (a.natAbs * b.natAbs) = .tuple #[wideV (a.natAbs * b.natAbs), .bool true] := by
   unfold prodV; rw [if_pos hp, decide_eq_true hp]
  rw [hv] at hT
  have HT := hid hT
  have hS := fun w => signed_any hp (!(sa == sb)) w
  have epm := pm_mul a b ea eb
  change pm (!(sa == sb)) _ = _ at epm
  rw [epm] at hS
  have HS := hid hS
  clear hT hS hv ea eb epm
  generalize a.natAbs * b.natAbs = p at *
  generalize a.natAbs = m at *
  generalize b.natAbs = n at *
  obtain ⟨v, ok, ho⟩ : ∃ v ok, opt (a * b) = .tuple #[.agg (cells 16 (limb v)), .bool ok] := ⟨_, _, rfl⟩
  rw [ho] at HS ⊢
  clear ho
  unfold wideV at *
  go_enter Tryd.func33, Tryd.ntmps33
  go_wp2
  refine opU (S := (fun wq => Row wq w.heap.size 80 16 (limb (enc a)) /\ Row wq (w.heap.size + 1) 80 16 (limb (enc b)) /\ Row wq (w.heap.size + 1 + 1) 80 16 (fun _ => 0) /\ Below w.heap.size w wq)) (req := (fun j => j != 9)) (fun _ _ h hu => ⟨(h.1).up hu, (h.2.1).up hu, (h.2.2.1).up hu, below_up (h.2.2.2) hu⟩) ⟨gRow, gRow, gRow, gUp⟩ (fun wS hSS hSu => ?_)
  have ⟨hS1, hS2, hS3, hSB⟩ := hSS
  refine tkT 0 (some 9) rfl hSu hSS ?_ (hy := fun w' hSw => run_ld undW infoW _ rfl _ rfl hSw.1)
  refine tkC 1 (some 10) rfl hSu hSS ?_ (hy := fun w' hSw => (HA.out _))
  refine tkT 2 (some 11) rfl hSu hSS ?_ (hy := fun w' hSw => run_ld undW infoW _ rfl _ rfl hSw.2.1)
  refine tkC 3 (some 12) rfl hSu hSS ?_ (hy := fun w' hSw => (HB.out _))
  refine tkC 4 (some 13) rfl hSu hSS ?_ (hy := fun w' hSw => (HT.out _))
  refine tkP 5 (some 8) hSu ?_
  refine tkP 6 (some 14) hSu ?_
  refine tkP 7 (some 15) hSu ?_
  refine wpAnyU_allocW (i := 8) (d := (some 6)) rfl rfl (by kernel_rfl) (by rfl) rfl hSu.out fun w1 hw1 => ?_
  try simp only [Act.put, pu1, pu2, pu3]
  refine wpAnyU_one (i := 9) rfl (by kernel_rfl) (by rfl) fun w2 hw2 => ?_
  refine wp_st_rowN infoW rfl _ _ rfl _ rfl rfl ((Row.up (row_newc _ 16 _ rfl) hw2)) ?_
  refine ⟨fun h => by simp at h, ?_⟩
  try simp only [Act.put, pu1, pu2, pu3]
  refine tkP 10 (some 7) hSu ?_
  refine wpAnyU_done (by kernel_rfl) (fun wF huE => ?_) _
  have gX := ((((hS1.up hw1).up (Up.alloc _ _)).up hw2).row_other (cells 16 (limb p)) (show w.heap.size ≠ w1.heap.size by have := (hS1.up hw1).lt; omega)).up huE
  have gY := ((((hS2.up hw1).up (Up.alloc _ _)).up hw2).row_other (cells 16 (limb p)) (show w.heap.size + 1 ≠ w1.heap.size by have := (hS2.up hw1).lt; omega)).up huE
  have gR := ((((hS3.up hw1).up (Up.alloc _ _)).up hw2).row_other (cells 16 (limb p)) (show w.heap.size + 1 + 1 ≠ w1.heap.size by have := (hS3.up hw1).lt; omega)).up huE
  have gP := ((Row.up (row_newc 80 16 (fun _ => 0) (rfl : w1.heap.size = w1.heap.size)) hw2).setRow (limb p)).up huE
  have gB : Below w.heap.size w wF := below_up (below_setRow (below_up ((below_up hSB hw1).alloc (by have := (hS3.up hw1).lt; omega) _) hw2) (by have := (hS3.up hw1).lt; omega) _) huE
  have hne := (hS3.up hw1).lt
  clear hS1 hS2 hS3 hSB hSS hw1 hw2 huE
  generalize w1.heap.size = pb at *
  go_wp2
  refine opU (S := (fun wq => Row wq w.heap.size 80 16 (limb (enc a)) /\ Row wq (w.heap.size + 1) 80 16 (limb (enc b)) /\ Row wq (w.heap.size + 1 + 1) 80 16 (fun _ => 0) /\ Row wq pb 80 16 (limb p) /\ Below w.heap.size w wq)) (req := (fun j => j != 9)) (fun _ _ h hu => ⟨(h.1).up hu, (h.2.1).up hu, (h.2.2.1).up hu, (h.2.2.2.1).up hu, below_up (h.2.2.2.2) hu⟩) ⟨gRow, gRow, gRow, gRow, gUp⟩ (fun wS hSS hSu => ?_)
  have ⟨hS1, hS2, hS3, hS4, hSB⟩ := hSS
  clear gX gY gR gP gB
  refine tkT 0 (some 19) rfl hSu hSS ?_ (hy := fun w' hSw => run_ld undW infoW _ rfl _ rfl hSw.2.2.2.1)
  refine tkT 1 (some 20) rfl hSu hSS ?_ (hy := fun w' hSw => run_ld undW infoW _ rfl _ rfl hSw.1)
  refine tkC 2 (some 21) rfl hSu hSS ?_ (hy := fun w' hSw => (HMA.out _))
  refine tkT 3 (some 22) rfl hSu hSS ?_ (hy := fun w' hSw => run_ld undW infoW _ rfl _ rfl hSw.2.1)
  refine tkC 4 (some 23) rfl hSu hSS ?_ (hy := fun w' hSw => (HMB.out _))
  refine tkP 5 (some 24) hSu ?_
  refine tkC 6 (some 25) rfl hSu hSS ?_ (hy := fun w' hSw => (HS.out _))
  refine tkP 7 (some 26) hSu ?_
  refine tkP 8 (some 27) hSu ?_
  refine wpAnyU_one (i := 9) rfl (by kernel_rfl) (by rfl) fun w4 hw4 => ?_
  refine wp_st_rowN infoW rfl _ _ rfl _ rfl rfl ((hS3.up hw4)) ?_
  refine ⟨fun h => by simp at h, ?_⟩
  try simp only [Act.put, pu1, pu2, pu3]
  refine tkP 10 (some 5) hSu ?_
  refine wpAnyU_done (by kernel_rfl) (fun wF huE => ?_) _
  have gR := ((hS3.up hw4).setRow (limb v)).up huE
  have gB := below_up (below_setRow (below_up hSB hw4) (by omega) _) huE
  clear hS1 hS2 hS3 hS4 hSB hSS hw4 huE
  go_wp2
  exact bodyPost_ret (res2 rfl undW infoW _ _ rfl gR) rfl ⟨rfl, gB⟩
 ·have hv : prodV (a.natAbs * b.natAbs) = .tuple #[.agg (cells 16 (fun _ => 0)), .bool false] := by
   unfold prodV
   rw [if_neg hp, decide_eq_false hp, zeroW]
  rw [hv] at hT
  have HT := hid hT
  have ho := opt_no (mul_not hp)
  rw [ho]
  clear hT hv ea eb ho hp
  generalize a.natAbs = m at *
  generalize b.natAbs = n at *
  unfold wideV at *
  go_enter Tryd.func33, Tryd.ntmps33
  go_wp2
  refine opU (S := (fun wq => Row wq w.heap.size 80 16 (limb (enc a)) /\ Row wq (w.heap.size + 1) 80 16 (limb (enc b)) /\ Row wq (w.heap.size + 1 + 1) 80 16 (fun _ => 0) /\ Below w.heap.size w wq)) (req := (fun j => j != 9)) (fun _ _ h hu => ⟨(h.1).up hu, (h.2.1).up hu, (h.2.2.1).up hu, below_up (h.2.2.2) hu⟩) ⟨gRow, gRow, gRow, gUp⟩ (fun wS hSS hSu => ?_)
  have ⟨hS1, hS2, hS3, hSB⟩ := hSS
  refine tkT 0 (some 9) rfl hSu hSS ?_ (hy := fun w' hSw => run_ld undW infoW _ rfl _ rfl hSw.1)
  refine tkC 1 (some 10) rfl hSu hSS ?_ (hy := fun w' hSw => (HA.out _))
  refine tkT 2 (some 11) rfl hSu hSS ?_ (hy := fun w' hSw => run_ld undW infoW _ rfl _ rfl hSw.2.1)
  refine tkC 3 (some 12) rfl hSu hSS ?_ (hy := fun w' hSw => (HB.out _))
  refine tkC 4 (some 13) rfl hSu hSS ?_ (hy := fun w' hSw => (HT.out _))
  refine tkP 5 (some 8) hSu ?_
  refine tkP 6 (some 14) hSu ?_
  refine tkP 7 (some 15) hSu ?_
  refine wpAnyU_allocW (i := 8) (d := (some 6)) rfl rfl (by kernel_rfl) (by rfl) rfl hSu.out fun w1 hw1 => ?_
  try simp only [Act.put, pu1, pu2, pu3]
  refine wpAnyU_one (i := 9) rfl (by kernel_rfl) (by rfl) fun w2 hw2 => ?_
  refine wp_st_rowN infoW rfl _ _ rfl _ rfl rfl ((Row.up (row_newc _ 16 _ rfl) hw2)) ?_
  refine ⟨fun h => by simp at h, ?_⟩
  try simp only [Act.put, pu1, pu2, pu3]
  refine tkP 10 (some 7) hSu ?_
  refine wpAnyU_done (by kernel_rfl) (fun wF huE => ?_) _
  have gR := ((((hS3.up hw1).up (Up.alloc _ _)).up hw2).row_other (cells 16 (fun _ => 0)) (show w.heap.size + 1 + 1 ≠ w1.heap.size by have := (hS3.up hw1).lt; omega)).up huE
  have gB : Below w.heap.size w wF := below_up (below_setRow (below_up ((below_up hSB hw1).alloc (by have := (hS3.up hw1).lt; omega) _) hw2) (by have := (hS3.up hw1).lt; omega) _) huE
  clear hS1 hS2 hS3 hSB hSS hw1 hw2 huE
  go_wp2_with (first | ((with_reducible apply st_rowP infoW); exact rfl; exact rfl; exact gRow) | ((with_reducible apply st_rowZ infoW); exact rfl; exact rfl; exact gRow))
  exact bodyPost_ret (res2 rfl undW infoW _ _ rfl gRow) rfl ⟨rfl, gUp⟩
structure IsP (p : Prop) (b : Bool) : Prop where
 out : b = true ↔ p
theorem IsP.yes {p : Prop} (h : p) : IsP p true := ⟨by simp [h]⟩
theorem IsP.no {p : Prop} (h : ¬ p) : IsP p false := ⟨by simp [h]⟩
theorem IsP.dec {p : Prop} {b : Bool} [Decidable p] (h : IsP p b) : decide p = b := by
 rw [Bool.eq_iff_iff, decide_eq_true_iff]; exact h.out.symm
theorem op_addN {P : Program} {o : Oper} {a : Act} {x y : Operand} {t u : TypeId} {X Y : Nat} (ho : o.op = .binOp .add t x y u) (hx : a.eval x = .int .u64 (X : Nat)) (hy : a.eval y = .int .u64 (Y : Nat))  (w : World) :
   (execOp a.eval o).run P w = .ok (.value (.int .u64 (((X + Y) % 18446744073709551616 : Nat) : Int))) w := by
 have e : IntKind.u64.wrap ((X : Int) + (Y : Int)) = (((X + Y) % 18446744073709551616 : Nat) : Int) := by rw [IntKind.wrap_u64]; omega
 unfold execOp
 simp only [ho, hx, hy, eqGuard, binOp, Op.intArith, e]
 simp
theorem addNP {P : Program} {t u : TypeId} {ops : Array Oper} {rest : List Oper} {Q : Exit -> Act -> World -> Prop} {a : Act} {w : World} {d : Option Tmp} {x y : Operand} {ty : TypeId} {pos : String} {af : Array Edge} {gd : Option (Nat × Bool)} {X Y : Nat}
   (hw : Region.wanted { dst := d, op := .binOp .add t x y u, type := ty, pos := pos, after := af, guard := gd } (yielded ops a.tmps) = true) (hx : a.eval x = .int .u64 (X : Nat)) (hy : a.eval y = .int .u64 (Y : Nat)) 
   (h : wpList P ops Q rest (a.put d (.int .u64 (((X + Y) % 18446744073709551616 : Nat) : Int))) w) : wpList P ops Q ({ dst := d, op := .binOp .add t x y u, type := ty, pos := pos, after := af, guard := gd } :: rest) a w := wpList_run hw (op_addN rfl hx hy  w) h
theorem op_mulN {P : Program} {o : Oper} {a : Act} {x y : Operand} {t u : TypeId} {X Y : Nat} (ho : o.op = .binOp .mul t x y u) (hx : a.eval x = .int .u64 (X : Nat)) (hy : a.eval y = .int .u64 (Y : Nat))  (w : World) :
   (execOp a.eval o).run P w = .ok (.value (.int .u64 ((X * Y % 18446744073709551616 : Nat) : Int))) w := by
 have e : IntKind.u64.wrap ((X : Int) * (Y : Int)) = ((X * Y % 18446744073709551616 : Nat) : Int) := by rw [IntKind.wrap_u64, <- Int.natCast_mul]; omega
 unfold execOp
 simp only [ho, hx, hy, eqGuard, binOp, Op.intArith, e]
 simp
theorem mulNP {P : Program} {t u : TypeId} {ops : Array Oper} {rest : List Oper} {Q : Exit -> Act -> World -> Prop} {a : Act} {w : World} {d : Option Tmp} {x y : Operand} {ty : TypeId} {pos : String} {af : Array Edge} {gd : Option (Nat × Bool)} {X Y : Nat}
   (hw : Region.wanted { dst := d, op := .binOp .mul t x y u, type := ty, pos := pos, after := af, guard := gd } (yielded ops a.tmps) = true) (hx : a.eval x = .int .u64 (X : Nat)) (hy : a.eval y = .int .u64 (Y : Nat)) 
   (h : wpList P ops Q rest (a.put d (.int .u64 ((X * Y % 18446744073709551616 : Nat) : Int))) w) : wpList P ops Q ({ dst := d, op := .binOp .mul t x y u, type := ty, pos := pos, after := af, guard := gd } :: rest) a w := wpList_run hw (op_mulN rfl hx hy  w) h
theorem op_subN {P : Program} {o : Oper} {a : Act} {x y : Operand} {t u : TypeId} {X Y : Nat} (ho : o.op = .binOp .sub t x y u) (hx : a.eval x = .int .u64 (X : Nat)) (hy : a.eval y = .int .u64 (Y : Nat)) (hY : Y < 18446744073709551616) (w : World) :
   (execOp a.eval o).run P w = .ok (.value (.int .u64 (((X + 18446744073709551616 - Y) % 18446744073709551616 : Nat) : Int))) w := by
 have e : IntKind.u64.wrap ((X : Int) - (Y : Int)) = (((X + 18446744073709551616 - Y) % 18446744073709551616 : Nat) : Int) := by rw [IntKind.wrap_u64]; omega
 unfold execOp
 simp only [ho, hx, hy, eqGuard, binOp, Op.intArith, e]
 simp
theorem subNP {P : Program} {t u : TypeId} {ops : Array Oper} {rest : List Oper} {Q : Exit -> Act -> World -> Prop} {a : Act} {w : World} {d : Option Tmp} {x y : Operand} {ty : TypeId} {pos : String} {af : Array Edge} {gd : Option (Nat × Bool)} {X Y : Nat}
   (hw : Region.wanted { dst := d, op := .binOp .sub t x y u, type := ty, pos := pos, after := af, guard := gd } (yielded ops a.tmps) = true) (hx : a.eval x = .int .u64 (X : Nat)) (hy : a.eval y = .int .u64 (Y : Nat)) (hY : Y < 18446744073709551616)
   (h : wpList P ops Q rest (a.put d (.int .u64 (((X + 18446744073709551616 - Y) % 18446744073709551616 : Nat) : Int))) w) : wpList P ops Q ({ dst := d, op := .binOp .sub t x y u, type := ty, pos := pos, after := af, guard := gd } :: rest) a w := wpList_run hw (op_subN rfl hx hy hY w) h
theorem op_quoN {P : Program} {o : Oper} {a : Act} {x y : Operand} {t u : TypeId} {X Y : Nat} (ho : o.op = .binOp .quo t x y u) (hx : a.eval x = .int .u64 (X : Nat)) (hy : a.eval y = .int .u64 (Y : Nat)) (hX : X < 18446744073709551616) (hY : 0 < Y) (w : World) :
   (execOp a.eval o).run P w = .ok (.value (.int .u64 ((X / Y : Nat) : Int))) w := by
 have hd : X / Y < 18446744073709551616 := Nat.lt_of_le_of_lt (Nat.div_le_self _ _) hX
 have e : IntKind.u64.wrap ((X : Int).tdiv (Y : Int)) = ((X / Y : Nat) : Int) := by rw [<- Int.ofNat_tdiv, IntKind.wrap_u64]; generalize X / Y = q at *; omega
 have h0 : ((Y : Int) = 0) = False := by simp; omega
 unfold execOp
 simp only [ho, hx, hy, eqGuard, binOp, Op.intDiv, e, h0]
 simp
theorem quoNP {P : Program} {t u : TypeId} {ops : Array Oper} {rest : List Oper} {Q : Exit -> Act -> World -> Prop} {a : Act} {w : World} {d : Option Tmp} {x y : Operand} {ty : TypeId} {pos : String} {af : Array Edge} {gd : Option (Nat × Bool)} {X Y : Nat}
   (hw : Region.wanted { dst := d, op := .binOp .quo t x y u, type := ty, pos := pos, after := af, guard := gd } (yielded ops a.tmps) = true) (hx : a.eval x = .int .u64 (X : Nat)) (hy : a.eval y = .int .u64 (Y : Nat)) (hX : X < 18446744073709551616) (hY : 0 < Y)
   (h : wpList P ops Q rest (a.put d (.int .u64 ((X / Y : Nat) : Int))) w) : wpList P ops Q ({ dst := d, op := .binOp .quo t x y u, type := ty, pos := pos, after := af, guard := gd } :: rest) a w := wpList_run hw (op_quoN rfl hx hy hX hY w) h
theorem op_remN {P : Program} {o : Oper} {a : Act} {x y : Operand} {t u : TypeId} {X Y : Nat} (ho : o.op = .binOp .rem t x y u) (hx : a.eval x = .int .u64 (X : Nat)) (hy : a.eval y = .int .u64 (Y : Nat)) (_ : X < 18446744073709551616) (hY : 0 < Y) (w : World) :
   (execOp a.eval o).run P w = .ok (.value (.int .u64 ((X % Y : Nat) : Int))) w := by
 have h0 : ((Y : Int) = 0) = False := by simp; omega
 have e : (X : Int).tmod (Y : Int) = ((X % Y : Nat) : Int) := by rw [<- Int.ofNat_tmod]
 unfold execOp
 simp only [ho, hx, hy, eqGuard, binOp, Op.intDiv, e, h0]
 simp
theorem op_andN {P : Program} {o : Oper} {a : Act} {x y : Operand} {t u : TypeId} {X Y : Nat} (ho : o.op = .binOp .and t x y u) (hx : a.eval x = .int .u64 (X : Nat)) (hy : a.eval y = .int .u64 (Y : Nat)) (hX : X < 18446744073709551616) (hY : Y < 18446744073709551616) (w : World) :
   (execOp a.eval o).run P w = .ok (.value (.int .u64 ((X &&& Y : Nat) : Int))) w := by
 unfold execOp
 simp only [ho, hx, hy, eqGuard, binOp, intBits_and, bits_and_u64_nat X Y hX hY]
 simp
theorem andNP {P : Program} {t u : TypeId} {ops : Array Oper} {rest : List Oper} {Q : Exit -> Act -> World -> Prop} {a : Act} {w : World} {d : Option Tmp} {x y : Operand} {ty : TypeId} {pos : String} {af : Array Edge} {gd : Option (Nat × Bool)} {X Y : Nat}
   (hw : Region.wanted { dst := d, op := .binOp .and t x y u, type := ty, pos := pos, after := af, guard := gd } (yielded ops a.tmps) = true) (hx : a.eval x = .int .u64 (X : Nat)) (hy : a.eval y = .int .u64 (Y : Nat)) (hX : X < 18446744073709551616) (hY : Y < 18446744073709551616)
   (h : wpList P ops Q rest (a.put d (.int .u64 ((X &&& Y : Nat) : Int))) w) : wpList P ops Q ({ dst := d, op := .binOp .and t x y u, type := ty, pos := pos, after := af, guard := gd } :: rest) a w := wpList_run hw (op_andN rfl hx hy hX hY w) h
theorem op_shrN {P : Program} {o : Oper} {a : Act} {x y : Operand} {t u : TypeId} {X Y : Nat} (ho : o.op = .binOp .shr t x y u) (hx : a.eval x = .int .u64 (X : Nat)) (hy : a.eval y = .int .u64 (Y : Nat)) (hs : Y <= 64) (w : World) :
   (execOp a.eval o).run P w = .ok (.value (.int .u64 ((X / 2 ^ Y : Nat) : Int))) w := by
 exact op_shr ho hx hy hs w
theorem shrNP {P : Program} {t u : TypeId} {ops : Array Oper} {rest : List Oper} {Q : Exit -> Act -> World -> Prop} {a : Act} {w : World} {d : Option Tmp} {x y : Operand} {ty : TypeId} {pos : String} {af : Array Edge} {gd : Option (Nat × Bool)} {X Y : Nat}
   (hw : Region.wanted { dst := d, op := .binOp .shr t x y u, type := ty, pos := pos, after := af, guard := gd } (yielded ops a.tmps) = true) (hx : a.eval x = .int .u64 (X : Nat)) (hy : a.eval y = .int .u64 (Y : Nat)) (hs : Y <= 64)
   (h : wpList P ops Q rest (a.put d (.int .u64 ((X / 2 ^ Y : Nat) : Int))) w) : wpList P ops Q ({ dst := d, op := .binOp .shr t x y u, type := ty, pos := pos, after := af, guard := gd } :: rest) a w := wpList_run hw (op_shrN rfl hx hy hs w) h
theorem op_shlN {P : Program} {o : Oper} {a : Act} {x y : Operand} {t u : TypeId} {X Y : Nat} (ho : o.op = .binOp .shl t x y u) (hx : a.eval x = .int .u64 (X : Nat)) (hy : a.eval y = .int .u64 (Y : Nat)) (hs : Y <= 64) (w : World) :
   (execOp a.eval o).run P w = .ok (.value (.int .u64 ((X * 2 ^ Y % 18446744073709551616 : Nat) : Int))) w := by
 exact op_shl ho hx hy hs w
theorem shlNP {P : Program} {t u : TypeId} {ops : Array Oper} {rest : List Oper} {Q : Exit -> Act -> World -> Prop} {a : Act} {w : World} {d : Option Tmp} {x y : Operand} {ty : TypeId} {pos : String} {af : Array Edge} {gd : Option (Nat × Bool)} {X Y : Nat}
   (hw : Region.wanted { dst := d, op := .binOp .shl t x y u, type := ty, pos := pos, after := af, guard := gd } (yielded ops a.tmps) = true) (hx : a.eval x = .int .u64 (X : Nat)) (hy : a.eval y = .int .u64 (Y : Nat)) (hs : Y <= 64)
   (h : wpList P ops Q rest (a.put d (.int .u64 ((X * 2 ^ Y % 18446744073709551616 : Nat) : Int))) w) : wpList P ops Q ({ dst := d, op := .binOp .shl t x y u, type := ty, pos := pos, after := af, guard := gd } :: rest) a w := wpList_run hw (op_shlN rfl hx hy hs w) h
theorem op_orN {P : Program} {o : Oper} {a : Act} {x y : Operand} {t u : TypeId} {X Y : Nat} (ho : o.op = .binOp .or t x y u) (hx : a.eval x = .int .u64 (X : Nat)) (hy : a.eval y = .int .u64 (Y : Nat)) (hX : X < 18446744073709551616) (hY : Y < 18446744073709551616) (w : World) :
   (execOp a.eval o).run P w = .ok (.value (.int .u64 ((X ||| Y : Nat) : Int))) w := by
 exact op_or ho hx hy hX hY w
theorem orNP {P : Program} {t u : TypeId} {ops : Array Oper} {rest : List Oper} {Q : Exit -> Act -> World -> Prop} {a : Act} {w : World} {d : Option Tmp} {x y : Operand} {ty : TypeId} {pos : String} {af : Array Edge} {gd : Option (Nat × Bool)} {X Y : Nat}
   (hw : Region.wanted { dst := d, op := .binOp .or t x y u, type := ty, pos := pos, after := af, guard := gd } (yielded ops a.tmps) = true) (hx : a.eval x = .int .u64 (X : Nat)) (hy : a.eval y = .int .u64 (Y : Nat)) (hX : X < 18446744073709551616) (hY : Y < 18446744073709551616)
   (h : wpList P ops Q rest (a.put d (.int .u64 ((X ||| Y : Nat) : Int))) w) : wpList P ops Q ({ dst := d, op := .binOp .or t x y u, type := ty, pos := pos, after := af, guard := gd } :: rest) a w := wpList_run hw (op_orN rfl hx hy hX hY w) h
theorem op_geqB {P : Program} {o : Oper} {a : Act} {x y : Operand} {t u : TypeId} {X Y : Nat} (ho : o.op = .binOp .geq t x y u) (hx : a.eval x = .int .u64 (X : Nat)) (hy : a.eval y = .int .u64 (Y : Nat)) {b : Bool} (hb' : IsP (Y <= X) b) (w : World) :
   (execOp a.eval o).run P w = .ok (.value (.bool b)) w := by
 rw [<- show decide (Y <= X) = b from hb'.dec]
 unfold execOp
 simp only [ho, hx, hy]
 go_simp
 try (rw [Bool.eq_iff_iff]; simp; try omega)
theorem geqBP {P : Program} {t u : TypeId} {ops : Array Oper} {rest : List Oper} {Q : Exit -> Act -> World -> Prop} {a : Act} {w : World} {d : Option Tmp} {x y : Operand} {ty : TypeId} {pos : String} {af : Array Edge} {gd : Option (Nat × Bool)} {X Y : Nat}
   (hw : Region.wanted { dst := d, op := .binOp .geq t x y u, type := ty, pos := pos, after := af, guard := gd } (yielded ops a.tmps) = true) (hx : a.eval x = .int .u64 (X : Nat)) (hy : a.eval y = .int .u64 (Y : Nat)) {b : Bool} (hb' : IsP (Y <= X) b)
   (h : wpList P ops Q rest (a.put d (.bool b)) w) : wpList P ops Q ({ dst := d, op := .binOp .geq t x y u, type := ty, pos := pos, after := af, guard := gd } :: rest) a w := wpList_run hw (op_geqB rfl hx hy hb' w) h
theorem op_gtrB {P : Program} {o : Oper} {a : Act} {x y : Operand} {t u : TypeId} {X Y : Nat} (ho : o.op = .binOp .gtr t x y u) (hx : a.eval x = .int .u64 (X : Nat)) (hy : a.eval y = .int .u64 (Y : Nat)) {b : Bool} (hb' : IsP (Y < X) b) (w : World) :
   (execOp a.eval o).run P w = .ok (.value (.bool b)) w := by
 rw [<- show decide (Y < X) = b from hb'.dec]
 unfold execOp
 simp only [ho, hx, hy]
 go_simp
 try (rw [Bool.eq_iff_iff]; simp; try omega)
theorem gtrBP {P : Program} {t u : TypeId} {ops : Array Oper} {rest : List Oper} {Q : Exit -> Act -> World -> Prop} {a : Act} {w : World} {d : Option Tmp} {x y : Operand} {ty : TypeId} {pos : String} {af : Array Edge} {gd : Option (Nat × Bool)} {X Y : Nat}
   (hw : Region.wanted { dst := d, op := .binOp .gtr t x y u, type := ty, pos := pos, after := af, guard := gd } (yielded ops a.tmps) = true) (hx : a.eval x = .int .u64 (X : Nat)) (hy : a.eval y = .int .u64 (Y : Nat)) {b : Bool} (hb' : IsP (Y < X) b)
   (h : wpList P ops Q rest (a.put d (.bool b)) w) : wpList P ops Q ({ dst := d, op := .binOp .gtr t x y u, type := ty, pos := pos, after := af, guard := gd } :: rest) a w := wpList_run hw (op_gtrB rfl hx hy hb' w) h
theorem op_leqB {P : Program} {o : Oper} {a : Act} {x y : Operand} {t u : TypeId} {X Y : Nat} (ho : o.op = .binOp .leq t x y u) (hx : a.eval x = .int .u64 (X : Nat)) (hy : a.eval y = .int .u64 (Y : Nat)) {b : Bool} (hb' : IsP (X <= Y) b) (w : World) :
   (execOp a.eval o).run P w = .ok (.value (.bool b)) w := by
 rw [<- show decide (X <= Y) = b from hb'.dec]
 unfold execOp
 simp only [ho, hx, hy]
 go_simp
 try (rw [Bool.eq_iff_iff]; simp; try omega)
theorem leqBP {P : Program} {t u : TypeId} {ops : Array Oper} {rest : List Oper} {Q : Exit -> Act -> World -> Prop} {a : Act} {w : World} {d : Option Tmp} {x y : Operand} {ty : TypeId} {pos : String} {af : Array Edge} {gd : Option (Nat × Bool)} {X Y : Nat}
   (hw : Region.wanted { dst := d, op := .binOp .leq t x y u, type := ty, pos := pos, after := af, guard := gd } (yielded ops a.tmps) = true) (hx : a.eval x = .int .u64 (X : Nat)) (hy : a.eval y = .int .u64 (Y : Nat)) {b : Bool} (hb' : IsP (X <= Y) b)
   (h : wpList P ops Q rest (a.put d (.bool b)) w) : wpList P ops Q ({ dst := d, op := .binOp .leq t x y u, type := ty, pos := pos, after := af, guard := gd } :: rest) a w := wpList_run hw (op_leqB rfl hx hy hb' w) h
theorem op_eqlB {P : Program} {o : Oper} {a : Act} {x y : Operand} {t u : TypeId} {X Y : Nat} (ho : o.op = .binOp .eql t x y u) (hx : a.eval x = .int .u64 (X : Nat)) (hy : a.eval y = .int .u64 (Y : Nat)) {b : Bool} (hb' : IsP (X = Y) b) (w : World) :
   (execOp a.eval o).run P w = .ok (.value (.bool b)) w := by
 rw [<- show decide (X = Y) = b from hb'.dec]
 unfold execOp
 simp only [ho, hx, hy]
 go_simp
 try (rw [Bool.eq_iff_iff]; simp; try omega)
theorem eqlBP {P : Program} {t u : TypeId} {ops : Array Oper} {rest : List Oper} {Q : Exit -> Act -> World -> Prop} {a : Act} {w : World} {d : Option Tmp} {x y : Operand} {ty : TypeId} {pos : String} {af : Array Edge} {gd : Option (Nat × Bool)} {X Y : Nat}
   (hw : Region.wanted { dst := d, op := .binOp .eql t x y u, type := ty, pos := pos, after := af, guard := gd } (yielded ops a.tmps) = true) (hx : a.eval x = .int .u64 (X : Nat)) (hy : a.eval y = .int .u64 (Y : Nat)) {b : Bool} (hb' : IsP (X = Y) b)
   (h : wpList P ops Q rest (a.put d (.bool b)) w) : wpList P ops Q ({ dst := d, op := .binOp .eql t x y u, type := ty, pos := pos, after := af, guard := gd } :: rest) a w := wpList_run hw (op_eqlB rfl hx hy hb' w) h
end Go.Proofs.YtbmlkimgjkdaiaaDoor
namespace Go.Proofs.YtbmlkimgjkdaiaaDoor
def hq (u v n1 : Nat) : Nat := (4294967296 * u + n1) / v
structure Half (u v1 v0 n1 q r : Nat) : Prop where
 eq : q * v1 + r = u
 ge : hq u (4294967296 * v1 + v0) n1 <= q
 le : q <= 4294967297
 lt : r < 4294967296
theorem hq_lt {u v n1 : Nat} (hu : u < v) (h1 : n1 < 4294967296) : hq u v n1 < 4294967296 := by
 unfold hq
 rw [Nat.div_lt_iff_lt_mul (by omega)]
 omega
theorem half_start {u v1 v0 n1 : Nat} (hv1 : 2147483648 <= v1) (hv2 : v1 < 4294967296) (hv0 : v0 < 4294967296) (hn : n1 < 4294967296) (hu : u < 4294967296 * v1 + v0) : Half u v1 v0 n1 (u / v1) (u % v1) := by
 refine ⟨by rw [Nat.mul_comm]; exact Nat.div_add_mod u v1, ?_, ?_, Nat.lt_trans (Nat.mod_lt _ (by omega)) hv2⟩
 ·rw [Nat.le_div_iff_mul_le (by omega)]
  have h1 : hq u (4294967296 * v1 + v0) n1 * (4294967296 * v1 + v0) <= 4294967296 * u + n1 := Nat.div_mul_le_self _ _
  generalize hq u (4294967296 * v1 + v0) n1 = q at *
  rw [Nat.mul_add, Nat.mul_left_comm] at h1
  generalize q * v1 = p at *
  generalize q * v0 = p0 at *
  omega
 ·have : u / v1 < 4294967298 := by
   rw [Nat.div_lt_iff_lt_mul (by omega)]
   omega
  omega
theorem half_gt {u n1 p p0 r : Nat} (h : p + r = u) (hc : 4294967296 * r + n1 < p0) : 4294967296 * u + n1 < 4294967296 * p + p0 := by omega
theorem half_more {u v1 v0 n1 q r : Nat} (h : Half u v1 v0 n1 q r) (hu : u < 4294967296 * v1 + v0) (hn : n1 < 4294967296) (_ : 0 < v1) (hc : 4294967296 <= q \/ 4294967296 * r + n1 < q * v0) :
   1 <= q /\ (q - 1) * v1 + (r + v1) = u /\ hq u (4294967296 * v1 + v0) n1 <= q - 1 /\ q - 1 <= 4294967296 := by
 have h1 : hq u (4294967296 * v1 + v0) n1 < q := by
  rcases hc with hc | hc
  ·exact Nat.lt_of_lt_of_le (hq_lt hu hn) hc
  ·unfold hq
   rw [Nat.div_lt_iff_lt_mul (by omega), Nat.mul_add, Nat.mul_left_comm]
   exact half_gt h.eq hc
 obtain ⟨k, rfl⟩ : ∃ k, q = k + 1 := ⟨q - 1, by omega⟩
 have h2 := h.eq
 have h3 := h.le
 rw [Nat.add_mul] at h2
 simp only [Nat.add_sub_cancel]
 exact ⟨by omega, by omega, by omega, by omega⟩
theorem half_next {u v1 v0 n1 q r : Nat} (h : Half u v1 v0 n1 q r) (hu : u < 4294967296 * v1 + v0) (hn : n1 < 4294967296) (hv : 0 < v1) (hc : 4294967296 <= q \/ 4294967296 * r + n1 < q * v0) (hr : r + v1 < 4294967296) : Half u v1 v0 n1 (q - 1) (r + v1) := by
 obtain ⟨_, h2, h3, h4⟩ := half_more h hu hn hv hc
 exact ⟨h2, h3, by omega, hr⟩
theorem half_end {u v1 v0 n1 q r : Nat} (h1 : q * v1 + r = u) (h2 : hq u (4294967296 * v1 + v0) n1 <= q) (hv : 0 < v1) (hc : q * v0 <= 4294967296 * r + n1) : q = hq u (4294967296 * v1 + v0) n1 := by
 have h3 : q <= hq u (4294967296 * v1 + v0) n1 := by
  unfold hq
  rw [Nat.le_div_iff_mul_le (by omega), Nat.mul_add, Nat.mul_left_comm]
  generalize q * v1 = p at *
  generalize q * v0 = p0 at *
  omega
 omega
theorem half_break {u v1 v0 n1 q r : Nat} (h : Half u v1 v0 n1 q r) (hu : u < 4294967296 * v1 + v0) (hn : n1 < 4294967296) (hv : 0 < v1) (hv0 : v0 < 4294967296) (hc : 4294967296 <= q \/ 4294967296 * r + n1 < q * v0) (hr : 4294967296 <= r + v1) :
   q - 1 = hq u (4294967296 * v1 + v0) n1 := by
 obtain ⟨_, h2, h3, h4⟩ := half_more h hu hn hv hc
 refine half_end h2 h3 hv ?_
 have h5 : (q - 1) * v0 <= 4294967296 * 4294967295 := Nat.mul_le_mul h4 (by omega)
 omega
theorem half_stop {u v1 v0 n1 q r : Nat} (h : Half u v1 v0 n1 q r) (hv : 0 < v1) (hc : q * v0 <= 4294967296 * r + n1) : q = hq u (4294967296 * v1 + v0) n1 := half_end h.eq h.ge hv hc
theorem half_rest_aux {u v n1 p r : Nat} (hv : v < 18446744073709551616) (h2 : r < v) (h1 : p + r = 4294967296 * u + n1) :
   ((4294967296 * u % 18446744073709551616 + n1) % 18446744073709551616 + 18446744073709551616 - p % 18446744073709551616) % 18446744073709551616 = r := by omega
theorem half_rest {u v n1 : Nat} (hv : v < 18446744073709551616) (hv0 : 0 < v) :
   ((4294967296 * u % 18446744073709551616 + n1) % 18446744073709551616 + 18446744073709551616 - hq u v n1 * v % 18446744073709551616) % 18446744073709551616 = (4294967296 * u + n1) % v := by
 refine half_rest_aux hv (Nat.mod_lt _ hv0) ?_
 unfold hq
 rw [Nat.mul_comm]
 exact Nat.div_add_mod _ _
theorem half_both_aux {t v n0 q r : Nat} (hv0 : 0 < v) (h1 : v * q + r = t) : 4294967296 * q + (4294967296 * r + n0) / v = (4294967296 * t + n0) / v /\ (4294967296 * r + n0) % v = (4294967296 * t + n0) % v := by
 have e : 4294967296 * t + n0 = (4294967296 * r + n0) + v * (4294967296 * q) := by rw [<- h1]; grind
 rw [e]
 constructor
 ·rw [Nat.add_mul_div_left _ _ hv0]; omega
 ·rw [Nat.add_mul_mod_self_left]
theorem half_both {u v n1 n0 : Nat} (hv0 : 0 < v) :
   4294967296 * hq u v n1 + hq ((4294967296 * u + n1) % v) v n0 = (4294967296 * (4294967296 * u + n1) + n0) / v /\
   (4294967296 * ((4294967296 * u + n1) % v) + n0) % v = (4294967296 * (4294967296 * u + n1) + n0) % v :=
 half_both_aux hv0 (Nat.div_add_mod _ _)
end Go.Proofs.YtbmlkimgjkdaiaaDoor
namespace Go.Proofs.YtbmlkimgjkdaiaaDoor
open Go Go.RowKit
set_option maxRecDepth 100000
theorem and32 (x : Nat) : x &&& 4294967295 = x % 4294967296 := Nat.and_two_pow_sub_one_eq_mod x 32
theorem div64_pre {hi lo y : Nat} (hy : y < 18446744073709551616) (hlo : lo < 18446744073709551616) (hlt : hi < y) (s : Nat) (hs : s = 64 - Lib.bitLen y) :
   s < 64 /\ y * 2 ^ s % 18446744073709551616 = y * 2 ^ s /\ 9223372036854775808 <= y * 2 ^ s /\ y * 2 ^ s < 18446744073709551616 /\
   (hi * 2 ^ s % 18446744073709551616 ||| lo / 2 ^ (64 - s)) < y * 2 ^ s /\
   18446744073709551616 * (hi * 2 ^ s % 18446744073709551616 ||| lo / 2 ^ (64 - s)) + lo * 2 ^ s % 18446744073709551616 = (18446744073709551616 * hi + lo) * 2 ^ s := by
 have h0 : y ≠ 0 := by omega
 obtain ⟨b1, b2, b3, b4⟩ := bitLen_spec hy h0
 have e64 : 2 ^ s * 2 ^ (Lib.bitLen y) = (18446744073709551616 : Nat) := by rw [<- Nat.pow_add, show s + Lib.bitLen y = 64 by omega]
 have e63 : 2 ^ (Lib.bitLen y - 1) * 2 ^ s = (9223372036854775808 : Nat) := by rw [<- Nat.pow_add, show Lib.bitLen y - 1 + s = 63 by omega]
 have hs64 : s < 64 := by omega
 have h1 : 9223372036854775808 <= y * 2 ^ s := by rw [<- e63]; exact Nat.mul_le_mul_right _ b2
 have h2 : y * 2 ^ s < 18446744073709551616 := by
  rw [<- e64, Nat.mul_comm (2 ^ s)]
  exact Nat.mul_lt_mul_of_pos_right b3 (Nat.two_pow_pos s)
 have hps := Nat.two_pow_pos s
 have h3 : (hi + 1) * 2 ^ s <= y * 2 ^ s := Nat.mul_le_mul_right _ hlt
 rw [Nat.add_mul, Nat.one_mul] at h3
 have h4 : hi * 2 ^ s % 18446744073709551616 = hi * 2 ^ s := Nat.mod_eq_of_lt (by omega)
 have e2 : 2 ^ s * 2 ^ (64 - s) = (18446744073709551616 : Nat) := by rw [<- Nat.pow_add, show s + (64 - s) = 64 by omega]
 have h5 : lo / 2 ^ (64 - s) < 2 ^ s := by
  rw [Nat.div_lt_iff_lt_mul (Nat.two_pow_pos _), e2]; exact hlo
 have h6 : (hi * 2 ^ s ||| lo / 2 ^ (64 - s)) = hi * 2 ^ s + lo / 2 ^ (64 - s) := by rw [Nat.mul_comm]; exact or_add h5
 refine ⟨hs64, Nat.mod_eq_of_lt h2, h1, h2, by rw [h4, h6]; omega, ?_⟩
 rw [h4, h6]
 have h7 := shr_low (x := lo) (show s <= 64 by omega)
 have h8 := Nat.div_add_mod (lo * 2 ^ s) 18446744073709551616
 rw [<- h7, Nat.mul_add, Nat.add_mul, Nat.mul_assoc]
 generalize hi * 2 ^ s = a at *
 generalize lo * 2 ^ s = c at *
 omega
set_option maxRecDepth 100000 in
set_option maxHeartbeats 1000000 in
theorem div64_small (lo y : Nat) (hlo : lo < 18446744073709551616) (h0 : 0 < y) (w : World) :
   Calls Tryd.prog 66 #[.int .u64 (0 : Nat), .int .u64 lo, .int .u64 y] w fun e w' => e = .returned (.tuple #[.int .u64 ((lo / y : Nat) : Int), .int .u64 ((lo % y : Nat) : Int)]) /\ Up w w' := by
 have b0 : IsP (y = 0) false := IsP.no (by omega)
 have b1 : IsP (y <= 0) false := IsP.no (by omega)
 have b2 : IsP (0 = 0) true := IsP.yes rfl
 go_enter Tryd.func66, Tryd.ntmps66
 go_wp2_with (first | ((with_reducible apply eqlBP (Y := 0)); exact rfl; exact rfl; exact rfl; assumption) | ((with_reducible apply leqBP (Y := 0)); exact rfl; exact rfl; exact rfl; assumption))
 refine opU (S := (fun wq => Below w.heap.size w wq)) (req := (fun _ => true)) (fun _ _ h hu => below_up (h) hu) gUp (fun wS hSS hSu => ?_)
 have hSB := hSS
 refine tkP 0 (some 28) hSu ?_
 refine tkP 1 (some 29) hSu ?_
 refine tkT 2 (some 30) rfl hSu hSS ?_ (hy := fun w' hSw => op_quoN rfl rfl rfl hlo h0 _)
 refine tkP 3 (some 31) hSu ?_
 refine tkP 4 (some 32) hSu ?_
 refine tkT 5 (some 33) rfl hSu hSS ?_ (hy := fun w' hSw => op_remN rfl rfl rfl hlo h0 _)
 refine tkP 6 (some 6) hSu ?_
 refine tkP 7 (some 7) hSu ?_
 refine wpAnyU_done (by kernel_rfl) (fun wE huE => ?_) _
 have hSB := hSu.out _ _ hSS huE
 clear huE hSS
 go_wp2
 go_ret2
 exact ⟨rfl, hSB⟩
set_option maxRecDepth 100000 in
set_option maxHeartbeats 2000000 in
theorem div64_great (hi lo y : Nat) (hy : y < 18446744073709551616) (hlo : lo < 18446744073709551616) (hlt : hi < y) (h0 : 0 < hi) (w : World) :
   Calls Tryd.prog 66 #[.int .u64 hi, .int .u64 lo, .int .u64 y] w fun e w' => e = .returned (.tuple #[.int .u64 (((18446744073709551616 * hi + lo) / y : Nat) : Int), .int .u64 (((18446744073709551616 * hi + lo) % y : Nat) : Int)]) /\ Up w w' := by
 have b0 : IsP (y = 0) false := IsP.no (by omega)
 have b1 : IsP (y <= hi) false := IsP.no (by omega)
 have b2 : IsP (hi = 0) false := IsP.no (by omega)
 obtain ⟨s, es⟩ : ∃ s, s = 64 - Lib.bitLen y := ⟨_, rfl⟩
 obtain ⟨p1, p2, p3, p4, p5, p6⟩ := div64_pre hy hlo hlt s es
 have hbl := bitLen_spec hy (by omega)
 have hlz := fun w => Tryd.bits_LeadingZeros64 (y : Nat) w (by omega) (by omega)
 simp only [Int.toNat_natCast] at hlz
 have hcv : IntKind.u64.wrap (64 - (Lib.bitLen y : Int)) = (s : Int) := by rw [IntKind.wrap_u64]; omega
 have HLZ := hid hlz
 obtain ⟨_, _, _, hb64⟩ := hbl
 clear hlz es
 generalize Lib.bitLen y = bl at *
 -- the numbers, each under a name
 obtain ⟨V, eV⟩ : ∃ V, V = y * 2 ^ s := ⟨_, rfl⟩
 obtain ⟨L, eL⟩ : ∃ L, L = lo * 2 ^ s % 18446744073709551616 := ⟨_, rfl⟩
 obtain ⟨H, eH⟩ : ∃ H, H = hi * 2 ^ s % 18446744073709551616 := ⟨_, rfl⟩
 obtain ⟨M, eM⟩ : ∃ M, M = lo / 2 ^ (64 - s) := ⟨_, rfl⟩
 rw [<- eH, <- eM] at p5 p6
 obtain ⟨U, eU⟩ : ∃ U, U = (H ||| M) := ⟨_, rfl⟩
 rw [<- eV, <- eU] at p5
 rw [<- eL, <- eU] at p6
 rw [<- eV] at p2 p3 p4
 have hH : H < 18446744073709551616 := by rw [eH]; exact Nat.mod_lt _ (by decide)
 have hM : M < 18446744073709551616 := by rw [eM]; exact Nat.lt_of_le_of_lt (Nat.div_le_self _ _) hlo
 have hL : L < 18446744073709551616 := by rw [eL]; exact Nat.mod_lt _ (by decide)
 obtain ⟨V1, eV1⟩ : ∃ x, x = V / 2 ^ 32 := ⟨_, rfl⟩
 obtain ⟨V0, eV0⟩ : ∃ x, x = (V &&& 4294967295) := ⟨_, rfl⟩
 obtain ⟨L1, eL1⟩ : ∃ x, x = L / 2 ^ 32 := ⟨_, rfl⟩
 obtain ⟨L0, eL0⟩ : ∃ x, x = (L &&& 4294967295) := ⟨_, rfl⟩
 have HV : Hid (y * 2 ^ s % 18446744073709551616 = V) := hid (by rw [eV] at p2 ⊢; exact p2)
 have HH := hid eH.symm
 have HM := hid eM.symm
 have HU := hid eU.symm
 have HL := hid eL.symm
 have HV1 := hid eV1.symm
 have HV0 := hid eV0.symm
 have HL1 := hid eL1.symm
 have HL0 := hid eL0.symm
 have HM2 : Hid (lo / 2 ^ ((64 + 18446744073709551616 - s) % 18446744073709551616) = M) := hid (by rw [show (64 + 18446744073709551616 - s) % 18446744073709551616 = 64 - s by omega]; exact HM.out)
 rw [and32] at eV0 eL0
 have v1 : 2147483648 <= V1 := by omega
 have v2 : V1 < 4294967296 := by omega
 have v3 : V0 < 4294967296 := by omega
 have v4 : V = 4294967296 * V1 + V0 := by omega
 have l1 : L1 < 4294967296 := by omega
 have l0 : L0 < 4294967296 := by omega
 have l2 : L = 4294967296 * L1 + L0 := by omega
 have hU : U < 18446744073709551616 := by omega
 have HN := hid p6
 have HEV := hid eV
 have HV4 := hid v4
 have HL2 := hid l2
 have hV1p : 0 < V1 := by omega
 have hs64 : s <= 64 := by omega
 have hs64b : s < 18446744073709551616 := by omega
 have hs64c : (64 + 18446744073709551616 - s) % 18446744073709551616 <= 64 := by omega
 clear eV eL eH eM eU eV1 eV0 eL1 eL0 p6 p2 v4 l2
 obtain ⟨q0, eq0⟩ : ∃ x, x = U / V1 := ⟨_, rfl⟩
 obtain ⟨P0, eP0⟩ : ∃ x, x = q0 * V1 % 18446744073709551616 := ⟨_, rfl⟩
 have hq0 : q0 * V1 + U % V1 = U := by rw [eq0, Nat.mul_comm]; exact Nat.div_add_mod U V1
 obtain ⟨r0, er0⟩ : ∃ x, x = U % V1 := ⟨_, rfl⟩
 rw [<- er0] at hq0
 have hP0 : P0 < 18446744073709551616 := by rw [eP0]; exact Nat.mod_lt _ (by decide)
 have eP0' : P0 = q0 * V1 := by rw [eP0]; exact Nat.mod_eq_of_lt (by omega)
 have HQ0 := hid eq0.symm
 have HP0 := hid eP0.symm
 have HR0 : Hid ((U + 18446744073709551616 - P0) % 18446744073709551616 = r0) := hid (by omega)
 have hun := p5
 rw [HV4.out, Nat.mul_comm] at hun
 have hst := half_start v1 v2 v3 l1 (by rw [Nat.mul_comm]; exact hun)
 rw [<- eq0, <- er0] at hst
 have HST := hid hst
 have hun : U < 4294967296 * V1 + V0 := by rw [Nat.mul_comm]; exact hun
 clear eq0 eP0 hq0 er0 eP0' hst
 go_enter Tryd.func66, Tryd.ntmps66
 go_upto_block 0 with (first | ((with_reducible apply eqlBP (Y := 0)); exact rfl; exact rfl; exact rfl; (with_reducible assumption)) | ((with_reducible apply leqBP); exact rfl; exact rfl; exact rfl; (with_reducible assumption)) | (go_at_call 67; refine (HLZ.out _).mono ?_; rintro e w' ⟨rfl, rfl⟩) | ((with_reducible apply shrNP (Y := 32)); exact rfl; exact rfl; exact rfl; decide; (try rw [HV.out]); (try rw [HV1.out]); (try rw [HV0.out]); (try rw [HU.out]); (try rw [HL.out]); (try rw [HL1.out]); (try rw [HL0.out]); (try rw [HH.out]); (try rw [HM2.out]); (try rw [HQ0.out]); (try rw [HP0.out]); (try rw [HR0.out])) | ((with_reducible apply andNP (Y := 4294967295)); exact rfl; exact rfl; exact rfl; assumption; decide; (try rw [HV.out]); (try rw [HV1.out]); (try rw [HV0.out]); (try rw [HU.out]); (try rw [HL.out]); (try rw [HL1.out]); (try rw [HL0.out]); (try rw [HH.out]); (try rw [HM2.out]); (try rw [HQ0.out]); (try rw [HP0.out]); (try rw [HR0.out])) | ((with_reducible apply shlNP); exact rfl; exact rfl; exact rfl; exact hs64; (try rw [HV.out]); (try rw [HV1.out]); (try rw [HV0.out]); (try rw [HU.out]); (try rw [HL.out]); (try rw [HL1.out]); (try rw [HL0.out]); (try rw [HH.out]); (try rw [HM2.out]); (try rw [HQ0.out]); (try rw [HP0.out]); (try rw [HR0.out])) | ((with_reducible apply subNP (X := 64)); exact rfl; exact rfl; exact rfl; exact hs64b; (try rw [HV.out]); (try rw [HV1.out]); (try rw [HV0.out]); (try rw [HU.out]); (try rw [HL.out]); (try rw [HL1.out]); (try rw [HL0.out]); (try rw [HH.out]); (try rw [HM2.out]); (try rw [HQ0.out]); (try rw [HP0.out]); (try rw [HR0.out])) | ((with_reducible apply shrNP); exact rfl; exact rfl; exact rfl; exact hs64c; (try rw [HV.out]); (try rw [HV1.out]); (try rw [HV0.out]); (try rw [HU.out]); (try rw [HL.out]); (try rw [HL1.out]); (try rw [HL0.out]); (try rw [HH.out]); (try rw [HM2.out]); (try rw [HQ0.out]); (try rw [HP0.out]); (try rw [HR0.out])) | ((with_reducible apply orNP); exact rfl; exact rfl; exact rfl; assumption; assumption; (try rw [HV.out]); (try rw [HV1.out]); (try rw [HV0.out]); (try rw [HU.out]); (try rw [HL.out]); (try rw [HL1.out]); (try rw [HL0.out]); (try rw [HH.out]); (try rw [HM2.out]); (try rw [HQ0.out]); (try rw [HP0.out]); (try rw [HR0.out])) | ((with_reducible apply quoNP); exact rfl; exact rfl; exact rfl; assumption; assumption; (try rw [HV.out]); (try rw [HV1.out]); (try rw [HV0.out]); (try rw [HU.out]); (try rw [HL.out]); (try rw [HL1.out]); (try rw [HL0.out]); (try rw [HH.out]); (try rw [HM2.out]); (try rw [HQ0.out]); (try rw [HP0.out]); (try rw [HR0.out])) | ((with_reducible apply mulNP); exact rfl; exact rfl; exact rfl; (try rw [HV.out]); (try rw [HV1.out]); (try rw [HV0.out]); (try rw [HU.out]); (try rw [HL.out]); (try rw [HL1.out]); (try rw [HL0.out]); (try rw [HH.out]); (try rw [HM2.out]); (try rw [HQ0.out]); (try rw [HP0.out]); (try rw [HR0.out])) | ((with_reducible apply subNP); exact rfl; exact rfl; exact rfl; assumption; (try rw [HV.out]); (try rw [HV1.out]); (try rw [HV0.out]); (try rw [HU.out]); (try rw [HL.out]); (try rw [HL1.out]); (try rw [HL0.out]); (try rw [HH.out]); (try rw [HM2.out]); (try rw [HQ0.out]); (try rw [HP0.out]); (try rw [HR0.out])))
 go_cut [15] (fun qv wc => qv = .int .u64 ((hq U (4294967296 * V1 + V0) L1 : Nat) : Int) /\ wc = w')
 case first =>
  go_wp2
  go_loop [15, 16] (fun qv rv => ∃ q r : Nat, qv = .int .u64 (q : Nat) /\ rv = .int .u64 (r : Nat) /\ Half U V1 V0 L1 q r) (fun qv _ => (intOf qv).toNat)
  case atStart => exact ⟨_, _, rfl, rfl, HST.out⟩
  case round =>
   obtain ⟨q, r, rfl, rfl, hh⟩ := hrel
   have hr := hh.lt
   have hql := hh.le
   obtain ⟨q', eq'⟩ : ∃ q', q' = q - 1 := ⟨_, rfl⟩
   obtain ⟨r', er'⟩ : ∃ r', r' = r + V1 := ⟨_, rfl⟩
   have HH := hid hh
   have HEQ := hid eq'
   have HER := hid er'
   have HR' : Hid ((r + V1) % 18446744073709551616 = r') := hid (by omega)
   by_cases hqb : 4294967296 <= q
   ·have hc : 4294967296 <= q \/ 4294967296 * r + L1 < q * V0 := .inl hqb
    have b3 : IsP (4294967296 <= q) true := IsP.yes hqb
    have hmore := half_more HH.out hun l1 hV1p hc
    have hq1 := hmore.1
    have HQ' : Hid ((q + 18446744073709551616 - 1) % 18446744073709551616 = q') := hid (by omega)
    have hmeas : q' < q := by omega
    by_cases hrb : 4294967296 <= r'
    ·have hbr := half_break HH.out hun l1 hV1p v3 hc (by omega)
     have b4 : IsP (4294967296 <= r') true := IsP.yes hrb
     rw [<- eq'] at hbr
     have HB := hid hbr
     clear hmore hc hrb hbr hh eq' er'
     go_wp2_with (first | ((with_reducible apply geqBP (Y := 4294967296)); exact rfl; exact rfl; exact rfl; (with_reducible assumption); (try simp only [Act.put, pu1, pu2, pu3])) | ((with_reducible apply gtrBP); exact rfl; exact rfl; exact rfl; (with_reducible assumption); (try simp only [Act.put, pu1, pu2, pu3])) | ((with_reducible apply mulNP (X := 4294967296)); exact rfl; exact rfl; exact rfl; rw [HRR.out]; (try simp only [Act.put, pu1, pu2, pu3])) | ((with_reducible apply mulNP); exact rfl; exact rfl; exact rfl; rw [HPV.out]; (try simp only [Act.put, pu1, pu2, pu3])) | ((with_reducible apply subNP (Y := 1)); exact rfl; exact rfl; exact rfl; decide; rw [HQ'.out]; (try simp only [Act.put, pu1, pu2, pu3])) | ((with_reducible apply addNP); exact rfl; exact rfl; exact rfl; (first | rw [HT.out] | rw [HR'.out]); (try simp only [Act.put, pu1, pu2, pu3])))
     go_meet
     case rel => exact ⟨by rw [HB.out], rfl⟩
    ·have hnx := half_next HH.out hun l1 hV1p hc (by omega)
     have b4 : IsP (4294967296 <= r') false := IsP.no hrb
     rw [<- eq', <- er'] at hnx
     have HB := hid hnx
     clear hmore hc hrb hnx hh eq' er'
     go_wp2_with (first | ((with_reducible apply geqBP (Y := 4294967296)); exact rfl; exact rfl; exact rfl; (with_reducible assumption); (try simp only [Act.put, pu1, pu2, pu3])) | ((with_reducible apply gtrBP); exact rfl; exact rfl; exact rfl; (with_reducible assumption); (try simp only [Act.put, pu1, pu2, pu3])) | ((with_reducible apply mulNP (X := 4294967296)); exact rfl; exact rfl; exact rfl; rw [HRR.out]; (try simp only [Act.put, pu1, pu2, pu3])) | ((with_reducible apply mulNP); exact rfl; exact rfl; exact rfl; rw [HPV.out]; (try simp only [Act.put, pu1, pu2, pu3])) | ((with_reducible apply subNP (Y := 1)); exact rfl; exact rfl; exact rfl; decide; rw [HQ'.out]; (try simp only [Act.put, pu1, pu2, pu3])) | ((with_reducible apply addNP); exact rfl; exact rfl; exact rfl; (first | rw [HT.out] | rw [HR'.out]); (try simp only [Act.put, pu1, pu2, pu3])))
     go_round
     case rel => exact ⟨q', r', rfl, rfl, HB.out⟩
     case measure => simp [intOf]; omega
   ·have b3 : IsP (4294967296 <= q) false := IsP.no hqb
    have hpv : q * V0 <= 4294967295 * 4294967295 := Nat.mul_le_mul (by omega) (by omega)
    obtain ⟨PV, ePV⟩ : ∃ x, x = q * V0 := ⟨_, rfl⟩
    have HPV : Hid (q * V0 % 18446744073709551616 = PV) := hid (by rw [ePV]; exact Nat.mod_eq_of_lt (by omega))
    obtain ⟨RR, eRR⟩ : ∃ x, x = 4294967296 * r := ⟨_, rfl⟩
    have HRR : Hid (4294967296 * r % 18446744073709551616 = RR) := hid (by omega)
    obtain ⟨T, eT⟩ : ∃ x, x = RR + L1 := ⟨_, rfl⟩
    have HT : Hid ((RR + L1) % 18446744073709551616 = T) := hid (by omega)
    by_cases hg : T < PV
    ·have hc : 4294967296 <= q \/ 4294967296 * r + L1 < q * V0 := .inr (by omega)
     have b5 : IsP (T < PV) true := IsP.yes hg
     clear hpv ePV eRR eT hqb hg
     have hmore := half_more HH.out hun l1 hV1p hc
     have hq1 := hmore.1
     have HQ' : Hid ((q + 18446744073709551616 - 1) % 18446744073709551616 = q') := hid (by omega)
     have hmeas : q' < q := by omega
     by_cases hrb : 4294967296 <= r'
     ·have hbr := half_break HH.out hun l1 hV1p v3 hc (by omega)
      have b4 : IsP (4294967296 <= r') true := IsP.yes hrb
      rw [<- eq'] at hbr
      have HB := hid hbr
      clear hmore hc hrb hbr hh eq' er'
      go_wp2_with (first | ((with_reducible apply geqBP (Y := 4294967296)); exact rfl; exact rfl; exact rfl; (with_reducible assumption); (try simp only [Act.put, pu1, pu2, pu3])) | ((with_reducible apply gtrBP); exact rfl; exact rfl; exact rfl; (with_reducible assumption); (try simp only [Act.put, pu1, pu2, pu3])) | ((with_reducible apply mulNP (X := 4294967296)); exact rfl; exact rfl; exact rfl; rw [HRR.out]; (try simp only [Act.put, pu1, pu2, pu3])) | ((with_reducible apply mulNP); exact rfl; exact rfl; exact rfl; rw [HPV.out]; (try simp only [Act.put, pu1, pu2, pu3])) | ((with_reducible apply subNP (Y := 1)); exact rfl; exact rfl; exact rfl; decide; rw [HQ'.out]; (try simp only [Act.put, pu1, pu2, pu3])) | ((with_reducible apply addNP); exact rfl; exact rfl; exact rfl; (first | rw [HT.out] | rw [HR'.out]); (try simp only [Act.put, pu1, pu2, pu3])))
      go_meet
      case rel => exact ⟨by rw [HB.out], rfl⟩
     ·have hnx := half_next HH.out hun l1 hV1p hc (by omega)
      have b4 : IsP (4294967296 <= r') false := IsP.no hrb
      rw [<- eq', <- er'] at hnx
      have HB := hid hnx
      clear hmore hc hrb hnx hh eq' er'
      go_wp2_with (first | ((with_reducible apply geqBP (Y := 4294967296)); exact rfl; exact rfl; exact rfl; (with_reducible assumption); (try simp only [Act.put, pu1, pu2, pu3])) | ((with_reducible apply gtrBP); exact rfl; exact rfl; exact rfl; (with_reducible assumption); (try simp only [Act.put, pu1, pu2, pu3])) | ((with_reducible apply mulNP (X := 4294967296)); exact rfl; exact rfl; exact rfl; rw [HRR.out]; (try simp only [Act.put, pu1, pu2, pu3])) | ((with_reducible apply mulNP); exact rfl; exact rfl; exact rfl; rw [HPV.out]; (try simp only [Act.put, pu1, pu2, pu3])) | ((with_reducible apply subNP (Y := 1)); exact rfl; exact rfl; exact rfl; decide; rw [HQ'.out]; (try simp only [Act.put, pu1, pu2, pu3])) | ((with_reducible apply addNP); exact rfl; exact rfl; exact rfl; (first | rw [HT.out] | rw [HR'.out]); (try simp only [Act.put, pu1, pu2, pu3])))
      go_round
      case rel => exact ⟨q', r', rfl, rfl, HB.out⟩
      case measure => simp [intOf]; omega
    ·have hst := half_stop HH.out hV1p (show q * V0 <= 4294967296 * r + L1 by omega)
     have b5 : IsP (T < PV) false := IsP.no hg
     have HB := hid hst
     clear hst hpv ePV eRR eT hqb hg hh eq' er'
     go_wp2_with (first | ((with_reducible apply geqBP (Y := 4294967296)); exact rfl; exact rfl; exact rfl; (with_reducible assumption); (try simp only [Act.put, pu1, pu2, pu3])) | ((with_reducible apply gtrBP); exact rfl; exact rfl; exact rfl; (with_reducible assumption); (try simp only [Act.put, pu1, pu2, pu3])) | ((with_reducible apply mulNP (X := 4294967296)); exact rfl; exact rfl; exact rfl; rw [HRR.out]; (try simp only [Act.put, pu1, pu2, pu3])) | ((with_reducible apply mulNP); exact rfl; exact rfl; exact rfl; rw [HPV.out]; (try simp only [Act.put, pu1, pu2, pu3])) | ((with_reducible apply subNP (Y := 1)); exact rfl; exact rfl; exact rfl; decide; rw [HQ'.out]; (try simp only [Act.put, pu1, pu2, pu3])) | ((with_reducible apply addNP); exact rfl; exact rfl; exact rfl; (first | rw [HT.out] | rw [HR'.out]); (try simp only [Act.put, pu1, pu2, pu3])))
     go_meet
     case rel => exact ⟨by rw [HB.out], rfl⟩
 case rest =>
  obtain ⟨rfl, rfl⟩ := hcut
  have hVV : 4294967296 * V1 + V0 = V := HV4.out.symm
  rw [hVV]
  clear hVV
  have hVp : 0 < V := by omega
  obtain ⟨Q1, eQ1⟩ : ∃ x, x = hq U V L1 := ⟨_, rfl⟩
  rw [<- eQ1]
  obtain ⟨U2, eU2⟩ : ∃ x, x = (4294967296 * U + L1) % V := ⟨_, rfl⟩
  have hr2 := half_rest (n1 := L1) (u := U) p4 hVp
  rw [<- eQ1, <- eU2, Nat.mul_comm 4294967296 U] at hr2
  have hU2V : U2 < V := by rw [eU2]; exact Nat.mod_lt _ hVp
  have hU2 : U2 < 18446744073709551616 := by omega
  obtain ⟨A1, eA1⟩ : ∃ x, x = U * 4294967296 % 18446744073709551616 := ⟨_, rfl⟩
  rw [<- eA1] at hr2
  obtain ⟨A2, eA2⟩ : ∃ x, x = (A1 + L1) % 18446744073709551616 := ⟨_, rfl⟩
  rw [<- eA2] at hr2
  obtain ⟨A3, eA3⟩ : ∃ x, x = Q1 * V % 18446744073709551616 := ⟨_, rfl⟩
  rw [<- eA3] at hr2
  have hA3 : A3 < 18446744073709551616 := by rw [eA3]; exact Nat.mod_lt _ (by decide)
  have HA1 := hid eA1.symm
  have HA2 := hid eA2.symm
  have HA3 := hid eA3.symm
  have HU2 := hid hr2
  obtain ⟨k0, ek0⟩ : ∃ x, x = U2 / V1 := ⟨_, rfl⟩
  obtain ⟨k2, ek2⟩ : ∃ x, x = U2 % V1 := ⟨_, rfl⟩
  have hk0 : k0 * V1 + k2 = U2 := by rw [ek0, ek2, Nat.mul_comm]; exact Nat.div_add_mod U2 V1
  obtain ⟨K1, eK1⟩ : ∃ x, x = k0 * V1 % 18446744073709551616 := ⟨_, rfl⟩
  have hK1 : K1 < 18446744073709551616 := by rw [eK1]; exact Nat.mod_lt _ (by decide)
  have eK1' : K1 = k0 * V1 := by rw [eK1]; exact Nat.mod_eq_of_lt (by omega)
  have HK0 := hid ek0.symm
  have HK1 := hid eK1.symm
  have HK2 : Hid ((U2 + 18446744073709551616 - K1) % 18446744073709551616 = k2) := hid (by omega)
  have hun2' : U2 < V1 * 4294967296 + V0 := by rw [Nat.mul_comm, <- HV4.out]; exact hU2V
  have hun2 : U2 < 4294967296 * V1 + V0 := by rw [<- HV4.out]; exact hU2V
  have hst2 := half_start v1 v2 v3 l0 hun2
  rw [<- ek0, <- ek2] at hst2
  have HST2 := hid hst2
  have HQ1 := hid eQ1
  have HEU2 := hid eU2
  clear eQ1 eU2 hr2 eA1 eA2 eA3 ek0 ek2 hk0 eK1 eK1' hst2 hun2' hU2V
  go_upto_block 2 with (first | ((with_reducible apply mulNP (Y := 4294967296)); exact rfl; exact rfl; exact rfl; rw [HA1.out]; (try simp only [Act.put, pu1, pu2, pu3])) | ((with_reducible apply mulNP); exact rfl; exact rfl; exact rfl; (first | rw [HA3.out] | rw [HK1.out]); (try simp only [Act.put, pu1, pu2, pu3])) | ((with_reducible apply addNP); exact rfl; exact rfl; exact rfl; rw [HA2.out]; (try simp only [Act.put, pu1, pu2, pu3])) | ((with_reducible apply quoNP); exact rfl; exact rfl; exact rfl; exact hU2; exact hV1p; rw [HK0.out]; (try simp only [Act.put, pu1, pu2, pu3])) | ((with_reducible apply subNP); exact rfl; exact rfl; exact rfl; (first | exact hA3 | exact hK1); (first | rw [HU2.out] | rw [HK2.out]); (try simp only [Act.put, pu1, pu2, pu3])))
  go_cut [18] (fun qv wc2 => qv = .int .u64 ((hq U2 (4294967296 * V1 + V0) L0 : Nat) : Int) /\ wc2 = wc)
  case first =>
   go_wp2
   go_loop [16, 18] (fun rv qv => ∃ q r : Nat, qv = .int .u64 (q : Nat) /\ rv = .int .u64 (r : Nat) /\ Half U2 V1 V0 L0 q r) (fun _ qv => (intOf qv).toNat)
   case atStart => exact ⟨_, _, rfl, rfl, HST2.out⟩
   case round =>
    obtain ⟨q, r, rfl, rfl, hh⟩ := hrel
    have hr := hh.lt
    have hql := hh.le
    obtain ⟨q', eq'⟩ : ∃ q', q' = q - 1 := ⟨_, rfl⟩
    obtain ⟨r', er'⟩ : ∃ r', r' = r + V1 := ⟨_, rfl⟩
    have HH := hid hh
    have HEQ := hid eq'
    have HER := hid er'
    have HR' : Hid ((r + V1) % 18446744073709551616 = r') := hid (by omega)
    by_cases hqb : 4294967296 <= q
    ·have hc : 4294967296 <= q \/ 4294967296 * r + L0 < q * V0 := .inl hqb
     have b3 : IsP (4294967296 <= q) true := IsP.yes hqb
     have hmore := half_more HH.out hun2 l0 hV1p hc
     have hq1 := hmore.1
     have HQ' : Hid ((q + 18446744073709551616 - 1) % 18446744073709551616 = q') := hid (by omega)
     have hmeas : q' < q := by omega
     by_cases hrb : 4294967296 <= r'
     ·have hbr := half_break HH.out hun2 l0 hV1p v3 hc (by omega)
      have b4 : IsP (4294967296 <= r') true := IsP.yes hrb
      rw [<- eq'] at hbr
      have HB := hid hbr
      clear hmore hc hrb hbr hh eq' er'
      go_wp2_with (first | ((with_reducible apply geqBP (Y := 4294967296)); exact rfl; exact rfl; exact rfl; (with_reducible assumption); (try simp only [Act.put, pu1, pu2, pu3])) | ((with_reducible apply gtrBP); exact rfl; exact rfl; exact rfl; (with_reducible assumption); (try simp only [Act.put, pu1, pu2, pu3])) | ((with_reducible apply mulNP (X := 4294967296)); exact rfl; exact rfl; exact rfl; rw [HRR.out]; (try simp only [Act.put, pu1, pu2, pu3])) | ((with_reducible apply mulNP); exact rfl; exact rfl; exact rfl; rw [HPV.out]; (try simp only [Act.put, pu1, pu2, pu3])) | ((with_reducible apply subNP (Y := 1)); exact rfl; exact rfl; exact rfl; decide; rw [HQ'.out]; (try simp only [Act.put, pu1, pu2, pu3])) | ((with_reducible apply addNP); exact rfl; exact rfl; exact rfl; (first | rw [HT.out] | rw [HR'.out]); (try simp only [Act.put, pu1, pu2, pu3])))
      go_meet
      case rel => exact ⟨by rw [HB.out], rfl⟩
     ·have hnx := half_next HH.out hun2 l0 hV1p hc (by omega)
      have b4 : IsP (4294967296 <= r') false := IsP.no hrb
      rw [<- eq', <- er'] at hnx
      have HB := hid hnx
      clear hmore hc hrb hnx hh eq' er'
      go_wp2_with (first | ((with_reducible apply geqBP (Y := 4294967296)); exact rfl; exact rfl; exact rfl; (with_reducible assumption); (try simp only [Act.put, pu1, pu2, pu3])) | ((with_reducible apply gtrBP); exact rfl; exact rfl; exact rfl; (with_reducible assumption); (try simp only [Act.put, pu1, pu2, pu3])) | ((with_reducible apply mulNP (X := 4294967296)); exact rfl; exact rfl; exact rfl; rw [HRR.out]; (try simp only [Act.put, pu1, pu2, pu3])) | ((with_reducible apply mulNP); exact rfl; exact rfl; exact rfl; rw [HPV.out]; (try simp only [Act.put, pu1, pu2, pu3])) | ((with_reducible apply subNP (Y := 1)); exact rfl; exact rfl; exact rfl; decide; rw [HQ'.out]; (try simp only [Act.put, pu1, pu2, pu3])) | ((with_reducible apply addNP); exact rfl; exact rfl; exact rfl; (first | rw [HT.out] | rw [HR'.out]); (try simp only [Act.put, pu1, pu2, pu3])))
      go_round
      case rel => exact ⟨q', r', rfl, rfl, HB.out⟩
      case measure => simp [intOf]; omega
    ·have b3 : IsP (4294967296 <= q) false := IsP.no hqb
     have hpv : q * V0 <= 4294967295 * 4294967295 := Nat.mul_le_mul (by omega) (by omega)
     obtain ⟨PV, ePV⟩ : ∃ x, x = q * V0 := ⟨_, rfl⟩
     have HPV : Hid (q * V0 % 18446744073709551616 = PV) := hid (by rw [ePV]; exact Nat.mod_eq_of_lt (by omega))
     obtain ⟨RR, eRR⟩ : ∃ x, x = 4294967296 * r := ⟨_, rfl⟩
     have HRR : Hid (4294967296 * r % 18446744073709551616 = RR) := hid (by omega)
     obtain ⟨T, eT⟩ : ∃ x, x = RR + L0 := ⟨_, rfl⟩
     have HT : Hid ((RR + L0) % 18446744073709551616 = T) := hid (by omega)
     by_cases hg : T < PV
     ·have hc : 4294967296 <= q \/ 4294967296 * r + L0 < q * V0 := .inr (by omega)
      have b5 : IsP (T < PV) true := IsP.yes hg
      clear hpv ePV eRR eT hqb hg
      have hmore := half_more HH.out hun2 l0 hV1p hc
      have hq1 := hmore.1
      have HQ' : Hid ((q + 18446744073709551616 - 1) % 18446744073709551616 = q') := hid (by omega)
      have hmeas : q' < q := by omega
      by_cases hrb : 4294967296 <= r'
      ·have hbr := half_break HH.out hun2 l0 hV1p v3 hc (by omega)
       have b4 : IsP (4294967296 <= r') true := IsP.yes hrb
       rw [<- eq'] at hbr
       have HB := hid hbr
       clear hmore hc hrb hbr hh eq' er'
       go_wp2_with (first | ((with_reducible apply geqBP (Y := 4294967296)); exact rfl; exact rfl; exact rfl; (with_reducible assumption); (try simp only [Act.put, pu1, pu2, pu3])) | ((with_reducible apply gtrBP); exact rfl; exact rfl; exact rfl; (with_reducible assumption); (try simp only [Act.put, pu1, pu2, pu3])) | ((with_reducible apply mulNP (X := 4294967296)); exact rfl; exact rfl; exact rfl; rw [HRR.out]; (try simp only [Act.put, pu1, pu2, pu3])) | ((with_reducible apply mulNP); exact rfl; exact rfl; exact rfl; rw [HPV.out]; (try simp only [Act.put, pu1, pu2, pu3])) | ((with_reducible apply subNP (Y := 1)); exact rfl; exact rfl; exact rfl; decide; rw [HQ'.out]; (try simp only [Act.put, pu1, pu2, pu3])) | ((with_reducible apply addNP); exact rfl; exact rfl; exact rfl; (first | rw [HT.out] | rw [HR'.out]); (try simp only [Act.put, pu1, pu2, pu3])))
       go_meet
       case rel => exact ⟨by rw [HB.out], rfl⟩
      ·have hnx := half_next HH.out hun2 l0 hV1p hc (by omega)
       have b4 : IsP (4294967296 <= r') false := IsP.no hrb
       rw [<- eq', <- er'] at hnx
       have HB := hid hnx
       clear hmore hc hrb hnx hh eq' er'
       go_wp2_with (first | ((with_reducible apply geqBP (Y := 4294967296)); exact rfl; exact rfl; exact rfl; (with_reducible assumption); (try simp only [Act.put, pu1, pu2, pu3])) | ((with_reducible apply gtrBP); exact rfl; exact rfl; exact rfl; (with_reducible assumption); (try simp only [Act.put, pu1, pu2, pu3])) | ((with_reducible apply mulNP (X := 4294967296)); exact rfl; exact rfl; exact rfl; rw [HRR.out]; (try simp only [Act.put, pu1, pu2, pu3])) | ((with_reducible apply mulNP); exact rfl; exact rfl; exact rfl; rw [HPV.out]; (try simp only [Act.put, pu1, pu2, pu3])) | ((with_reducible apply subNP (Y := 1)); exact rfl; exact rfl; exact rfl; decide; rw [HQ'.out]; (try simp only [Act.put, pu1, pu2, pu3])) | ((with_reducible apply addNP); exact rfl; exact rfl; exact rfl; (first | rw [HT.out] | rw [HR'.out]); (try simp only [Act.put, pu1, pu2, pu3])))
       go_round
       case rel => exact ⟨q', r', rfl, rfl, HB.out⟩
       case measure => simp [intOf]; omega
     ·have hst := half_stop HH.out hV1p (show q * V0 <= 4294967296 * r + L0 by omega)
      have b5 : IsP (T < PV) false := IsP.no hg
      have HB := hid hst
      clear hst hpv ePV eRR eT hqb hg hh eq' er'
      go_wp2_with (first | ((with_reducible apply geqBP (Y := 4294967296)); exact rfl; exact rfl; exact rfl; (with_reducible assumption); (try simp only [Act.put, pu1, pu2, pu3])) | ((with_reducible apply gtrBP); exact rfl; exact rfl; exact rfl; (with_reducible assumption); (try simp only [Act.put, pu1, pu2, pu3])) | ((with_reducible apply mulNP (X := 4294967296)); exact rfl; exact rfl; exact rfl; rw [HRR.out]; (try simp only [Act.put, pu1, pu2, pu3])) | ((with_reducible apply mulNP); exact rfl; exact rfl; exact rfl; rw [HPV.out]; (try simp only [Act.put, pu1, pu2, pu3])) | ((with_reducible apply subNP (Y := 1)); exact rfl; exact rfl; exact rfl; decide; rw [HQ'.out]; (try simp only [Act.put, pu1, pu2, pu3])) | ((with_reducible apply addNP); exact rfl; exact rfl; exact rfl; (first | rw [HT.out] | rw [HR'.out]); (try simp only [Act.put, pu1, pu2, pu3])))
      go_meet
      case rel => exact ⟨by rw [HB.out], rfl⟩
  case rest =>
   obtain ⟨rfl, rfl⟩ := hcut
   have hVV : 4294967296 * V1 + V0 = V := HV4.out.symm
   rw [hVV]
   clear hVV
   have hbo := half_both (u := U) (n1 := L1) (n0 := L0) hVp
   rw [<- HEU2.out, <- HQ1.out] at hbo
   obtain ⟨Q0, eQ0⟩ : ∃ x, x = hq U2 V L0 := ⟨_, rfl⟩
   have hr3 := half_rest (n1 := L0) (u := U2) p4 hVp
   rw [<- eQ0] at hbo hr3 ⊢
   obtain ⟨hb1, hb2⟩ := hbo
   have hN : 4294967296 * (4294967296 * U + L1) + L0 = (18446744073709551616 * hi + lo) * 2 ^ s := by rw [<- HN.out, HL2.out]; omega
   rw [hN, HEV.out, Nat.mul_div_mul_right _ _ (Nat.two_pow_pos s)] at hb1
   rw [hN] at hb2
   rw [hb2, HEV.out, Nat.mul_mod_mul_right, Nat.mul_comm 4294967296 U2] at hr3
   obtain ⟨qq, eqq⟩ : ∃ x, x = (18446744073709551616 * hi + lo) / y := ⟨_, rfl⟩
   obtain ⟨rr, err⟩ : ∃ x, x = (18446744073709551616 * hi + lo) % y := ⟨_, rfl⟩
   have hqq : qq < 18446744073709551616 := by rw [eqq, Nat.div_lt_iff_lt_mul (by omega)]; omega
   rw [<- eqq] at hb1
   rw [<- err] at hr3
   have Hqq := hid eqq
   have Hrr := hid err
   obtain ⟨B1, eB1⟩ : ∃ x, x = Q1 * 4294967296 % 18446744073709551616 := ⟨_, rfl⟩
   have HB1 := hid eB1.symm
   have HB2 : Hid ((B1 + Q0) % 18446744073709551616 = qq) := hid (by omega)
   obtain ⟨C1, eC1⟩ : ∃ x, x = U2 * 4294967296 % 18446744073709551616 := ⟨_, rfl⟩
   rw [<- eC1] at hr3
   obtain ⟨C2, eC2⟩ : ∃ x, x = (C1 + L0) % 18446744073709551616 := ⟨_, rfl⟩
   rw [<- eC2] at hr3
   obtain ⟨C3, eC3⟩ : ∃ x, x = Q0 * (y * 2 ^ s) % 18446744073709551616 := ⟨_, rfl⟩
   rw [<- eC3] at hr3
   rw [<- HEV.out] at eC3
   have hC3 : C3 < 18446744073709551616 := by rw [eC3]; exact Nat.mod_lt _ (by decide)
   have HC1 := hid eC1.symm
   have HC2 := hid eC2.symm
   have HC3 := hid eC3.symm
   have HC4 := hid hr3
   have HC5 : Hid (rr * 2 ^ s / 2 ^ s = rr) := hid (Nat.mul_div_cancel _ (Nat.two_pow_pos s))
   clear hb1 hb2 hN hr3 eqq err eB1 eC1 eC2 eC3 eQ0
   go_wp2_with (first | ((with_reducible apply mulNP (Y := 4294967296)); exact rfl; exact rfl; exact rfl; (first | rw [HB1.out] | rw [HC1.out]); (try simp only [Act.put, pu1, pu2, pu3])) | ((with_reducible apply mulNP); exact rfl; exact rfl; exact rfl; rw [HC3.out]; (try simp only [Act.put, pu1, pu2, pu3])) | ((with_reducible apply addNP); exact rfl; exact rfl; exact rfl; (first | rw [HB2.out] | rw [HC2.out]); (try simp only [Act.put, pu1, pu2, pu3])) | ((with_reducible apply subNP); exact rfl; exact rfl; exact rfl; exact hC3; rw [HC4.out]; (try simp only [Act.put, pu1, pu2, pu3])) | ((with_reducible apply shrNP); exact rfl; exact rfl; exact rfl; exact hs64; rw [HC5.out]; (try simp only [Act.put, pu1, pu2, pu3])))
   go_ret2
   exact ⟨by rw [Hqq.out, Hrr.out]; rfl, Up.refl _⟩
theorem div64_any (hi lo y : Nat) (hy : y < 18446744073709551616) (hlo : lo < 18446744073709551616) (hlt : hi < y) (w : World) :
   Calls Tryd.prog 66 #[.int .u64 hi, .int .u64 lo, .int .u64 y] w fun e w' => e = .returned (.tuple #[.int .u64 (((18446744073709551616 * hi + lo) / y : Nat) : Int), .int .u64 (((18446744073709551616 * hi + lo) % y : Nat) : Int)]) /\ Up w w' := by
 by_cases h : hi = 0
 ·subst h
  rw [Nat.mul_zero, Nat.zero_add]
  exact div64_small lo y hlo (by omega) w
 ·exact div64_great hi lo y hy hlo hlt (by omega) w
def ExRow (w : World) (b : Nat) (t : TypeId) (n : Nat) : Prop := ∃ f, Row w b t n f
theorem ExRow.up {w w' : World} {b n : Nat} {t : TypeId} (h : ExRow w b t n) (hu : Up w w') : ExRow w' b t n := let ⟨f, hf⟩ := h; ⟨f, hf.up hu⟩
theorem ExRow.st {w : World} {b c n : Nat} {t : TypeId} (h : ExRow w b t n) (v : Nat -> Nat) : ExRow (w.setRow c (cells n v)) b t n := by
 obtain ⟨f, hf⟩ := h
 by_cases e : b = c
 ·subst e; exact ⟨v, hf.setRow v⟩
 ·exact ⟨f, hf.row_other _ e⟩
theorem short_step {x S r y xk q r' b X : Nat} (h : x = S * y + r * (b * 18446744073709551616) + (X + xk * b)) (hq : y * q + r' = 18446744073709551616 * r + xk) : x = (S + q * b) * y + r' * b + X := by
 have h2 : (y * q + r') * b = (18446744073709551616 * r + xk) * b := by rw [hq]
 rw [h]
 grind
theorem short_q {r y xk : Nat} (hr : r < y) (hx : xk < 18446744073709551616) : (18446744073709551616 * r + xk) / y < 18446744073709551616 := by
 rw [Nat.div_lt_iff_lt_mul (by omega)]
 omega
theorem sum_one (r n : Nat) : sumL (upd (fun _ => 0) 0 r) (n + 1) = r := by
 induction n with
 | zero => rw [sumL_upd_succ, sumL_zero, bp_zero]; omega
 | succ n ih => rw [sumL_succ, ih, upd_other _ _ _ (by omega)]; omega
theorem wide_one {r : Nat} (hr : r < 18446744073709551616) : Value.agg (cells 16 (upd (fun _ => 0) 0 r)) = wideV r := by
 rw [wide_of (upd_lt (fun _ _ => by decide) hr), sum_one r 15]
set_option maxHeartbeats 2000000 in
theorem short_any (x y : Nat) (hx : x < bp 16) (hy : y < 18446744073709551616) (h0 : 0 < y) (w : World) :
   Calls Tryd.prog 64 #[wideV x, .int .u64 y] w fun e w' => e = .returned (.tuple #[wideV (x / y), wideV (x % y)]) /\ Up w w' := by
 have HL := hid (length_any x)
 have hn := lenL_le (limb x) 16
 have HX := hid (limb_len x hx)
 generalize lenL (limb x) 16 = n at *
 unfold wideV at *
 go_enter Tryd.func64, Tryd.ntmps64
 go_wp2_with (first | ((with_reducible apply ld_rowP undW infoW); exact rfl; exact rfl; exact gRow) | (go_at_call 55; refine (HL.out _).mono ?_; rintro e w' ⟨rfl, hu⟩; have rX : Row w' w.heap.size 80 16 (limb x) := gRow; have rA : Row w' (w.heap.size + 1) 80 16 (fun _ => 0) := gRow; have rB : Row w' (w.heap.size + 1 + 1) 80 16 (fun _ => 0) := gRow; have rQ : Row w' (w.heap.size + 1 + 1 + 1) 80 16 (fun _ => 0) := gRow; have rR : Row w' (w.heap.size + 1 + 1 + 1 + 1) 80 16 (fun _ => 0) := gRow; have rU : Below w.heap.size w w' := gUp; clear hu))
 go_loopw [8] (fun t wr => ∃ (m r : Nat) (f : Nat -> Nat), m <= 16 /\ t = .int .i64 ((m : Int) - 1) /\ r < y /\ (∀ j, j < 16 -> f j < 18446744073709551616) /\ (∀ j, j < m -> f j = 0) /\ x = sumL f 16 * y + r * bp m + sumL (limb x) m /\
    Row wr w.heap.size 80 16 (limb x) /\ Row wr (w.heap.size + 1) 80 16 (fun _ => 0) /\ Row wr (w.heap.size + 1 + 1) 80 16 (fun _ => 0) /\ Row wr (w.heap.size + 1 + 1 + 1) 80 16 f /\ Row wr (w.heap.size + 1 + 1 + 1 + 1) 80 16 (upd (fun _ => 0) 0 r) /\ Below w.heap.size w wr)
  (fun t _ => (intOf t + 1).toNat)
 case atStart => exact ⟨n, 0, fun _ => 0, hn, rfl, h0, fun j _ => by simp, fun j _ => rfl, by rw [sumL_zeros, HX.out]; omega, rX, rA, rB, rQ, rR.congr fun i _ => by unfold upd; split <;> rfl, rU⟩
 case round =>
  clear rX rA rB rQ rR rU
  obtain ⟨m, r, f, hm, rfl, hr, hf, hz, hsum, hX, hA, hB2, hQ, hR, hB⟩ := hrel
  have Hf := hid hf
  have Hz := hid hz
  have Hsum := hid hsum
  clear hf hz hsum
  by_cases hlt : 0 < m
  ·obtain ⟨k, rfl⟩ : ∃ k, m = k + 1 := ⟨m - 1, by omega⟩
   have e : (((k + 1 : Nat) : Int) - 1) = (k : Int) := by omega
   rw [e]
   clear e
   have hlx := limb_lt x k
   obtain ⟨q, eq⟩ : ∃ q, q = (18446744073709551616 * r + limb x k) / y := ⟨_, rfl⟩
   obtain ⟨r', er⟩ : ∃ r', r' = (18446744073709551616 * r + limb x k) % y := ⟨_, rfl⟩
   have hD := div64_any r (limb x k) y hy hlx hr
   rw [<- eq, <- er] at hD
   have HD := hid hD
   have hq : q < 18446744073709551616 := by rw [eq]; exact short_q hr hlx
   have hr' : r' < y := by rw [er]; exact Nat.mod_lt _ h0
   have HQR : Hid (y * q + r' = 18446744073709551616 * r + limb x k) := hid (by rw [eq, er]; exact Nat.div_add_mod _ _)
   clear eq er hD
   have hk1 : (k : Int) < 16 := by omega
   have hcx := hX.cell k (by omega)
   have hcr := hR.cell 0 (by omega)
   rw [upd_same] at hcr
   go_wp2
   refine opU (S := (fun wq => Row wq w.heap.size 80 16 (limb x) /\ Row wq (w.heap.size + 1) 80 16 (fun _ => 0) /\ Row wq (w.heap.size + 1 + 1) 80 16 (fun _ => 0) /\ Row wq (w.heap.size + 1 + 1 + 1) 80 16 f /\ Row wq (w.heap.size + 1 + 1 + 1 + 1) 80 16 (upd (fun _ => 0) 0 r) /\ wq.cell? ⟨w.heap.size, k, none⟩ = some (.int .u64 (limb x k : Nat)) /\ wq.cell? ⟨w.heap.size + 1 + 1 + 1 + 1, 0, none⟩ = some (.int .u64 (r : Nat)) /\ Below w.heap.size w wq)) (req := (fun j => j != 12 && j != 14)) (fun _ _ h hu => ⟨(h.1).up hu, (h.2.1).up hu, (h.2.2.1).up hu, (h.2.2.2.1).up hu, (h.2.2.2.2.1).up hu, hu.cell (h.2.2.2.2.2.1), hu.cell (h.2.2.2.2.2.2.1), below_up (h.2.2.2.2.2.2.2) hu⟩) ⟨gRow, gRow, gRow, gRow, gRow, (by first | assumption | (apply Blk.cell; exact gBlk; exact rfl)), (by first | assumption | (apply Blk.cell; exact gBlk; exact rfl)), gUp⟩ (fun wS hSS hSu => ?_)
   have ⟨hS1, hS2, hS3, hS4, hS5, hS6, hS7, hSB⟩ := hSS
   clear hcx hcr hX hA hB2 hQ hR hB
   refine tkP 0 (some 17) hSu ?_
   refine tkP 1 (some 18) hSu ?_
   refine tkT 2 (some 19) rfl hSu hSS ?_ (hy := fun w' hSw => by ((try dsimp only at hSw); (try obtain ⟨_, _, _, _, _, _, _, _⟩ := hSw); go_simp; (try exact rfl)))
   refine tkP 3 (some 20) hSu ?_
   refine tkP 4 (some 21) hSu ?_
   refine tkT 5 (some 22) rfl hSu hSS ?_ (hy := fun w' hSw => by ((try dsimp only at hSw); (try obtain ⟨_, _, _, _, _, _, _, _⟩ := hSw); go_simp; (try exact rfl)))
   refine tkP 6 (some 23) hSu ?_
   refine tkC 7 (some 24) rfl hSu hSS ?_ (hy := fun w' hSw => (HD.out _))
   refine tkP 8 (some 16) hSu ?_
   refine tkP 9 (some 25) hSu ?_
   refine tkP 10 (some 26) hSu ?_
   refine tkP 11 (some 27) hSu ?_
   refine wpAnyU_one (i := 12) rfl (by kernel_rfl) (by rfl) fun w1 hw1 => ?_
   have hcW := (hS4.up hw1).cell k (by omega)
   have hfW := (hS4.up hw1).frozen k
   go_simp
   clear hcW hfW
   have gX := (hS1.up hw1).other ⟨w.heap.size + 1 + 1 + 1, k, none⟩ (.int .u64 (q : Nat)) (by simp <;> omega)
   have gA := (hS2.up hw1).other ⟨w.heap.size + 1 + 1 + 1, k, none⟩ (.int .u64 (q : Nat)) (by simp <;> omega)
   have gB2 := (hS3.up hw1).other ⟨w.heap.size + 1 + 1 + 1, k, none⟩ (.int .u64 (q : Nat)) (by simp)
   have gQ := (hS4.up hw1).set k q
   have gR := (hS5.up hw1).other ⟨w.heap.size + 1 + 1 + 1, k, none⟩ (.int .u64 (q : Nat)) (by simp)
   have gB := (below_up hSB hw1).setCell (p := ⟨w.heap.size + 1 + 1 + 1, k, none⟩) (by simp <;> omega) (.int .u64 (q : Nat))
   clear hS1 hS2 hS3 hS4 hS5 hS6 hS7 hSB hw1
   refine tkP 13 (some 28) hSu ?_
   refine wpAnyU_one (i := 14) rfl (by kernel_rfl) (by rfl) fun w2 hw2 => ?_
   have hcW := (gR.up hw2).cell 0 (by omega)
   have hfW := (gR.up hw2).frozen 0
   go_simp
   clear hcW hfW hSS
   refine wpAnyU_done (by kernel_rfl) (fun wF huE => ?_) _
   have fX := ((gX.up hw2).other ⟨w.heap.size + 1 + 1 + 1 + 1, 0, none⟩ (.int .u64 (r' : Nat)) (by simp <;> omega)).up huE
   have fA := ((gA.up hw2).other ⟨w.heap.size + 1 + 1 + 1 + 1, 0, none⟩ (.int .u64 (r' : Nat)) (by simp <;> omega)).up huE
   have fB2 := ((gB2.up hw2).other ⟨w.heap.size + 1 + 1 + 1 + 1, 0, none⟩ (.int .u64 (r' : Nat)) (by simp <;> omega)).up huE
   have fQ := ((gQ.up hw2).other ⟨w.heap.size + 1 + 1 + 1 + 1, 0, none⟩ (.int .u64 (r' : Nat)) (by simp)).up huE
   have fR : Row wF (w.heap.size + 1 + 1 + 1 + 1) 80 16 (upd (fun _ => 0) 0 r') := (((gR.up hw2).set 0 r').up huE).congr fun i _ => by unfold upd; split <;> rfl
   have fB := below_up ((below_up gB hw2).setCell (p := ⟨w.heap.size + 1 + 1 + 1 + 1, 0, none⟩) (by simp <;> omega) (.int .u64 (r' : Nat))) huE
   clear gX gA gB2 gQ gR gB hw2 huE
   go_wp2
   go_roundw
   case rel =>
    refine ⟨k, r', upd f k q, by omega, by go_num, hr', upd_lt Hf.out hq, fun j hj => by rw [upd_other _ _ _ (by omega)]; exact Hz.out j (by omega), ?_, fX, fA, fB2, fQ, fR, fB⟩
    have h1 := sumL_upd f q (show k < 16 by omega)
    rw [Hz.out k (by omega), Nat.zero_mul, Nat.add_zero] at h1
    have h2 := Hsum.out
    rw [bp_succ, sumL_succ (limb x) k] at h2
    rw [h1]
    exact short_step h2 HQR.out
   case measure => simp [intOf] <;> omega
  ·obtain rfl : m = 0 := by omega
   have hfin := Hsum.out
   rw [bp_zero, sumL_zero, Nat.mul_one, Nat.add_zero] at hfin
   have e1 : x / y = sumL f 16 := by rw [hfin, Nat.mul_comm, Nat.mul_add_div h0, Nat.div_eq_of_lt hr, Nat.add_zero]
   have e2 : x % y = r := by rw [hfin, Nat.mul_comm, Nat.mul_add_mod, Nat.mod_eq_of_lt hr]
   have HE1 := hid e1
   have HE2 := hid e2
   clear hfin e1 e2
   go_wp2
   refine opU (S := (fun wq => Row wq (w.heap.size + 1 + 1 + 1) 80 16 f /\ Row wq (w.heap.size + 1 + 1 + 1 + 1) 80 16 (upd (fun _ => 0) 0 r) /\ ExRow wq (w.heap.size + 1) 80 16 /\ ExRow wq (w.heap.size + 1 + 1) 80 16 /\ Below w.heap.size w wq)) (req := (fun j => j != 3)) (fun _ _ h hu => ⟨(h.1).up hu, (h.2.1).up hu, (h.2.2.1).up hu, (h.2.2.2.1).up hu, below_up (h.2.2.2.2) hu⟩) ⟨gRow, gRow, ⟨_, gRow⟩, ⟨_, gRow⟩, gUp⟩ (fun wS hSS hSu => ?_)
   have ⟨hS1, hS2, hS3, hS4, hSB⟩ := hSS
   clear hX hA hB2 hQ hR hB
   refine tkT 0 (some 29) rfl hSu hSS ?_ (hy := fun w' hSw => run_ld undW infoW _ rfl _ rfl hSw.1)
   refine tkT 1 (some 30) rfl hSu hSS ?_ (hy := fun w' hSw => run_ld undW infoW _ rfl _ rfl hSw.2.1)
   obtain ⟨v3, hS3⟩ := hS3
   obtain ⟨v4, hS4⟩ := hS4
   refine wpAnyU_one (i := 2) rfl (by kernel_rfl) (by rfl) fun w2 hw2 => ?_
   refine wp_st_rowN infoW rfl _ _ rfl _ rfl rfl (hS3.up hw2) ?_
   refine ⟨fun _ h => ⟨h.1.row_other _ (by omega), h.2.1.row_other _ (by omega), h.2.2.1.st f, h.2.2.2.1.st f, below_setRow h.2.2.2.2 (by omega) _⟩, ?_⟩
   refine wpAnyU_one (i := 3) rfl (by kernel_rfl) (by rfl) fun w3 hw3 => ?_
   refine wp_st_rowN infoW rfl _ _ rfl _ rfl rfl ((Row.up (((hS4.up hw2).row_other (cells 16 f) (show w.heap.size + 1 + 1 ≠ w.heap.size + 1 by omega))) hw3)) ?_
   refine ⟨fun h => by simp at h, ?_⟩
   try simp only [Act.put, pu1, pu2, pu3]
   refine wpAnyU_done (by kernel_rfl) (fun wF huE => ?_) _
   have gA := ((((hS3.up hw2).setRow f).up hw3).row_other (cells 16 (upd (fun _ => 0) 0 r)) (show w.heap.size + 1 ≠ w.heap.size + 1 + 1 by omega)).up huE
   have gC := (((hS4.up hw2).row_other (cells 16 f) (show w.heap.size + 1 + 1 ≠ w.heap.size + 1 by omega)).up hw3).setRow (upd (fun _ => 0) 0 r)
   replace gC := gC.up huE
   have gB := below_up (below_setRow (below_up (below_setRow (below_up hSB hw2) (show w.heap.size <= w.heap.size + 1 by omega) (cells 16 f)) hw3) (show w.heap.size <= w.heap.size + 1 + 1 by omega) (cells 16 (upd (fun _ => 0) 0 r))) huE
   clear hS1 hS2 hS3 hS4 hSB hSS hw2 hw3 huE
   go_wp2
   exact bodyPost_ret (resCC rfl undW infoW _ _ _ rfl rfl gA gC) rfl ⟨by
    rw [HE1.out, HE2.out, wide_of Hf.out, wide_one (by omega)]; rfl, gB⟩
theorem wp_st_rowZ {P : Program} {t : TypeId} {o : Oper} {a : Act} {w : World} {K : Act -> World -> Prop} {Q : Exit -> Act -> World -> Prop} (hi : (P.info? t).map (·.size) = some 16) (hd : o.dst = none) (x y : Operand) (ho : o.op = .store t x y) (g : Nat)
   (hx : a.eval x = .pointer (some ⟨g, 0, none⟩)) {f : Nat -> Nat} (hy : a.eval y = .agg #[.int .u64 0, .int .u64 0, .int .u64 0, .int .u64 0, .int .u64 0, .int .u64 0, .int .u64 0, .int .u64 0, .int .u64 0, .int .u64 0, .int .u64 0, .int .u64 0, .int .u64 0, .int .u64 0, .int .u64 0, .int .u64 0])
   (hC : Row w g t 16 f) (h : K a (w.setRow g (cells 16 (fun _ => 0)))) : o.wp P a w K Q :=
 wp_st_rowN hi hd x y ho g hx (by rw [hy, zeros16]) hC h
def divV (x y : Nat) : Value := .tuple #[wideV (x / y), wideV (x % y)]
theorem ordZ_lt {x y : Nat} (h : x < y) : ordZ x y = -1 := by simp [ordZ, h]
theorem ordZ_ge {x y : Nat} (h : ¬ x < y) : 0 <= ordZ x y := by
 unfold ordZ
 rw [if_neg h]
 split <;> omega
set_option maxHeartbeats 1000000 in
theorem divide_less (x y : Nat) (hx : x < bp 16) (hy : y < bp 16) (h : x < y) (w : World) :
   Calls Tryd.prog 60 #[wideV x, wideV y] w fun e w' => e = .returned (divV x y) /\ Up w w' := by
 have hO := fun w => order_any x y hx hy w
 rw [ordZ_lt h] at hO
 have HO := hid hO
 unfold divV
 rw [Nat.div_eq_of_lt h, Nat.mod_eq_of_lt h, zeroW]
 clear hO
 unfold wideV at *
 go_enter Tryd.func60, Tryd.ntmps60
 go_wp2_with (first | ((with_reducible apply ld_rowP undW infoW); exact rfl; exact rfl; exact gRow) | (go_at_call 63; refine (HO.out _).mono ?_; rintro e w' ⟨rfl, hu⟩))
 refine opU (S := (fun wq => Row wq w.heap.size 80 16 (limb x) /\ ExRow wq (w.heap.size + 1 + 1) 80 16 /\ ExRow wq (w.heap.size + 1 + 1 + 1) 80 16 /\ Below w.heap.size w wq)) (req := (fun j => j != 3)) (fun _ _ h hu => ⟨(h.1).up hu, (h.2.1).up hu, (h.2.2.1).up hu, below_up (h.2.2.2) hu⟩) ⟨gRow, ⟨_, gRow⟩, ⟨_, gRow⟩, gUp⟩ (fun wS hSS hSu => ?_)
 have ⟨hS1, hS2, hS3, hSB⟩ := hSS
 clear hu
 refine tkP 0 (some 10) hSu ?_
 refine tkT 1 (some 11) rfl hSu hSS ?_ (hy := fun w' hSw => run_ld undW infoW _ rfl _ rfl hSw.1)
 obtain ⟨v3, hS2⟩ := hS2
 obtain ⟨v4, hS3⟩ := hS3
 refine wpAnyU_one (i := 2) rfl (by kernel_rfl) (by rfl) fun w2 hw2 => ?_
 refine wp_st_rowZ infoW rfl _ _ rfl _ rfl rfl (hS2.up hw2) ?_
 refine ⟨fun _ h => ⟨h.1.row_other _ (by omega), h.2.1.st _, h.2.2.1.st _, below_setRow h.2.2.2 (by omega) _⟩, ?_⟩
 refine wpAnyU_one (i := 3) rfl (by kernel_rfl) (by rfl) fun w3 hw3 => ?_
 refine wp_st_rowN infoW rfl _ _ rfl _ rfl rfl ((Row.up (((hS3.up hw2).row_other (cells 16 (fun _ => 0)) (show w.heap.size + 1 + 1 + 1 ≠ w.heap.size + 1 + 1 by omega))) hw3)) ?_
 refine ⟨fun h => by simp at h, ?_⟩
 try simp only [Act.put, pu1, pu2, pu3]
 refine wpAnyU_done (by kernel_rfl) (fun wF huE => ?_) _
 have gA := ((((hS2.up hw2).setRow (fun _ => 0)).up hw3).row_other (cells 16 (limb x)) (show w.heap.size + 1 + 1 ≠ w.heap.size + 1 + 1 + 1 by omega)).up huE
 have gC := (((hS3.up hw2).row_other (cells 16 (fun _ => 0)) (show w.heap.size + 1 + 1 + 1 ≠ w.heap.size + 1 + 1 by omega)).up hw3).setRow (limb x)
 replace gC := gC.up huE
 have gB := below_up (below_setRow (below_up (below_setRow (below_up hSB hw2) (show w.heap.size <= w.heap.size + 1 + 1 by omega) (cells 16 (fun _ => 0))) hw3) (show w.heap.size <= w.heap.size + 1 + 1 + 1 by omega) (cells 16 (limb x))) huE
 clear hS1 hS2 hS3 hSB hSS hw2 hw3 huE
 go_wp2
 exact bodyPost_ret (resCC rfl undW infoW _ _ _ rfl rfl gA gC) rfl ⟨rfl, gB⟩
set_option maxHeartbeats 1000000 in
theorem divide_one (x y : Nat) (hx : x < bp 16) (hy : y < bp 16) (h : ¬ x < y) (h1 : lenL (limb y) 16 = 1) (w : World) :
   Calls Tryd.prog 60 #[wideV x, wideV y] w fun e w' => e = .returned (divV x y) /\ Up w w' := by
 have hO := fun w => order_any x y hx hy w
 have ho := ordZ_ge h
 have hL := fun w => length_any y w
 rw [h1] at hL
 have hy1 : limb y 0 = y := by
  have e := limb_len y hy
  rw [h1, sumL_succ, sumL_zero, bp_zero] at e
  omega
 have hyl := limb_lt y 0
 rw [hy1] at hyl
 have hy0 : 0 < y := by
  have := lenL_top (limb y) 16 (by omega)
  rw [h1] at this
  have e : limb y (1 - 1) = limb y 0 := rfl
  rw [e, hy1] at this
  omega
 have HS := hid (fun w => short_any x y hx hyl hy0 w)
 have HO := hid hO
 have HL := hid hL
 have Hy1 := hid hy1
 unfold divV
 clear hO hL hy1 h h1
 generalize ordZ x y = oz at *
 have hoz : ¬ oz < 0 := by omega
 obtain ⟨q, eq⟩ : ∃ q, x / y = q := ⟨_, rfl⟩
 obtain ⟨r, er⟩ : ∃ r, x % y = r := ⟨_, rfl⟩
 rw [eq, er] at HS ⊢
 clear eq er
 unfold wideV at *
 go_enter Tryd.func60, Tryd.ntmps60
 go_wp2_with (first | ((with_reducible apply ld_rowP undW infoW); exact rfl; exact rfl; exact gRow) | ((with_reducible apply st_rowP infoW); exact rfl; exact rfl; exact gRow) | ((with_reducible apply st_rowZ infoW); exact rfl; exact rfl; exact gRow) | (go_at_call 63; refine (HO.out _).mono ?_; rintro e w' ⟨rfl, hu⟩) | (go_at_call 55; refine (HL.out _).mono ?_; rintro e w' ⟨rfl, hu⟩; have hcl := Row.cell (w := w') (b := w.heap.size + 1) (t := 80) (n := 16) (f := limb y) gRow 0 (by omega); rw [Hy1.out] at hcl) | (go_at_call 64; refine (HS.out _).mono ?_; rintro e w' ⟨rfl, hu⟩))
 exact bodyPost_ret (resCC rfl undW infoW _ _ _ rfl rfl gRow gRow) rfl ⟨rfl, gUp⟩
theorem wpAnyU_alloc2 {ops : Array Oper} {Q : Exit -> Act -> World -> Prop} {md : Region.Mode} {S : World -> Prop} {req : Nat -> Bool} {i j : Nat} {oi oj : Oper} {di dj : Tmp} {fuel : Nat} {listed : Array Bool} {a : Act} {w : World}
   (hi : ops[i]? = some oi) (hj : ops[j]? = some oj) (hdi : oi.dst = some di) (hdj : oj.dst = some dj) (hd : di ≠ dj) (hgi : oi.guard = none) (hgj : oj.guard = none) (hoi : oi.op = .alloc 80) (hoj : oj.op = .alloc 80)
   (hr : Region.ready md ops listed = [i, j]) (hr1 : Region.ready md ops (listed.setIfInBounds i true) = [j]) (hr2 : Region.ready md ops (listed.setIfInBounds j true) = [i]) (hij : i ≠ j) (hSup : ∀ w w', S w -> Up w w' -> S w')
   (h : ∀ w1 p q, Up w w1 -> Row w1 p 80 16 (fun _ => 0) -> Row w1 q 80 16 (fun _ => 0) -> p ≠ q -> w.heap.size <= p -> w.heap.size <= q ->
    wpAnyU Tryd.prog md ops Q S req fuel ((listed.setIfInBounds i true).setIfInBounds j true) ((a.put (some di) (.pointer (some ⟨p, 0, none⟩))).put (some dj) (.pointer (some ⟨q, 0, none⟩))) w1) :
   wpAnyU Tryd.prog md ops Q S req (fuel + 2) listed a w := by
 have hwi : ∀ a : Act, Region.wanted oi (yielded ops a.tmps) = true := fun a => by simp [Region.wanted, hgi]
 have hwj : ∀ a : Act, Region.wanted oj (yielded ops a.tmps) = true := fun a => by simp [Region.wanted, hgj]
 refine wpAnyU_all hr (by simp) fun w1 hw1 k hk => ?_
 simp only [List.mem_cons, List.not_mem_nil, or_false] at hk
 rcases hk with rfl | rfl
 ·unfold wpOp
  simp only [hi, hwi, if_true]
  refine .inl ?_
  unfold Oper.wp
  rw [run_allocW hoi w1]
  refine ⟨fun _ hS => hSup _ _ hS (Up.alloc _ _), ?_⟩
  refine wpAnyU_allocW hj hdj hr1 (hwj _) hoj hSup fun w2 hw2 => ?_
  rw [hdi]
  have h1 := hw1.size
  have h2 := hw2.size
  simp only [World.alloc, Array.size_push] at h2
  exact h _ _ _ ((hw1.trans ((Up.alloc _ _).trans hw2)).trans (Up.alloc _ _)) ((Row.up (row_newc _ 16 _ rfl) hw2).up (Up.alloc _ _)) (row_newc _ 16 _ rfl) (by omega) (by omega) (by omega)
 ·unfold wpOp
  simp only [hj, hwj, if_true]
  refine .inl ?_
  unfold Oper.wp
  rw [run_allocW hoj w1]
  refine ⟨fun _ hS => hSup _ _ hS (Up.alloc _ _), ?_⟩
  refine wpAnyU_allocW hi hdi hr2 (hwi _) hoi hSup fun w2 hw2 => ?_
  rw [hdj, Act.put_comm a (x := some dj) (y := some di) _ _ (fun d h1 h2 => hd (by rw [Option.some.inj h1, Option.some.inj h2])), Array.setIfInBounds_comm _ _ (Ne.symm hij)]
  have h1 := hw1.size
  have h2 := hw2.size
  simp only [World.alloc, Array.size_push] at h2
  exact h _ _ _ ((hw1.trans ((Up.alloc _ _).trans hw2)).trans (Up.alloc _ _)) (row_newc _ 16 _ rfl) ((Row.up (row_newc _ 16 _ rfl) hw2).up (Up.alloc _ _)) (by omega) (by omega) (by omega)
theorem pm_tdiv (a b : Int) {sa sb : Bool} (ha : sa = decide (a < 0)) (hb' : sb = decide (b < 0)) : pm (!(sa == sb)) (a.natAbs / b.natAbs) = a.tdiv b := by
 subst ha; subst hb'
 by_cases h1 : a < 0
 ·obtain ⟨n, e⟩ : ∃ n : Nat, a = -(n : Int) := ⟨a.natAbs, by omega⟩
  by_cases h2 : b < 0
  ·obtain ⟨m, f⟩ : ∃ m : Nat, b = -(m : Int) := ⟨b.natAbs, by omega⟩
   rw [decide_eq_true h1, decide_eq_true h2, e, f, Int.natAbs_neg, Int.natAbs_neg, Int.neg_tdiv, Int.tdiv_neg, Int.neg_neg, <- Int.ofNat_tdiv]
   rfl
  ·obtain ⟨m, f⟩ : ∃ m : Nat, b = (m : Int) := ⟨b.natAbs, by omega⟩
   rw [decide_eq_true h1, decide_eq_false h2, e, f, Int.natAbs_neg, Int.neg_tdiv, <- Int.ofNat_tdiv]
   rfl
 ·obtain ⟨n, e⟩ : ∃ n : Nat, a = (n : Int) := ⟨a.natAbs, by omega⟩
  by_cases h2 : b < 0
  ·obtain ⟨m, f⟩ : ∃ m : Nat, b = -(m : Int) := ⟨b.natAbs, by omega⟩
   rw [decide_eq_false h1, decide_eq_true h2, e, f, Int.natAbs_neg, Int.tdiv_neg, <- Int.ofNat_tdiv]
   rfl
  ·obtain ⟨m, f⟩ : ∃ m : Nat, b = (m : Int) := ⟨b.natAbs, by omega⟩
   rw [decide_eq_false h1, decide_eq_false h2, e, f, <- Int.ofNat_tdiv]
   rfl
theorem pm_tmod (a b : Int) {sa : Bool} (ha : sa = decide (a < 0)) : pm sa (a.natAbs % b.natAbs) = a.tmod b := by
 subst ha
 have hb' : a.tmod b = a.tmod (b.natAbs : Int) := by
  by_cases h2 : b < 0
  ·obtain ⟨m, f⟩ : ∃ m : Nat, b = -(m : Int) := ⟨b.natAbs, by omega⟩
   rw [f, Int.tmod_neg, Int.natAbs_neg]; rfl
  ·obtain ⟨m, f⟩ : ∃ m : Nat, b = (m : Int) := ⟨b.natAbs, by omega⟩
   rw [f]; rfl
 rw [hb']
 by_cases h1 : a < 0
 ·obtain ⟨n, e⟩ : ∃ n : Nat, a = -(n : Int) := ⟨a.natAbs, by omega⟩
  rw [decide_eq_true h1, e, Int.natAbs_neg, Int.neg_tmod, <- Int.ofNat_tmod]
  rfl
 ·obtain ⟨n, e⟩ : ∃ n : Nat, a = (n : Int) := ⟨a.natAbs, by omega⟩
  rw [decide_eq_false h1, e, <- Int.ofNat_tmod]
  rfl
def divZV (a b : Int) : Value :=
 if b = 0 \/ ¬ InR (a.tdiv b) then .tuple #[.agg (cells 16 (fun _ => 0)), .agg (cells 16 (fun _ => 0)), .bool false]
 else .tuple #[wideV (enc (a.tdiv b)), wideV (enc (a.tmod b)), .bool true]
theorem tmod_in {a b : Int} (ha : InR a) : InR (a.tmod b) := by
 have h := pm_tmod a b (sa := decide (a < 0)) rfl
 have h1 := Nat.mod_le a.natAbs b.natAbs
 have h2 := ha.out
 rw [<- h]
 generalize a.natAbs % b.natAbs = r at *
 refine InR.mk' ?_
 unfold pm
 split
 ·rename_i hs
  have hs : a < 0 := by simpa using hs
  omega
 ·rename_i hs
  have hs : ¬ a < 0 := by simpa using hs
  omega
set_option maxHeartbeats 2000000 in
theorem div_z {a b : Int} (ha : InR a) (hb' : InR b) (hDV : b ≠ 0 -> ∀ w, Calls Tryd.prog 60 #[wideV a.natAbs, wideV b.natAbs] w fun e w' => e = .returned (divV a.natAbs b.natAbs) /\ Up w w') (w : World) :
   Calls Tryd.prog 52 #[wideV (enc a), wideV (enc b)] w fun e w' => e = .returned (divZV a b) /\ Up w w' := by
 have hltb := enc_lt b
 by_cases h0 : b = 0
 ·have e : divZV a b = .tuple #[.agg (cells 16 (fun _ => 0)), .agg (cells 16 (fun _ => 0)), .bool false] := by unfold divZV; rw [if_pos (.inl h0)]
  have hz : IsB (decide (enc b = 0)) true := decide_eq_true ((enc_eq_zero hb').2 h0)
  rw [e]
  clear e h0 hDV
  unfold wideV at *
  go_enter Tryd.func52, Tryd.ntmps52
  go_wp2_with (first | ((with_reducible apply ld_rowP undW infoW); exact rfl; exact rfl; exact gRow) | ((with_reducible apply st_rowP infoW); exact rfl; exact rfl; exact gRow) | ((with_reducible apply st_rowZ infoW); exact rfl; exact rfl; exact gRow) | ((with_reducible apply eqP); exact rfl; exact rfl; exact rfl; assumption; assumption; assumption) | ((with_reducible apply eqZP); exact rfl; exact rfl; exact rfl; assumption; assumption) | ((with_reducible apply neP); exact rfl; exact rfl; exact rfl; assumption; assumption; assumption) | ((with_reducible apply neZP); exact rfl; exact rfl; exact rfl; assumption; assumption))
  exact bodyPost_ret (resCCT rfl undW infoW _ _ _ rfl rfl gRow gRow) rfl ⟨rfl, gUp⟩
 ·have hz : IsB (decide (enc b = 0)) false := decide_eq_false fun h => h0 ((enc_eq_zero hb').1 h)
  have hD := hDV h0
  clear hDV
  have HA := hid (fun w => amount_z ha w)
  have HB := hid (fun w => amount_z hb' w)
  have hMA := fun w => minus_z ha w
  have hMB := fun w => minus_z hb' w
  obtain ⟨sa, ea⟩ : ∃ sa, sa = decide (a < 0) := ⟨_, rfl⟩
  obtain ⟨sb, eb⟩ : ∃ sb, sb = decide (b < 0) := ⟨_, rfl⟩
  rw [<- ea] at hMA
  rw [<- eb] at hMB
  have HMA := hid hMA
  have HMB := hid hMB
  have hqlt : a.natAbs / b.natAbs < bp 16 := Nat.lt_of_le_of_lt (Nat.div_le_self _ _) (enc_natAbs ha).2
  have hrlt : a.natAbs % b.natAbs < bp 16 := Nat.lt_of_le_of_lt (Nat.mod_le _ _) (enc_natAbs ha).2
  have hSQ := fun w => signed_any hqlt (!(sa == sb)) w
  have hSR := fun w => signed_any hrlt sa w
  rw [pm_tdiv a b ea eb] at hSQ
  rw [pm_tmod a b ea, opt_yes (tmod_in ha)] at hSR
  have HSR := hid hSR
  unfold divV at hD
  have HD := hid hD
  clear hMA hMB ea eb hSR hD
  generalize a.natAbs / b.natAbs = q at *
  generalize a.natAbs % b.natAbs = r at *
  generalize a.natAbs = m at *
  generalize b.natAbs = n at *
  obtain ⟨er, eer⟩ : ∃ er, enc (a.tmod b) = er := ⟨_, rfl⟩
  rw [eer] at HSR
  have hER := hid eer
  clear eer
  by_cases hin : InR (a.tdiv b)
  ·rw [opt_yes hin] at hSQ
   have HSQ := hid hSQ
   have e : divZV a b = .tuple #[wideV (enc (a.tdiv b)), wideV er, .bool true] := by
    unfold divZV
    rw [if_neg (fun h => h.elim h0 (fun h => h hin)), hER.out]
   rw [e]
   clear e hSQ hin h0
   generalize enc (a.tdiv b) = eq at *
   unfold wideV at *
   go_enter Tryd.func52, Tryd.ntmps52
   go_wp2_with (first | ((with_reducible apply ld_rowP undW infoW); exact rfl; exact rfl; exact gRow) | ((with_reducible apply st_rowP infoW); exact rfl; exact rfl; exact gRow) | ((with_reducible apply st_rowZ infoW); exact rfl; exact rfl; exact gRow) | ((with_reducible apply eqP); exact rfl; exact rfl; exact rfl; assumption; assumption; assumption) | ((with_reducible apply eqZP); exact rfl; exact rfl; exact rfl; assumption; assumption) | ((with_reducible apply neP); exact rfl; exact rfl; exact rfl; assumption; assumption; assumption) | ((with_reducible apply neZP); exact rfl; exact rfl; exact rfl; assumption; assumption))
   refine opU (S := (fun wq => Row wq (w.heap.size) 80 16 (limb (enc a)) /\ Row wq (w.heap.size + 1) 80 16 (limb (enc b)) /\ Row wq (w.heap.size + 1 + 1) 80 16 (fun _ => 0) /\ Row wq (w.heap.size + 1 + 1 + 1) 80 16 (fun _ => 0) /\ Below w.heap.size w wq)) (req := (fun j => j != 10 && j != 11)) (fun _ _ h hu => ⟨(h.1).up hu, (h.2.1).up hu, (h.2.2.1).up hu, (h.2.2.2.1).up hu, below_up (h.2.2.2.2) hu⟩) ⟨gRow, gRow, gRow, gRow, gUp⟩ (fun wS hSS hSu => ?_)
   have ⟨hS1, hS2, hS3, hS4, hSB⟩ := hSS
   refine tkT 0 (some 19) rfl hSu hSS ?_ (hy := fun w' hSw => run_ld undW infoW _ rfl _ rfl hSw.1)
   refine tkC 1 (some 20) rfl hSu hSS ?_ (hy := fun w' hSw => (HA.out _))
   refine tkT 2 (some 21) rfl hSu hSS ?_ (hy := fun w' hSw => run_ld undW infoW _ rfl _ rfl hSw.2.1)
   refine tkC 3 (some 22) rfl hSu hSS ?_ (hy := fun w' hSw => (HB.out _))
   refine tkC 4 (some 23) rfl hSu hSS ?_ (hy := fun w' hSw => (HD.out _))
   refine tkP 5 (some 18) hSu ?_
   refine tkP 6 (some 24) hSu ?_
   refine tkP 7 (some 25) hSu ?_
   refine wpAnyU_alloc2 (i := 8) (j := 9) (di := 7) (dj := 8) rfl rfl rfl rfl (by decide) rfl rfl rfl rfl (by kernel_rfl) (by kernel_rfl) (by kernel_rfl) (by decide) (fun _ _ h hu => ⟨(h.1).up hu, (h.2.1).up hu, (h.2.2.1).up hu, (h.2.2.2.1).up hu, below_up (h.2.2.2.2) hu⟩) fun w1 p q' hw1 hp hq hpq hpl hql => ?_
   try simp only [Act.put, pu1, pu2, pu3]
   have hlt := hS4.lt
   refine wpAnyU_one (i := 10) rfl (by kernel_rfl) (by rfl) fun w2 hw2 => ?_
   refine wp_st_rowN infoW rfl _ _ rfl _ rfl rfl ((hp.up hw2)) ?_
   refine ⟨fun h => by simp at h, ?_⟩
   try simp only [Act.put, pu1, pu2, pu3]
   refine wpAnyU_one (i := 11) rfl (by kernel_rfl) (by rfl) fun w3 hw3 => ?_
   refine wp_st_rowN infoW rfl _ _ rfl _ rfl rfl ((((hq.up hw2).row_other (cells 16 (limb q)) (show q' ≠ p by omega)).up hw3)) ?_
   refine ⟨fun h => by simp at h, ?_⟩
   try simp only [Act.put, pu1, pu2, pu3]
   refine wpAnyU_done (by kernel_rfl) (fun wF huE => ?_) _
   have g1 := ((((((hS1).up hw1).up hw2).row_other (cells 16 (limb q)) (show w.heap.size ≠ p by omega)).up hw3).row_other (cells 16 (limb r)) (show w.heap.size ≠ q' by omega)).up huE
   have g2 := ((((((hS2).up hw1).up hw2).row_other (cells 16 (limb q)) (show w.heap.size + 1 ≠ p by omega)).up hw3).row_other (cells 16 (limb r)) (show w.heap.size + 1 ≠ q' by omega)).up huE
   have g3 := ((((((hS3).up hw1).up hw2).row_other (cells 16 (limb q)) (show w.heap.size + 1 + 1 ≠ p by omega)).up hw3).row_other (cells 16 (limb r)) (show w.heap.size + 1 + 1 ≠ q' by omega)).up huE
   have g4 := ((((((hS4).up hw1).up hw2).row_other (cells 16 (limb q)) (show w.heap.size + 1 + 1 + 1 ≠ p by omega)).up hw3).row_other (cells 16 (limb r)) (show w.heap.size + 1 + 1 + 1 ≠ q' by omega)).up huE
   have gp := (((((hp).up hw2).setRow (limb q)).up hw3).row_other (cells 16 (limb r)) (show p ≠ q' by omega)).up huE
   have gq := (((((hq).up hw2).row_other (cells 16 (limb q)) (show q' ≠ p by omega)).up hw3).setRow (limb r)).up huE
   have gB := below_up (below_setRow (below_up (below_setRow (below_up (below_up (hSB) hw1) hw2) (show w.heap.size <= p by omega) (cells 16 (limb q))) hw3) (show w.heap.size <= q' by omega) (cells 16 (limb r))) huE
   clear hS1 hS2 hS3 hS4 hSB hSS hw1 hw2 hw3 huE hp hq
   go_wp2
   refine opU (S := (fun wq => Row wq (w.heap.size) 80 16 (limb (enc a)) /\ Row wq (w.heap.size + 1) 80 16 (limb (enc b)) /\ Row wq (w.heap.size + 1 + 1) 80 16 (fun _ => 0) /\ Row wq (w.heap.size + 1 + 1 + 1) 80 16 (fun _ => 0) /\ Row wq p 80 16 (limb q) /\ Row wq q' 80 16 (limb r) /\ Below w.heap.size w wq)) (req := (fun j => j != 11)) (fun _ _ h hu => ⟨(h.1).up hu, (h.2.1).up hu, (h.2.2.1).up hu, (h.2.2.2.1).up hu, (h.2.2.2.2.1).up hu, (h.2.2.2.2.2.1).up hu, below_up (h.2.2.2.2.2.2) hu⟩) ⟨gRow, gRow, gRow, gRow, gRow, gRow, gUp⟩ (fun wS hSS hSu => ?_)
   have ⟨hS1, hS2, hS3, hS4, hS5, hS6, hSB⟩ := hSS
   clear g1 g2 g3 g4 gp gq gB
   refine tkT 0 (some 27) rfl hSu hSS ?_ (hy := fun w' hSw => run_ld undW infoW _ rfl _ rfl hSw.2.2.2.2.1)
   refine tkT 1 (some 28) rfl hSu hSS ?_ (hy := fun w' hSw => run_ld undW infoW _ rfl _ rfl hSw.1)
   refine tkC 2 (some 29) rfl hSu hSS ?_ (hy := fun w' hSw => (HMA.out _))
   refine tkT 3 (some 30) rfl hSu hSS ?_ (hy := fun w' hSw => run_ld undW infoW _ rfl _ rfl hSw.2.1)
   refine tkC 4 (some 31) rfl hSu hSS ?_ (hy := fun w' hSw => (HMB.out _))
   refine tkP 5 (some 32) hSu ?_
   refine tkC 6 (some 33) rfl hSu hSS ?_ (hy := fun w' hSw => (HSQ.out _))
   refine tkP 7 (some 26) hSu ?_
   refine tkP 8 (some 34) hSu ?_
   refine tkP 9 (some 35) hSu ?_
   have l4 := hS4.lt
   have l5 := hS5.lt
   have l6 := hS6.lt
   refine wpAnyU_allocW (i := 10) (d := (some 9)) rfl rfl (by kernel_rfl) (by rfl) rfl hSu.out fun w4 hw4 => ?_
   try simp only [Act.put, pu1, pu2, pu3]
   refine wpAnyU_one (i := 11) rfl (by kernel_rfl) (by rfl) fun w5 hw5 => ?_
   refine wp_st_rowN infoW rfl _ _ rfl _ rfl rfl ((Row.up (row_newc _ 16 _ rfl) hw5)) ?_
   refine ⟨fun h => by simp at h, ?_⟩
   try simp only [Act.put, pu1, pu2, pu3]
   refine tkP 12 (some 10) hSu ?_
   refine wpAnyU_done (by kernel_rfl) (fun wF huE => ?_) _
   have l7 := hw4.size
   have hnew : Row (w4.alloc (.cells (cells 16 (fun _ => 0)) 80)) w4.heap.size 80 16 (fun _ => 0) := row_newc _ 16 _ rfl
   have g1 := (((((hS1).up hw4).up (Up.alloc _ _)).up hw5).row_other (cells 16 (limb eq)) (show w.heap.size ≠ w4.heap.size by omega)).up huE
   have g2 := (((((hS2).up hw4).up (Up.alloc _ _)).up hw5).row_other (cells 16 (limb eq)) (show w.heap.size + 1 ≠ w4.heap.size by omega)).up huE
   have g3 := (((((hS3).up hw4).up (Up.alloc _ _)).up hw5).row_other (cells 16 (limb eq)) (show w.heap.size + 1 + 1 ≠ w4.heap.size by omega)).up huE
   have g4 := (((((hS4).up hw4).up (Up.alloc _ _)).up hw5).row_other (cells 16 (limb eq)) (show w.heap.size + 1 + 1 + 1 ≠ w4.heap.size by omega)).up huE
   have gq := (((((hS6).up hw4).up (Up.alloc _ _)).up hw5).row_other (cells 16 (limb eq)) (show q' ≠ w4.heap.size by omega)).up huE
   have gp := (((hnew).up hw5).setRow (limb eq)).up huE
   have gB := below_up (below_setRow (below_up (below_up (below_up (hSB) hw4) (Up.alloc _ _)) hw5) (show w.heap.size <= w4.heap.size by omega) (cells 16 (limb eq))) huE
   clear hS1 hS2 hS3 hS4 hS5 hS6 hSB hSS hw4 hw5 huE hnew
   go_wp2
   refine opU (S := (fun wq => Row wq (w.heap.size) 80 16 (limb (enc a)) /\ Row wq (w.heap.size + 1 + 1) 80 16 (fun _ => 0) /\ Row wq (w.heap.size + 1 + 1 + 1) 80 16 (fun _ => 0) /\ Row wq w4.heap.size 80 16 (limb eq) /\ Row wq q' 80 16 (limb r) /\ Below w.heap.size w wq)) (req := (fun j => j != 8)) (fun _ _ h hu => ⟨(h.1).up hu, (h.2.1).up hu, (h.2.2.1).up hu, (h.2.2.2.1).up hu, (h.2.2.2.2.1).up hu, below_up (h.2.2.2.2.2) hu⟩) ⟨gRow, gRow, gRow, gRow, gRow, gUp⟩ (fun wS hSS hSu => ?_)
   have ⟨hS1, hS2, hS3, hS4, hS5, hSB⟩ := hSS
   clear g1 g2 g3 g4 gp gq gB
   refine tkT 0 (some 41) rfl hSu hSS ?_ (hy := fun w' hSw => run_ld undW infoW _ rfl _ rfl hSw.2.2.2.2.1)
   refine tkT 1 (some 42) rfl hSu hSS ?_ (hy := fun w' hSw => run_ld undW infoW _ rfl _ rfl hSw.1)
   refine tkC 2 (some 43) rfl hSu hSS ?_ (hy := fun w' hSw => (HMA.out _))
   refine tkC 3 (some 44) rfl hSu hSS ?_ (hy := fun w' hSw => (HSR.out _))
   refine tkP 4 (some 40) hSu ?_
   refine tkP 5 (some 45) hSu ?_
   refine tkP 6 (some 46) hSu ?_
   have m3 := hS3.lt
   have m4 := hS4.lt
   have m5 := hS5.lt
   refine wpAnyU_allocW (i := 7) (d := (some 11)) rfl rfl (by kernel_rfl) (by rfl) rfl hSu.out fun w6 hw6 => ?_
   try simp only [Act.put, pu1, pu2, pu3]
   refine wpAnyU_one (i := 8) rfl (by kernel_rfl) (by rfl) fun w7 hw7 => ?_
   refine wp_st_rowN infoW rfl _ _ rfl _ rfl rfl ((Row.up (row_newc _ 16 _ rfl) hw7)) ?_
   refine ⟨fun h => by simp at h, ?_⟩
   try simp only [Act.put, pu1, pu2, pu3]
   refine tkP 9 (some 12) hSu ?_
   refine wpAnyU_done (by kernel_rfl) (fun wF huE => ?_) _
   have m7 := hw6.size
   have hnew : Row (w6.alloc (.cells (cells 16 (fun _ => 0)) 80)) w6.heap.size 80 16 (fun _ => 0) := row_newc _ 16 _ rfl
   have g3 := (((((hS2).up hw6).up (Up.alloc _ _)).up hw7).row_other (cells 16 (limb er)) (show w.heap.size + 1 + 1 ≠ w6.heap.size by omega)).up huE
   have g4 := (((((hS3).up hw6).up (Up.alloc _ _)).up hw7).row_other (cells 16 (limb er)) (show w.heap.size + 1 + 1 + 1 ≠ w6.heap.size by omega)).up huE
   have gp := (((((hS4).up hw6).up (Up.alloc _ _)).up hw7).row_other (cells 16 (limb er)) (show w4.heap.size ≠ w6.heap.size by omega)).up huE
   have gr := (((hnew).up hw7).setRow (limb er)).up huE
   have gB := below_up (below_setRow (below_up (below_up (below_up (hSB) hw6) (Up.alloc _ _)) hw7) (show w.heap.size <= w6.heap.size by omega) (cells 16 (limb er))) huE
   clear hS1 hS2 hS3 hS4 hS5 hSB hSS hw6 hw7 huE hnew
   go_wp2
   refine opU (S := (fun wq => Row wq w4.heap.size 80 16 (limb eq) /\ Row wq w6.heap.size 80 16 (limb er) /\ ExRow wq (w.heap.size + 1 + 1) 80 16 /\ ExRow wq (w.heap.size + 1 + 1 + 1) 80 16 /\ Below w.heap.size w wq)) (req := (fun j => j != 3)) (fun _ _ h hu => ⟨(h.1).up hu, (h.2.1).up hu, (h.2.2.1).up hu, (h.2.2.2.1).up hu, below_up (h.2.2.2.2) hu⟩) ⟨gRow, gRow, ⟨_, gRow⟩, ⟨_, gRow⟩, gUp⟩ (fun wS hSS hSu => ?_)
   have ⟨hS1, hS2, hS3, hS4, hSB⟩ := hSS
   clear g3 g4 gp gr gB
   refine tkT 0 (some 47) rfl hSu hSS ?_ (hy := fun w' hSw => run_ld undW infoW _ rfl _ rfl hSw.1)
   refine tkT 1 (some 48) rfl hSu hSS ?_ (hy := fun w' hSw => run_ld undW infoW _ rfl _ rfl hSw.2.1)
   obtain ⟨v3, hS3⟩ := hS3
   obtain ⟨v4, hS4⟩ := hS4
   refine wpAnyU_one (i := 2) rfl (by kernel_rfl) (by rfl) fun w8 hw8 => ?_
   refine wp_st_rowN infoW rfl _ _ rfl _ rfl rfl (hS3.up hw8) ?_
   refine ⟨fun _ h => ⟨h.1.row_other _ (by omega), h.2.1.row_other _ (by omega), h.2.2.1.st _, h.2.2.2.1.st _, below_setRow h.2.2.2.2 (by omega) _⟩, ?_⟩
   refine wpAnyU_one (i := 3) rfl (by kernel_rfl) (by rfl) fun w9 hw9 => ?_
   refine wp_st_rowN infoW rfl _ _ rfl _ rfl rfl ((Row.up (((hS4.up hw8).row_other (cells 16 (limb eq)) (show w.heap.size + 1 + 1 + 1 ≠ w.heap.size + 1 + 1 by omega))) hw9)) ?_
   refine ⟨fun h => by simp at h, ?_⟩
   try simp only [Act.put, pu1, pu2, pu3]
   refine tkP 4 (some 6) hSu ?_
   refine wpAnyU_done (by kernel_rfl) (fun wF huE => ?_) _
   have gA := (((((hS3).up hw8).setRow (limb eq)).up hw9).row_other (cells 16 (limb er)) (show w.heap.size + 1 + 1 ≠ w.heap.size + 1 + 1 + 1 by omega)).up huE
   have gC := (((((hS4).up hw8).row_other (cells 16 (limb eq)) (show w.heap.size + 1 + 1 + 1 ≠ w.heap.size + 1 + 1 by omega)).up hw9).setRow (limb er)).up huE
   have gB := below_up (below_setRow (below_up (below_setRow (below_up (hSB) hw8) (show w.heap.size <= w.heap.size + 1 + 1 by omega) (cells 16 (limb eq))) hw9) (show w.heap.size <= w.heap.size + 1 + 1 + 1 by omega) (cells 16 (limb er))) huE
   clear hS1 hS2 hS3 hS4 hSB hSS hw8 hw9 huE
   go_wp2
   exact bodyPost_ret (resCCT rfl undW infoW _ _ _ rfl rfl gA gC) rfl ⟨rfl, gB⟩
  ·rw [opt_no hin] at hSQ
   have HSQ := hid hSQ
   have e : divZV a b = .tuple #[.agg (cells 16 (fun _ => 0)), .agg (cells 16 (fun _ => 0)), .bool false] := by unfold divZV; rw [if_pos (.inr hin)]
   rw [e]
   clear e hSQ hin h0
   unfold wideV at *
   go_enter Tryd.func52, Tryd.ntmps52
   go_wp2_with (first | ((with_reducible apply ld_rowP undW infoW); exact rfl; exact rfl; exact gRow) | ((with_reducible apply st_rowP infoW); exact rfl; exact rfl; exact gRow) | ((with_reducible apply st_rowZ infoW); exact rfl; exact rfl; exact gRow) | ((with_reducible apply eqP); exact rfl; exact rfl; exact rfl; assumption; assumption; assumption) | ((with_reducible apply eqZP); exact rfl; exact rfl; exact rfl; assumption; assumption) | ((with_reducible apply neP); exact rfl; exact rfl; exact rfl; assumption; assumption; assumption) | ((with_reducible apply neZP); exact rfl; exact rfl; exact rfl; assumption; assumption))
   refine opU (S := (fun wq => Row wq (w.heap.size) 80 16 (limb (enc a)) /\ Row wq (w.heap.size + 1) 80 16 (limb (enc b)) /\ Row wq (w.heap.size + 1 + 1) 80 16 (fun _ => 0) /\ Row wq (w.heap.size + 1 + 1 + 1) 80 16 (fun _ => 0) /\ Below w.heap.size w wq)) (req := (fun j => j != 10 && j != 11)) (fun _ _ h hu => ⟨(h.1).up hu, (h.2.1).up hu, (h.2.2.1).up hu, (h.2.2.2.1).up hu, below_up (h.2.2.2.2) hu⟩) ⟨gRow, gRow, gRow, gRow, gUp⟩ (fun wS hSS hSu => ?_)
   have ⟨hS1, hS2, hS3, hS4, hSB⟩ := hSS
   refine tkT 0 (some 19) rfl hSu hSS ?_ (hy := fun w' hSw => run_ld undW infoW _ rfl _ rfl hSw.1)
   refine tkC 1 (some 20) rfl hSu hSS ?_ (hy := fun w' hSw => (HA.out _))
   refine tkT 2 (some 21) rfl hSu hSS ?_ (hy := fun w' hSw => run_ld undW infoW _ rfl _ rfl hSw.2.1)
   refine tkC 3 (some 22) rfl hSu hSS ?_ (hy := fun w' hSw => (HB.out _))
   refine tkC 4 (some 23) rfl hSu hSS ?_ (hy := fun w' hSw => (HD.out _))
   refine tkP 5 (some 18) hSu ?_
   refine tkP 6 (some 24) hSu ?_
   refine tkP 7 (some 25) hSu ?_
   refine wpAnyU_alloc2 (i := 8) (j := 9) (di := 7) (dj := 8) rfl rfl rfl rfl (by decide) rfl rfl rfl rfl (by kernel_rfl) (by kernel_rfl) (by kernel_rfl) (by decide) (fun _ _ h hu => ⟨(h.1).up hu, (h.2.1).up hu, (h.2.2.1).up hu, (h.2.2.2.1).up hu, below_up (h.2.2.2.2) hu⟩) fun w1 p q' hw1 hp hq hpq hpl hql => ?_
   try simp only [Act.put, pu1, pu2, pu3]
   have hlt := hS4.lt
   refine wpAnyU_one (i := 10) rfl (by kernel_rfl) (by rfl) fun w2 hw2 => ?_
   refine wp_st_rowN infoW rfl _ _ rfl _ rfl rfl ((hp.up hw2)) ?_
   refine ⟨fun h => by simp at h, ?_⟩
   try simp only [Act.put, pu1, pu2, pu3]
   refine wpAnyU_one (i := 11) rfl (by kernel_rfl) (by rfl) fun w3 hw3 => ?_
   refine wp_st_rowN infoW rfl _ _ rfl _ rfl rfl ((((hq.up hw2).row_other (cells 16 (limb q)) (show q' ≠ p by omega)).up hw3)) ?_
   refine ⟨fun h => by simp at h, ?_⟩
   try simp only [Act.put, pu1, pu2, pu3]
   refine wpAnyU_done (by kernel_rfl) (fun wF huE => ?_) _
   have g1 := ((((((hS1).up hw1).up hw2).row_other (cells 16 (limb q)) (show w.heap.size ≠ p by omega)).up hw3).row_other (cells 16 (limb r)) (show w.heap.size ≠ q' by omega)).up huE
   have g2 := ((((((hS2).up hw1).up hw2).row_other (cells 16 (limb q)) (show w.heap.size + 1 ≠ p by omega)).up hw3).row_other (cells 16 (limb r)) (show w.heap.size + 1 ≠ q' by omega)).up huE
   have g3 := ((((((hS3).up hw1).up hw2).row_other (cells 16 (limb q)) (show w.heap.size + 1 + 1 ≠ p by omega)).up hw3).row_other (cells 16 (limb r)) (show w.heap.size + 1 + 1 ≠ q' by omega)).up huE
   have g4 := ((((((hS4).up hw1).up hw2).row_other (cells 16 (limb q)) (show w.heap.size + 1 + 1 + 1 ≠ p by omega)).up hw3).row_other (cells 16 (limb r)) (show w.heap.size + 1 + 1 + 1 ≠ q' by omega)).up huE
   have gp := (((((hp).up hw2).setRow (limb q)).up hw3).row_other (cells 16 (limb r)) (show p ≠ q' by omega)).up huE
   have gq := (((((hq).up hw2).row_other (cells 16 (limb q)) (show q' ≠ p by omega)).up hw3).setRow (limb r)).up huE
   have gB := below_up (below_setRow (below_up (below_setRow (below_up (below_up (hSB) hw1) hw2) (show w.heap.size <= p by omega) (cells 16 (limb q))) hw3) (show w.heap.size <= q' by omega) (cells 16 (limb r))) huE
   clear hS1 hS2 hS3 hS4 hSB hSS hw1 hw2 hw3 huE hp hq
   go_wp2
   refine opU (S := (fun wq => Row wq (w.heap.size) 80 16 (limb (enc a)) /\ Row wq (w.heap.size + 1) 80 16 (limb (enc b)) /\ Row wq (w.heap.size + 1 + 1) 80 16 (fun _ => 0) /\ Row wq (w.heap.size + 1 + 1 + 1) 80 16 (fun _ => 0) /\ Row wq p 80 16 (limb q) /\ Row wq q' 80 16 (limb r) /\ Below w.heap.size w wq)) (req := (fun j => j != 11)) (fun _ _ h hu => ⟨(h.1).up hu, (h.2.1).up hu, (h.2.2.1).up hu, (h.2.2.2.1).up hu, (h.2.2.2.2.1).up hu, (h.2.2.2.2.2.1).up hu, below_up (h.2.2.2.2.2.2) hu⟩) ⟨gRow, gRow, gRow, gRow, gRow, gRow, gUp⟩ (fun wS hSS hSu => ?_)
   have ⟨hS1, hS2, hS3, hS4, hS5, hS6, hSB⟩ := hSS
   clear g1 g2 g3 g4 gp gq gB
   refine tkT 0 (some 27) rfl hSu hSS ?_ (hy := fun w' hSw => run_ld undW infoW _ rfl _ rfl hSw.2.2.2.2.1)
   refine tkT 1 (some 28) rfl hSu hSS ?_ (hy := fun w' hSw => run_ld undW infoW _ rfl _ rfl hSw.1)
   refine tkC 2 (some 29) rfl hSu hSS ?_ (hy := fun w' hSw => (HMA.out _))
   refine tkT 3 (some 30) rfl hSu hSS ?_ (hy := fun w' hSw => run_ld undW infoW _ rfl _ rfl hSw.2.1)
   refine tkC 4 (some 31) rfl hSu hSS ?_ (hy := fun w' hSw => (HMB.out _))
   refine tkP 5 (some 32) hSu ?_
   refine tkC 6 (some 33) rfl hSu hSS ?_ (hy := fun w' hSw => (HSQ.out _))
   refine tkP 7 (some 26) hSu ?_
   refine tkP 8 (some 34) hSu ?_
   refine tkP 9 (some 35) hSu ?_
   have l4 := hS4.lt
   have l5 := hS5.lt
   have l6 := hS6.lt
   refine wpAnyU_allocW (i := 10) (d := (some 9)) rfl rfl (by kernel_rfl) (by rfl) rfl hSu.out fun w4 hw4 => ?_
   try simp only [Act.put, pu1, pu2, pu3]
   refine wpAnyU_one (i := 11) rfl (by kernel_rfl) (by rfl) fun w5 hw5 => ?_
   refine wp_st_rowN infoW rfl _ _ rfl _ rfl rfl ((Row.up (row_newc _ 16 _ rfl) hw5)) ?_
   refine ⟨fun h => by simp at h, ?_⟩
   try simp only [Act.put, pu1, pu2, pu3]
   refine tkP 12 (some 10) hSu ?_
   refine wpAnyU_done (by kernel_rfl) (fun wF huE => ?_) _
   have l7 := hw4.size
   have hnew : Row (w4.alloc (.cells (cells 16 (fun _ => 0)) 80)) w4.heap.size 80 16 (fun _ => 0) := row_newc _ 16 _ rfl
   have g1 := (((((hS1).up hw4).up (Up.alloc _ _)).up hw5).row_other (cells 16 (fun _ => 0)) (show w.heap.size ≠ w4.heap.size by omega)).up huE
   have g2 := (((((hS2).up hw4).up (Up.alloc _ _)).up hw5).row_other (cells 16 (fun _ => 0)) (show w.heap.size + 1 ≠ w4.heap.size by omega)).up huE
   have g3 := (((((hS3).up hw4).up (Up.alloc _ _)).up hw5).row_other (cells 16 (fun _ => 0)) (show w.heap.size + 1 + 1 ≠ w4.heap.size by omega)).up huE
   have g4 := (((((hS4).up hw4).up (Up.alloc _ _)).up hw5).row_other (cells 16 (fun _ => 0)) (show w.heap.size + 1 + 1 + 1 ≠ w4.heap.size by omega)).up huE
   have gq := (((((hS6).up hw4).up (Up.alloc _ _)).up hw5).row_other (cells 16 (fun _ => 0)) (show q' ≠ w4.heap.size by omega)).up huE
   have gp := (((hnew).up hw5).setRow (fun _ => 0)).up huE
   have gB := below_up (below_setRow (below_up (below_up (below_up (hSB) hw4) (Up.alloc _ _)) hw5) (show w.heap.size <= w4.heap.size by omega) (cells 16 (fun _ => 0))) huE
   clear hS1 hS2 hS3 hS4 hS5 hS6 hSB hSS hw4 hw5 huE hnew
   go_wp2_with (first | ((with_reducible apply st_rowP infoW); exact rfl; exact rfl; exact gRow) | ((with_reducible apply st_rowZ infoW); exact rfl; exact rfl; exact gRow))
   exact bodyPost_ret (resCCT rfl undW infoW _ _ _ rfl rfl gRow gRow) rfl ⟨rfl, gUp⟩
theorem hb_big : 9223372036854775808 <= hb := by
 have h := bp16
 have h2 : bp 16 = bp 15 * 18446744073709551616 := bp_succ 15
 have := bp_pos 15
 omega
def roundV (a b : Int) : Value :=
 if 0 < b /\ InR (a + a) /\ InR (b + b) /\ InR (a + a + b) then .tuple #[wideV (enc ((2 * a + b) / (2 * b))), .bool true] else .tuple #[.agg (cells 16 (fun _ => 0)), .bool false]
theorem opt_parts (z : Int) : ∃ (p : Int) (k : Bool), opt z = .tuple #[wideV (enc p), .bool k] /\ InR p /\ (k = true ↔ InR z) /\ (InR z -> p = z) := by
 by_cases h : InR z
 ·exact ⟨z, true, opt_yes h, h, by simp [h], fun _ => rfl⟩
 ·refine ⟨0, false, ?_, InR.mk' (by have := hb_pos; omega), by simp [h], fun h' => absurd h' h⟩
  rw [opt_no h, zero_limb]; rfl
theorem round_floor {s d : Int} (hd : 0 < d) : s / d = if s.tmod d < 0 then s.tdiv d - 1 else s.tdiv d := by
 have h1 := Int.mul_tdiv_add_tmod s d
 have h2 := Int.tmod_lt_of_pos s hd
 have h3 : -d < s.tmod d := by
  have := Int.tmod_lt_of_pos (-s) hd
  rw [Int.neg_tmod] at this
  omega
 generalize s.tdiv d = q at *
 generalize s.tmod d = r at *
 split
 ·rw [<- h1, show d * q + r = (d + r) + d * (q - 1) by rw [Int.mul_sub]; omega, Int.add_mul_ediv_left _ _ (by omega), Int.ediv_eq_zero_of_lt (by omega) (by omega)]
  omega
 ·rw [<- h1, Int.add_comm, Int.add_mul_ediv_left _ _ (by omega), Int.ediv_eq_zero_of_lt (by omega) (by omega)]
  omega
theorem tdiv_in {s d : Int} (hs : InR s) (hd : 0 < d) : InR (s.tdiv d) /\ (s.tmod d < 0 -> InR (s.tdiv d - 1)) := by
 have h := hs.out
 have hp := hb_pos
 obtain ⟨m, f⟩ : ∃ m : Nat, d = (m : Int) := ⟨d.natAbs, by omega⟩
 have hm : 0 < m := by omega
 by_cases h0 : s < 0
 ·obtain ⟨n, e⟩ : ∃ n : Nat, s = -(n : Int) := ⟨s.natAbs, by omega⟩
  rw [e, f, Int.neg_tdiv, Int.neg_tmod, <- Int.ofNat_tdiv, <- Int.ofNat_tmod]
  have h1 := Nat.div_le_self n m
  have h2 := Nat.div_add_mod n m
  have h3 : 1 * (n / m) <= m * (n / m) := Nat.mul_le_mul_right _ hm
  generalize n / m = q at *
  generalize n % m = r at *
  generalize m * q = mq at *
  exact ⟨InR.mk' (by omega), fun h4 => InR.mk' (by omega)⟩
 ·obtain ⟨n, e⟩ : ∃ n : Nat, s = (n : Int) := ⟨s.natAbs, by omega⟩
  rw [e, f, <- Int.ofNat_tdiv, <- Int.ofNat_tmod]
  have h1 := Nat.div_le_self n m
  generalize n / m = q at *
  generalize n % m = r at *
  exact ⟨InR.mk' (by omega), fun h4 => by omega⟩
set_option maxHeartbeats 4000000 in
theorem round_z {a b : Int} (ha : InR a) (hb' : InR b)
   (hDV : 0 < b -> InR (a + a) -> InR (b + b) -> InR (a + a + b) -> ∀ w, Calls Tryd.prog 60 #[wideV (a + a + b).natAbs, wideV (b + b).natAbs] w fun e w' => e = .returned (divV (a + a + b).natAbs (b + b).natAbs) /\ Up w w') (w : World) :
   Calls Tryd.prog 35 #[wideV (enc a), wideV (enc b)] w fun e w' => e = .returned (roundV a b) /\ Up w w' := by
 have HSB := hid (fun w => sign_z hb' w)
 by_cases hb0 : 0 < b
 ·have es : sgn b = 1 := by
   have h1 : ¬ b < 0 := by omega
   have h2 : ¬ b = 0 := by omega
   simp [sgn, h1, h2]
  rw [es] at HSB
  obtain ⟨pA, kA, eA, iA, jA, vA⟩ := opt_parts (a + a)
  obtain ⟨pB, kB, eB, iB, jB, vB⟩ := opt_parts (b + b)
  obtain ⟨pS, kS, eS, iS, jS, vS⟩ := opt_parts (pA + b)
  have hA := fun w => add_z ha ha w
  rw [eA] at hA
  have hB := fun w => add_z hb' hb' w
  rw [eB] at hB
  have hS := fun w => add_z iA hb' w
  rw [eS] at hS
  have HA := hid hA
  have HB := hid hB
  have HS := hid hS
  clear hA hB hS eA eB eS es
  by_cases hall : kA = true /\ kB = true /\ kS = true
  ·obtain ⟨rfl, rfl, rfl⟩ := hall
   have iA' := jA.1 rfl
   have iB' := jB.1 rfl
   have eA := vA iA'
   have iS' := jS.1 rfl
   have eS := vS iS'
   have eB := vB iB'
   rw [eA] at iS' eS
   have hspec : roundV a b = .tuple #[wideV (enc ((2 * a + b) / (2 * b))), .bool true] := by unfold roundV; rw [if_pos ⟨hb0, iA', iB', iS'⟩]
   rw [hspec, show 2 * a + b = pS by omega, show 2 * b = pB by omega]
   have hpB : 0 < pB := by omega
   have hfl := round_floor (s := pS) hpB
   obtain ⟨hq1, hq2⟩ := tdiv_in iS hpB
   have hD := fun w => div_z iS iB (fun _ => by rw [eS, eB]; exact hDV hb0 iA' iB' iS') w
   have edv : divZV pS pB = .tuple #[wideV (enc (pS.tdiv pB)), wideV (enc (pS.tmod pB)), .bool true] := by
    unfold divZV
    rw [if_neg (fun h => h.elim (fun h => by omega) (fun h => h hq1))]
   rw [edv] at hD
   have HD := hid hD
   have HSR := hid (fun w => sign_z (tmod_in (b := pB) iS) w)
   rw [hfl]
   clear hDV hspec edv hD jA vA jB vB jS vS iA' iB' iS' eA eS eB hfl
   by_cases hr : pS.tmod pB < 0
   ·rw [if_pos hr]
    have e2 : sgn (pS.tmod pB) = -1 := by simp [sgn, hr]
    rw [e2] at HSR
    have i1 : InR 1 := InR.mk' (by have := hb_big; omega)
    have h1 := fun w => sub_z hq1 i1 w
    rw [opt_yes (hq2 hr)] at h1
    have HSU := hid h1
    have HO := hid (fun w => of_any 1 (by decide) (by decide) w)
    clear e2 h1 hr hq1 hq2
    generalize enc (pS.tmod pB) = er at *
    generalize enc (pS.tdiv pB) = eq at *
    generalize enc (pS.tdiv pB - 1) = eq1 at *
    generalize enc 1 = e1 at *
    unfold wideV at *
    go_enter Tryd.func35, Tryd.ntmps35
    go_wp2_with (first | ((with_reducible apply ld_rowP undW infoW); exact rfl; exact rfl; exact gRow) | ((with_reducible apply st_rowP infoW); exact rfl; exact rfl; exact gRow) | ((with_reducible apply st_rowZ infoW); exact rfl; exact rfl; exact gRow) | (go_at_call_of 50 (Value.agg (cells 16 (limb (enc b)))); refine (HSB.out _).mono ?_; rintro e w' ⟨rfl, hu⟩; have hsz0 := hu.size; (try simp at hsz0)) | (go_at_call_of 51 (Value.agg (cells 16 (limb (enc pA)))); refine (HS.out _).mono ?_; rintro e w' ⟨rfl, hu⟩; have hsz3 := hu.size; (try simp at hsz3)) | (go_at_call_of 51 (Value.agg (cells 16 (limb (enc a)))); refine (HA.out _).mono ?_; rintro e w' ⟨rfl, hu⟩; have hsz1 := hu.size; (try simp at hsz1)) | (go_at_call_of 51 (Value.agg (cells 16 (limb (enc b)))); refine (HB.out _).mono ?_; rintro e w' ⟨rfl, hu⟩; have hsz2 := hu.size; (try simp at hsz2)) | (go_at_call 52; refine (HD.out _).mono ?_; rintro e wD ⟨rfl, hu⟩; have hsz4 := hu.size; (try simp at hsz4)) | (go_at_call 50; refine (HSR.out _).mono ?_; rintro e w' ⟨rfl, hu⟩; skip))
    refine opU (S := (fun wq => Row wq wD.heap.size 80 16 (limb eq) /\ Row wq (w.heap.size + 1 + 1) 80 16 (fun _ => 0) /\ Below w.heap.size w wq)) (req := (fun j => j != 5)) (fun _ _ h hu => ⟨(h.1).up hu, (h.2.1).up hu, below_up (h.2.2) hu⟩) ⟨gRow, gRow, gUp⟩ (fun wS hSS hSu => ?_)
    have ⟨hS1, hS2, hSB⟩ := hSS
    refine tkT 0 (some 58) rfl hSu hSS ?_ (hy := fun w' hSw => run_ld undW infoW _ rfl _ rfl hSw.1)
    refine tkC 1 (some 59) rfl hSu hSS ?_ (hy := fun w' hSw => (HO.out _))
    refine tkC 2 (some 60) rfl hSu hSS ?_ (hy := fun w' hSw => (HSU.out _))
    refine tkP 3 (some 61) hSu ?_
    refine tkP 4 (some 62) hSu ?_
    refine wpAnyU_one (i := 5) rfl (by kernel_rfl) (by rfl) fun w9 hw9 => ?_
    refine wp_st_rowN infoW rfl _ _ rfl _ rfl rfl ((hS2.up hw9)) ?_
    refine ⟨fun h => by simp at h, ?_⟩
    try simp only [Act.put, pu1, pu2, pu3]
    refine tkP 6 (some 5) hSu ?_
    refine wpAnyU_done (by kernel_rfl) (fun wF huE => ?_) _
    have gR := ((hS2.up hw9).setRow (limb eq1)).up huE
    have gB := below_up (below_setRow (below_up hSB hw9) (show w.heap.size <= w.heap.size + 1 + 1 by omega) (cells 16 (limb eq1))) huE
    clear hS1 hS2 hSB hSS hw9 huE
    go_wp2
    exact bodyPost_ret (res2 rfl undW infoW _ _ rfl gR) rfl ⟨rfl, gB⟩
   ·rw [if_neg hr]
    have e2 : 0 <= sgn (pS.tmod pB) := by
     simp only [sgn, hr, if_false]
     split <;> omega
    obtain ⟨sr, esr⟩ : ∃ sr, sgn (pS.tmod pB) = sr := ⟨_, rfl⟩
    rw [esr] at HSR e2
    have hneg : ¬ sr < 0 := by omega
    clear e2 esr hr hq1 hq2
    generalize enc (pS.tmod pB) = er at *
    generalize enc (pS.tdiv pB) = eq at *
    unfold wideV at *
    go_enter Tryd.func35, Tryd.ntmps35
    go_wp2_with (first | ((with_reducible apply ld_rowP undW infoW); exact rfl; exact rfl; exact gRow) | ((with_reducible apply st_rowP infoW); exact rfl; exact rfl; exact gRow) | ((with_reducible apply st_rowZ infoW); exact rfl; exact rfl; exact gRow) | (go_at_call_of 50 (Value.agg (cells 16 (limb (enc b)))); refine (HSB.out _).mono ?_; rintro e w' ⟨rfl, hu⟩; have hsz0 := hu.size; (try simp at hsz0)) | (go_at_call_of 51 (Value.agg (cells 16 (limb (enc pA)))); refine (HS.out _).mono ?_; rintro e w' ⟨rfl, hu⟩; have hsz3 := hu.size; (try simp at hsz3)) | (go_at_call_of 51 (Value.agg (cells 16 (limb (enc a)))); refine (HA.out _).mono ?_; rintro e w' ⟨rfl, hu⟩; have hsz1 := hu.size; (try simp at hsz1)) | (go_at_call_of 51 (Value.agg (cells 16 (limb (enc b)))); refine (HB.out _).mono ?_; rintro e w' ⟨rfl, hu⟩; have hsz2 := hu.size; (try simp at hsz2)) | (go_at_call 52; refine (HD.out _).mono ?_; rintro e wD ⟨rfl, hu⟩; have hsz4 := hu.size; (try simp at hsz4)) | (go_at_call 50; refine (HSR.out _).mono ?_; rintro e w' ⟨rfl, hu⟩; skip))
    exact bodyPost_ret (res2 rfl undW infoW _ _ rfl gRow) rfl ⟨rfl, gUp⟩
  ·have hspec : roundV a b = .tuple #[.agg (cells 16 (fun _ => 0)), .bool false] := by
    unfold roundV
    rw [if_neg]
    rintro ⟨_, h1, h2, h3⟩
    have := jA.2 h1
    have e := vA h1
    rw [<- e] at h3
    exact hall ⟨this, jB.2 h2, jS.2 h3⟩
   rw [hspec]
   clear hspec hDV jA vA jB vB jS vS
   cases kA <;> cases kB <;> cases kS
   case true.true.true => exact absurd ⟨rfl, rfl, rfl⟩ hall
   all_goals
    clear hall
    unfold wideV at *
    go_enter Tryd.func35, Tryd.ntmps35
    go_wp2_with (first | ((with_reducible apply ld_rowP undW infoW); exact rfl; exact rfl; exact gRow) | ((with_reducible apply st_rowP infoW); exact rfl; exact rfl; exact gRow) | ((with_reducible apply st_rowZ infoW); exact rfl; exact rfl; exact gRow) | (go_at_call_of 50 (Value.agg (cells 16 (limb (enc b)))); refine (HSB.out _).mono ?_; rintro e w' ⟨rfl, hu⟩; have hsz0 := hu.size; (try simp at hsz0)) | (go_at_call_of 51 (Value.agg (cells 16 (limb (enc pA)))); refine (HS.out _).mono ?_; rintro e w' ⟨rfl, hu⟩; have hsz3 := hu.size; (try simp at hsz3)) | (go_at_call_of 51 (Value.agg (cells 16 (limb (enc a)))); refine (HA.out _).mono ?_; rintro e w' ⟨rfl, hu⟩; have hsz1 := hu.size; (try simp at hsz1)) | (go_at_call_of 51 (Value.agg (cells 16 (limb (enc b)))); refine (HB.out _).mono ?_; rintro e w' ⟨rfl, hu⟩; have hsz2 := hu.size; (try simp at hsz2)))
    exact bodyPost_ret (res2 rfl undW infoW _ _ rfl gRow) rfl ⟨rfl, gUp⟩
 ·have hspec : roundV a b = .tuple #[.agg (cells 16 (fun _ => 0)), .bool false] := by
   unfold roundV
   rw [if_neg fun h => hb0 h.1]
  rw [hspec]
  have es : sgn b <= 0 := by
   unfold sgn
   split
   ·decide
   ·rw [if_pos (by omega)]; decide
  obtain ⟨sb, esb⟩ : ∃ sb, sgn b = sb := ⟨_, rfl⟩
  rw [esb] at HSB es
  clear hspec hDV esb hb0
  unfold wideV at *
  go_enter Tryd.func35, Tryd.ntmps35
  go_wp2_with (first | ((with_reducible apply ld_rowP undW infoW); exact rfl; exact rfl; exact gRow) | ((with_reducible apply st_rowP infoW); exact rfl; exact rfl; exact gRow) | ((with_reducible apply st_rowZ infoW); exact rfl; exact rfl; exact gRow) | (go_at_call 50; refine (HSB.out _).mono ?_; rintro e w' ⟨rfl, hu⟩))
  exact bodyPost_ret (res2 rfl undW infoW _ _ rfl gRow) rfl ⟨rfl, gUp⟩
theorem small_in (v : Int) (h1 : -9223372036854775808 <= v) (h2 : v < 9223372036854775808) : InR v := InR.mk' (by have := hb_big; omega)
theorem one_limb {y : Nat} (h0 : y ≠ 0) (h : y < 18446744073709551616) : lenL (limb y) 16 = 1 := by
 refine lenL_of _ (by decide) (fun i h1 _ => ?_) (.inr ?_)
 ·exact limb_of_small (k := 1) (by rw [bp_succ 0, bp_zero]; omega) h1
 ·rw [Nat.sub_self, limb0, Nat.mod_eq_of_lt h]; exact h0
theorem small_lt {y : Nat} (h : y < 18446744073709551616) : y < bp 16 := by
 have h1 := bp16
 have h2 := hb_big
 omega
theorem hb_deep : 3138550867693340381917894711603833208051177722232017256448 <= hb := by
 have h1 := bp_mono (show 2 <= 15 by decide)
 have h2 : bp 2 = 340282366920938463463374607431768211456 := by rw [bp_succ, bp_succ, bp_zero]
 unfold hb
 generalize bp 15 = b at *
 omega
theorem prod_small {a b : Int} (a1 : -9223372036854775808 <= a) (a2 : a < 9223372036854775808) (b1 : -9223372036854775808 <= b) (b2 : b < 9223372036854775808) :
   -85070591730234615865843651857942052864 <= a * b /\ a * b <= 85070591730234615865843651857942052864 := by
 have h : (a * b).natAbs <= 9223372036854775808 * 9223372036854775808 := by
  rw [Int.natAbs_mul]
  exact Nat.mul_le_mul (by omega) (by omega)
 generalize a * b = p at *
 omega
def nearV (a b c : Int) : Value := if 0 < c then i64V ((2 * (a * b) + c) / (2 * c)) else .tuple #[.int .i64 0, .bool false]
set_option maxHeartbeats 2000000 in
theorem fx_muldiv (a b c : Int) (a1 : -9223372036854775808 <= a) (a2 : a < 9223372036854775808) (b1 : -9223372036854775808 <= b) (b2 : b < 9223372036854775808) (c1 : -9223372036854775808 <= c) (c2 : c < 9223372036854775808) (w : World) :
   Calls Tryd.prog 24 #[.int .i64 a, .int .i64 b, .int .i64 c] w fun e w' => e = .returned (nearV a b c) /\ Up w w' := by
 have hd := hb_deep
 have hab := prod_small a1 a2 b1 b2
 have HOA := hid (fun w => of_any a a1 a2 w)
 have HOB := hid (fun w => of_any b b1 b2 w)
 have HOC := hid (fun w => of_any c c1 c2 w)
 have ia := small_in a a1 a2
 have ib := small_in b b1 b2
 have ic := small_in c c1 c2
 have ip : InR (a * b) := InR.mk' (by omega)
 have hM := fun w => mul_z ia ib w
 rw [opt_yes ip] at hM
 have HM := hid hM
 clear hM
 have hn : nearV a b c = if 0 < c then i64V ((2 * (a * b) + c) / (2 * c)) else .tuple #[.int .i64 0, .bool false] := rfl
 generalize a * b = p at *
 have hR := fun w => round_z ip ic (fun h0 _ _ _ w => by
  by_cases hlt : (p + p + c).natAbs < (c + c).natAbs
  ·exact divide_less _ _ (by have := bp16; omega) (small_lt (by omega)) hlt w
  ·exact divide_one _ _ (by have := bp16; omega) (small_lt (by omega)) hlt (one_limb (by omega) (by omega)) w) w
 by_cases h0 : 0 < c
 ·rw [show roundV p c = .tuple #[wideV (enc ((2 * p + c) / (2 * c))), .bool true] from by
   unfold roundV
   rw [if_pos ⟨h0, InR.mk' (by omega), InR.mk' (by omega), InR.mk' (by omega)⟩]] at hR
  have HR := hid hR
  have iq : InR ((2 * p + c) / (2 * c)) := by
   have h1 := Int.ediv_mul_add_emod (2 * p + c) (2 * c)
   have h2 := Int.emod_nonneg (2 * p + c) (show 2 * c ≠ 0 by omega)
   have h3 := Int.emod_lt_of_pos (2 * p + c) (show 0 < 2 * c by omega)
   generalize (2 * p + c) / (2 * c) = q at *
   generalize (2 * p + c) % (2 * c) = r at *
   have h4 : q * (2 * c) <= 2 * p + c := by omega
   have h5 : 2 * p + c < q * (2 * c) + 2 * c := by omega
   refine InR.mk' ⟨?_, ?_⟩
   ·by_cases hq : q < 0
    ·have h6 : q * (2 * c) <= q * 1 := Int.mul_le_mul_of_nonpos_left (by omega) (by omega)
     have h7 : (q + 1) * (2 * c) <= (q + 1) * 1 := Int.mul_le_mul_of_nonpos_left (by omega) (by omega)
     rw [Int.add_mul, Int.one_mul] at h7
     omega
    ·omega
   ·by_cases hq : 0 < q
    ·have h6 : q * 1 <= q * (2 * c) := Int.mul_le_mul_of_nonneg_left (by omega) (by omega)
     omega
    ·omega
  have hI := fun w => int64_z iq w
  rw [hn, if_pos h0]
  obtain ⟨x, ok, hx⟩ : ∃ x ok, i64V ((2 * p + c) / (2 * c)) = .tuple #[.int .i64 x, .bool ok] := ⟨_, _, rfl⟩
  rw [hx] at hI ⊢
  have HI := hid hI
  clear hI hR hx hn iq ia ib ic ip hab hd h0
  generalize enc ((2 * p + c) / (2 * c)) = eq at *
  generalize enc p = ep at *
  generalize enc a = ea at *
  generalize enc b = eb at *
  generalize enc c = ec at *
  unfold wideV at *
  go_enter Tryd.func24, Tryd.ntmps24
  go_wp2_with (first | ((with_reducible apply ld_rowP undW infoW); exact rfl; exact rfl; exact gRow) | ((with_reducible apply st_rowP infoW); exact rfl; exact rfl; exact gRow) | ((with_reducible apply st_rowZ infoW); exact rfl; exact rfl; exact gRow) | (go_at_call 34; (first | (with_reducible refine (HOA.out _).mono ?_) | (with_reducible refine (HOB.out _).mono ?_)); rintro e w' ⟨rfl, hu⟩; have hsz := hu.size; (try simp at hsz)) | (go_at_call 33; (with_reducible refine (HM.out _).mono ?_); rintro e wM ⟨rfl, hu⟩; have hsz := hu.size; (try simp at hsz)))
  have hszM := hu.size
  refine opU (S := (fun wq => Row wq wM.heap.size 80 16 (limb ep) /\ Below w.heap.size w wq)) (req := (fun j => j != 8)) (fun _ _ h hu => ⟨(h.1).up hu, below_up (h.2) hu⟩) ⟨gRow, gUp⟩ (fun wS hSS hSu => ?_)
  have ⟨hS1, hSB⟩ := hSS
  refine tkT 0 (some 21) rfl hSu hSS ?_ (hy := fun w' hSw => run_ld undW infoW _ rfl _ rfl hSw.1)
  refine tkP 1 (some 22) hSu ?_
  refine tkC 2 (some 23) rfl hSu hSS ?_ (hy := fun w' hSw => (HOC.out _))
  refine tkC 3 (some 24) rfl hSu hSS ?_ (hy := fun w' hSw => (HR.out _))
  refine tkP 4 (some 20) hSu ?_
  refine tkP 5 (some 25) hSu ?_
  refine tkP 6 (some 26) hSu ?_
  refine wpAnyU_allocW (i := 7) (d := (some 10)) rfl rfl (by kernel_rfl) (by rfl) rfl hSu.out fun w1 hw1 => ?_
  try simp only [Act.put, pu1, pu2, pu3]
  refine wpAnyU_one (i := 8) rfl (by kernel_rfl) (by rfl) fun w2 hw2 => ?_
  refine wp_st_rowN infoW rfl _ _ rfl _ rfl rfl ((Row.up (row_newc _ 16 _ rfl) hw2)) ?_
  refine ⟨fun h => by simp at h, ?_⟩
  try simp only [Act.put, pu1, pu2, pu3]
  refine tkP 9 (some 11) hSu ?_
  refine wpAnyU_done (by kernel_rfl) (fun wF huE => ?_) _
  have m1 := hS1.lt
  have m3 := (below_up hSB hw1).size
  have g1 := (((row_newc (w := w1) 80 16 (fun _ => 0) rfl).up hw2).setRow (limb eq)).up huE
  have gB : Below w.heap.size w wF := below_up (below_setRow (below_up ((below_up hSB hw1).alloc m3 _) hw2) m3 _) huE
  clear hS1 hSB hSS hw1 hw2 huE
  generalize w1.heap.size = b1 at *
  go_wp2_with (first | ((with_reducible apply ld_rowP undW infoW); exact rfl; exact rfl; exact gRow) | (go_at_call 36; (with_reducible refine (HI.out _).mono ?_); rintro e wI ⟨rfl, hu⟩))
  go_ret2
  exact ⟨rfl, gUp⟩
 ·rw [hn, if_neg h0]
  rw [show roundV p c = .tuple #[.agg (cells 16 (fun _ => 0)), .bool false] from by
   unfold roundV
   rw [if_neg (fun h => h0 h.1)]] at hR
  have HR := hid hR
  clear hR hn ia ib ic ip hab hd h0
  generalize enc p = ep at *
  generalize enc a = ea at *
  generalize enc b = eb at *
  generalize enc c = ec at *
  unfold wideV at *
  go_enter Tryd.func24, Tryd.ntmps24
  go_wp2_with (first | ((with_reducible apply ld_rowP undW infoW); exact rfl; exact rfl; exact gRow) | ((with_reducible apply st_rowP infoW); exact rfl; exact rfl; exact gRow) | ((with_reducible apply st_rowZ infoW); exact rfl; exact rfl; exact gRow) | (go_at_call 34; (first | (with_reducible refine (HOA.out _).mono ?_) | (with_reducible refine (HOB.out _).mono ?_)); rintro e w' ⟨rfl, hu⟩; have hsz := hu.size; (try simp at hsz)) | (go_at_call 33; (with_reducible refine (HM.out _).mono ?_); rintro e wM ⟨rfl, hu⟩; have hsz := hu.size; (try simp at hsz)))
  have hszM := hu.size
  refine opU (S := (fun wq => Row wq wM.heap.size 80 16 (limb ep) /\ Below w.heap.size w wq)) (req := (fun j => j != 8)) (fun _ _ h hu => ⟨(h.1).up hu, below_up (h.2) hu⟩) ⟨gRow, gUp⟩ (fun wS hSS hSu => ?_)
  have ⟨hS1, hSB⟩ := hSS
  refine tkT 0 (some 21) rfl hSu hSS ?_ (hy := fun w' hSw => run_ld undW infoW _ rfl _ rfl hSw.1)
  refine tkP 1 (some 22) hSu ?_
  refine tkC 2 (some 23) rfl hSu hSS ?_ (hy := fun w' hSw => (HOC.out _))
  refine tkC 3 (some 24) rfl hSu hSS ?_ (hy := fun w' hSw => (HR.out _))
  refine tkP 4 (some 20) hSu ?_
  refine tkP 5 (some 25) hSu ?_
  refine tkP 6 (some 26) hSu ?_
  refine wpAnyU_allocW (i := 7) (d := (some 10)) rfl rfl (by kernel_rfl) (by rfl) rfl hSu.out fun w1 hw1 => ?_
  try simp only [Act.put, pu1, pu2, pu3]
  refine wpAnyU_one (i := 8) rfl (by kernel_rfl) (by rfl) fun w2 hw2 => ?_
  refine wp_st_rowN infoW rfl _ _ rfl _ rfl rfl ((Row.up (row_newc _ 16 _ rfl) hw2)) ?_
  refine ⟨fun h => by simp at h, ?_⟩
  try simp only [Act.put, pu1, pu2, pu3]
  refine tkP 9 (some 11) hSu ?_
  refine wpAnyU_done (by kernel_rfl) (fun wF huE => ?_) _
  have m1 := hS1.lt
  have m3 := (below_up hSB hw1).size
  have g1 := (((row_newc (w := w1) 80 16 (fun _ => 0) rfl).up hw2).setRow (fun _ => 0)).up huE
  have gB : Below w.heap.size w wF := below_up (below_setRow (below_up ((below_up hSB hw1).alloc m3 _) hw2) m3 _) huE
  clear hS1 hSB hSS hw1 hw2 huE
  generalize w1.heap.size = b1 at *
  go_wp2
  go_ret2
  exact ⟨rfl, gUp⟩
theorem root_ex (N : Nat) : ∃ r, r * r <= N /\ N < (r + 1) * (r + 1) := by
 induction N with
 | zero => exact ⟨0, by omega, by omega⟩
 | succ N ih =>
   obtain ⟨r, h1, h2⟩ := ih
   by_cases h : N + 1 < (r + 1) * (r + 1)
   ·exact ⟨r, by omega, h⟩
   ·refine ⟨r + 1, by omega, ?_⟩
    have : (r + 1 + 1) * (r + 1 + 1) = (r + 1) * (r + 1) + 2 * r + 3 := by grind
    omega
theorem sq_lt {r B N : Nat} (h1 : r * r <= N) (hN : N < B * B) : r < B := by
 rcases Nat.lt_or_ge r B with h | h
 ·exact h
 ·have := Nat.mul_le_mul h h
  omega
theorem fx_sqrt (v r : Nat) (hv : v < 18446744073709551616) (h1 : r * r <= v) (h2 : v < (r + 1) * (r + 1)) (w : World) :
   Calls Tryd.prog 23 #[.int .u64 v] w fun e w' => e = .returned (.int .u32 (r : Nat)) /\ Up w w' := by
 have hr := sq_lt (B := 4294967296) h1 (by omega)
 have hR := fun w => fx_root 0 v r (by decide) hv (by omega) (by omega) w
 rw [show ((0 : Nat) : Int) = 0 from rfl] at hR
 have HR := hid hR
 have e : IntKind.u32.wrap (r : Int) = r := by rw [IntKind.wrap_u32]; omega
 clear hR h1 h2
 go_enter Tryd.func23, Tryd.ntmps23
 go_wp2_with (first | (go_at_call 32; refine (HR.out _).mono ?_; rintro e w' ⟨rfl, hu⟩))
 go_ret
 exact ⟨rfl, gUp⟩
theorem fx_hypot (x y : Int) (r : Nat) (hx : x.natAbs <= 2147483648) (hy : y.natAbs <= 2147483648) (h1 : r * r <= x.natAbs * x.natAbs + y.natAbs * y.natAbs) (h2 : x.natAbs * x.natAbs + y.natAbs * y.natAbs < (r + 1) * (r + 1)) (w : World) :
   Calls Tryd.prog 14 #[.int .i64 x, .int .i64 y] w fun e w' => e = .returned (.tuple #[.int .i64 (r : Nat), .bool true]) /\ Up w w' := by
 have HX := hid (fun w => fx_size x (by omega) (by omega) w)
 have HY := hid (fun w => fx_size y (by omega) (by omega) w)
 generalize x.natAbs = p at *
 generalize y.natAbs = q at *
 have hp := Nat.mul_le_mul hx hx
 have hq := Nat.mul_le_mul hy hy
 have e1 : IntKind.u64.wrap ((p : Int) * p) = ((p * p : Nat) : Int) := by
  rw [IntKind.wrap_u64, <- Int.natCast_mul]
  generalize p * p = pp at *
  omega
 have e2 : IntKind.u64.wrap ((q : Int) * q) = ((q * q : Nat) : Int) := by
  rw [IntKind.wrap_u64, <- Int.natCast_mul]
  generalize q * q = pp at *
  omega
 have HS := hid (fun w => fx_sqrt (p * p + q * q) r (by omega) h1 h2 w)
 have hr := sq_lt (B := 4294967296) h1 (by omega)
 generalize p * p = P at *
 generalize q * q = Q at *
 have e3 : IntKind.u64.wrap ((P : Int) + Q) = ((P + Q : Nat) : Int) := by rw [IntKind.wrap_u64]; omega
 generalize P + Q = S at *
 have d1 : decide ((2147483648 : Int) < p) = false := decide_eq_false (by omega)
 have d2 : decide ((2147483648 : Int) < q) = false := decide_eq_false (by omega)
 clear h1 h2 hp hq
 go_enter Tryd.func14, Tryd.ntmps14
 go_wp2_with (first | (go_at_call 22; (first | (with_reducible refine (HX.out _).mono ?_) | (with_reducible refine (HY.out _).mono ?_)); rintro e w' ⟨rfl, hu⟩) | (go_at_call 23; refine (HS.out _).mono ?_; rintro e w' ⟨rfl, hu⟩))
 go_ret2
 exact ⟨rfl, gUp⟩
inductive Er where
 | num (n : Int)
 | nilf (op : ByteArray)
 | flt (op : ByteArray) (e : Er)
def IsEr (w : World) : Value -> Er -> Prop
 | v, .num n => v = .iface 39 (.int .i64 n)
 | v, .nilf op => ∃ b, v = .iface 61 (.pointer (some ⟨b, 0, none⟩)) /\ Blk w b 64 #[.string op, .nilIface]
 | v, .flt op e => ∃ b u, v = .iface 61 (.pointer (some ⟨b, 0, none⟩)) /\ Blk w b 64 #[.string op, u] /\ IsEr w u e
theorem IsEr.up {w w' : World} (hu : Up w w') {v : Value} {e : Er} (h : IsEr w v e) : IsEr w' v e := by
 induction e generalizing v with
 | num n => exact h
 | nilf op => obtain ⟨b, h1, h2⟩ := h; exact ⟨b, h1, h2.up hu⟩
 | flt op e ih => obtain ⟨b, u, h1, h2, h3⟩ := h; exact ⟨b, u, h1, h2.up hu, ih h3⟩
theorem IsEr.iface {w : World} {v : Value} {e : Er} (h : IsEr w v e) : ∃ t u, v = .iface t u := by
 cases e with
 | num n => exact ⟨_, _, h⟩
 | nilf op => obtain ⟨b, h1, _⟩ := h; exact ⟨_, _, h1⟩
 | flt op e => obtain ⟨b, u, h1, _⟩ := h; exact ⟨_, _, h1⟩
def Er.has (n : Int) : Er -> Bool
 | .num m => m == n
 | .nilf _ => false
 | .flt _ e => e.has n
def Er.first : Er -> Option Int
 | .num m => some m
 | .nilf _ => none
 | .flt _ e => e.first
def Er.ops : Er -> List ByteArray
 | .num _ => []
 | .nilf op => [op]
 | .flt op e => op :: e.ops
theorem wrap_any {op : ByteArray} {v : Value} {e : Er} {w : World} (h : IsEr w v e) :
   Calls Tryd.prog 21 #[.string op, v] w fun r w' => ∃ u, r = .returned u /\ Up w w' /\ IsEr w' u (.flt op e) := by
 obtain ⟨t, u, rfl⟩ := h.iface
 have H := hid h
 clear h
 go_enter Tryd.func21, Tryd.ntmps21
 go_wp2
 go_ret
 exact ⟨_, rfl, Up.alloc _ _, _, _, rfl, Blk.new _ _ rfl, H.out.up (Up.alloc _ _)⟩
end Go.Proofs.YtbmlkimgjkdaiaaDoor
namespace Go.Proofs.YtbmlkimgjkdaiaaDoor
open Go Go.RowKit Go.Extern.Stop Go.Stop Go.Extern
set_option maxRecDepth 100000
theorem noUnN (v : Value) (xT : TypeId) (w : World) : (Instr.typeAssert (.iface 39 v) xT 96 true).run Tryd.prog w = .ok (.tuple #[.nilIface, .bool false]) w := run_typeAssert_lacksB Tryd.underlying96 (by kernel_rfl) (by kernel_rfl) v xT w
theorem noUsN (v : Value) (xT : TypeId) (w : World) : (Instr.typeAssert (.iface 39 v) xT 98 true).run Tryd.prog w = .ok (.tuple #[.nilIface, .bool false]) w := run_typeAssert_lacksB Tryd.underlying98 (by kernel_rfl) (by kernel_rfl) v xT w
theorem hasUnF (v : Value) (xT : TypeId) (w : World) : (Instr.typeAssert (.iface 61 v) xT 96 true).run Tryd.prog w = .ok (.tuple #[.iface 61 v, .bool true]) w := run_typeAssert_hasB Tryd.underlying96 (by kernel_rfl) v xT w
theorem unwrap_flt {b : Nat} {op : ByteArray} {u : Value} {w : World} (h : Blk w b 64 #[.string op, u]) :
   Calls Tryd.prog 92 #[.pointer (some ⟨b, 0, none⟩)] w fun r w' => r = .returned u /\ w' = w := by
 have hc := h.cell 1 rfl
 go_enter Tryd.func92, Tryd.ntmps92
 go_wp2
 go_ret
 exact ⟨rfl, rfl⟩
theorem mUnF (v : Value) (w : World) : (Go.method 266 61 v "Unwrap").run Tryd.prog w = .ok (92, v) w := by kernel_rfl
def Er.size : Er -> Nat
 | .num _ => 1
 | .nilf _ => 1
 | .flt _ e => e.size + 1
end Go.Proofs.YtbmlkimgjkdaiaaDoor
namespace Go.Proofs.YtbmlkimgjkdaiaaDoor
open Go Go.RowKit Go.Extern.Stop Go.Stop Go.Extern
set_option maxRecDepth 100000
theorem valueOfP (t : Addr) (w : World) : (ReflectliteValue.unpack (.iface 53 (.pointer (some t)))).run Tryd.prog w
   = .ok (.agg #[.pointer (some ⟨3, 53, none⟩), .pointer (some ⟨w.heap.size, 0, none⟩), .int .u64 150]) (w.alloc (.cells #[.pointer (some t)] 53)) := by kernel_rfl
theorem typeP (a : Addr) (w : World) : (ReflectliteValue.methodAny (ReflectliteValue.valueError "reflectlite.Value.Type" 0) (fun t _ _ _ => ReflectliteType.toType t) #[.agg #[.pointer (some ⟨3, 53, none⟩), .pointer (some a), .int .u64 150]]).run Tryd.prog w
   = .ok (.iface 88 (.agg #[.pointer (some ⟨3, 53, none⟩)])) w := by kernel_rfl
theorem mKind (h : Value) (w : World) : (Go.method 266 88 (.agg #[h]) "Kind").run Tryd.prog w = .ok (87, h) w := by kernel_rfl
theorem kindP (w : World) : ((ReflectliteType.abiMethod fun t => (fun a : Nat => Value.int IntKind.u8 (a : Int)) <$> Rtype.kind t) #[.pointer (some ⟨3, 53, none⟩)]).run Tryd.prog w = .ok (.int .u8 22) w := by kernel_rfl
theorem kindN (w : World) : ((ReflectliteType.abiMethod fun t => (fun a : Nat => Value.int IntKind.u8 (a : Int)) <$> Rtype.kind t) #[.pointer (some ⟨3, 39, none⟩)]).run Tryd.prog w = .ok (.int .u8 2) w := by kernel_rfl
theorem rlm (z : Sem Value) (f : TypeId -> Addr -> Nat -> Nat -> Sem Value) (v : Value) :
   ReflectliteValue.method z f #[v] = (do match <- ReflectliteValue.parts v with | none => z | some (t, a, fl) => f t a fl (fl % 32)) := rfl
theorem partsP (a : Addr) (w : World) : (ReflectliteValue.parts (.agg #[.pointer (some ⟨3, 53, none⟩), .pointer (some a), .int .u64 150])).run Tryd.prog w = .ok (some (53, a, 150)) w := by kernel_rfl
theorem isNilP (a p : Addr) (W : World) (ha : W.cell? a = some (.pointer (some p))) :
   (ReflectliteValue.method (ReflectliteValue.valueError "reflectlite.Value.IsNil" 0) ReflectliteValue.isNil #[.agg #[.pointer (some ⟨3, 53, none⟩), .pointer (some a), .int .u64 150]]).run Tryd.prog W = .ok (.bool false) W := by
 rw [rlm]
 simp only [Sem.run_bind, partsP, Result.andThen]
 simp [ReflectliteValue.isNil, loadVar, isAgg, underlying, Tryd.underlying53, ha, Result.andThen]
theorem mElem (h : Value) (w : World) : (Go.method 266 88 (.agg #[h]) "Elem").run Tryd.prog w = .ok (99, .agg #[h]) w := by kernel_rfl
theorem mImplements (h : Value) (w : World) : (Go.method 266 88 (.agg #[h]) "Implements").run Tryd.prog w = .ok (100, .agg #[h]) w := by kernel_rfl
theorem mAssignableTo (h : Value) (w : World) : (Go.method 266 88 (.agg #[h]) "AssignableTo").run Tryd.prog w = .ok (97, .agg #[h]) w := by kernel_rfl
theorem elemP (w : World) : (ReflectliteType.method ReflectliteType.elem #[.agg #[.pointer (some ⟨3, 53, none⟩)]]).run Tryd.prog w = .ok (.iface 88 (.agg #[.pointer (some ⟨3, 39, none⟩)])) w := by kernel_rfl
theorem implementsN (w : World) : (ReflectliteType.relation "Implements" ReflectliteType.implements_ #[.agg #[.pointer (some ⟨3, 39, none⟩)], .iface 88 (.agg #[.pointer (some ⟨3, 29, none⟩)])]).run Tryd.prog w = .ok (.bool true) w := by kernel_rfl
theorem typeOfN2 (v : Value) (w : World) : (ReflectliteType.typeOf #[.iface 39 v]).run Tryd.prog w = .ok (.iface 88 (.agg #[.pointer (some ⟨3, 39, none⟩)])) w := by kernel_rfl
theorem typeOfF (v : Value) (w : World) : (ReflectliteType.typeOf #[.iface 61 v]).run Tryd.prog w = .ok (.iface 88 (.agg #[.pointer (some ⟨3, 61, none⟩)])) w := by kernel_rfl
theorem assignN (w : World) : (ReflectliteType.relation "AssignableTo" ReflectliteType.assignableTo #[.agg #[.pointer (some ⟨3, 39, none⟩)], .iface 88 (.agg #[.pointer (some ⟨3, 39, none⟩)])]).run Tryd.prog w = .ok (.bool true) w := by kernel_rfl
theorem assignF (w : World) : (ReflectliteType.relation "AssignableTo" ReflectliteType.assignableTo #[.agg #[.pointer (some ⟨3, 61, none⟩)], .iface 88 (.agg #[.pointer (some ⟨3, 39, none⟩)])]).run Tryd.prog w = .ok (.bool false) w := by kernel_rfl
theorem valueOfN (n : Int) (w : World) : (ReflectliteValue.unpack (.iface 39 (.int .i64 n))).run Tryd.prog w
   = .ok (.agg #[.pointer (some ⟨3, 39, none⟩), .pointer (some ⟨w.heap.size, 0, none⟩), .int .u64 130]) (w.alloc (.cells #[.int .i64 n] 39)) := by kernel_rfl
theorem elemOfP (w : World) : (Rtype.elem? 53).run Tryd.prog w = .ok (some 39) w := by kernel_rfl
theorem mkN (p : Addr) (w : World) : (ReflectliteValue.mk 39 p ReflectliteValue.flagAddr).run Tryd.prog w = .ok (.agg #[.pointer (some ⟨3, 39, none⟩), .pointer (some p), .int .u64 386]) w := by kernel_rfl
theorem elemVP (a p : Addr) (W : World) (ha : W.cell? a = some (.pointer (some p))) :
   (ReflectliteValue.method (ReflectliteValue.valueError "reflectlite.Value.Elem" 0) ReflectliteValue.elem #[.agg #[.pointer (some ⟨3, 53, none⟩), .pointer (some a), .int .u64 150]]).run Tryd.prog W
    = .ok (.agg #[.pointer (some ⟨3, 39, none⟩), .pointer (some p), .int .u64 386]) W := by
 rw [rlm]
 simp only [Sem.run_bind, partsP, Result.andThen]
 simp [ReflectliteValue.elem, loadVar, isAgg, underlying, Tryd.underlying53, ha, Result.andThen, elemOfP, mkN]
theorem lt_of_cell {w : World} {a : Addr} {v : Value} (h : w.cell? a = some v) : a.block < w.heap.size := by
 rcases Nat.lt_or_ge a.block w.heap.size with h1 | h1
 ·exact h1
 ·simp [World.cell?, Array.getElem?_eq_none h1] at h
theorem rls (v x : Value) : ReflectliteValue.set #[v, x] = (do
   let (some (dst, a, fl), some (src, b, _)) := (<- ReflectliteValue.parts v, <- ReflectliteValue.parts x)
    | unsupported (.noEntry "extern/(internal/reflectlite.Value).Set.zeroValue")
   if fl / ReflectliteValue.flagAddr % 2 == 0 then unsupported (.noEntry "extern/(internal/reflectlite.Value).Set.unaddressable")
   let val <- loadVar src b
   if <- Rtype.directlyAssignable dst src then storeVar dst a val
   else if <- Rtype.implements dst src then
    if (<- Rtype.kind src) == 20 then
     match val with
     | .nilIface => unsupported (.noEntry "extern/reflectlite: a nil value of one interface type handed on as a value of another")
     | _ => storeVar dst a val
    else storeVar dst a (.iface src val)
   else panicString ("reflectlite.Set: value of type " ++ (<- Rtype.spelt src) ++ " is not assignable to type " ++ (<- Rtype.spelt dst))
   pure (.tuple #[])) := rfl
theorem partsNa (a : Addr) (w : World) : (ReflectliteValue.parts (.agg #[.pointer (some ⟨3, 39, none⟩), .pointer (some a), .int .u64 386])).run Tryd.prog w = .ok (some (39, a, 386)) w := by kernel_rfl
theorem partsN (a : Addr) (w : World) : (ReflectliteValue.parts (.agg #[.pointer (some ⟨3, 39, none⟩), .pointer (some a), .int .u64 130])).run Tryd.prog w = .ok (some (39, a, 130)) w := by kernel_rfl
theorem directN (w : World) : (Rtype.directlyAssignable 39 39).run Tryd.prog w = .ok true w := by kernel_rfl
theorem setN (ta b : Addr) (n : Int) (old : Value) (W : World) (hb : W.cell? b = some (.int .i64 n)) (ht : W.cell? ta = some old) (hf : W.frozen? ta = false) :
   (ReflectliteValue.set #[.agg #[.pointer (some ⟨3, 39, none⟩), .pointer (some ta), .int .u64 386], .agg #[.pointer (some ⟨3, 39, none⟩), .pointer (some b), .int .u64 130]]).run Tryd.prog W
    = .ok (.tuple #[]) (W.setCell ta (.int .i64 n)) := by
 rw [rls]
 simp only [Sem.run_bind, partsNa, partsN, Result.andThen]
 simp [ReflectliteValue.flagAddr, loadVar, isAgg, underlying, Tryd.underlying39, hb, Result.andThen, directN, storeVar, Value.cells, storeCells, Addr.add]
 rw [run_store Tryd.prog W ta _ _ (by rfl)]
 simp [ht, hf]
theorem noAsN (v : Value) (xT : TypeId) (w : World) : (Instr.typeAssert (.iface 39 v) xT 93 true).run Tryd.prog w = .ok (.tuple #[.nilIface, .bool false]) w := run_typeAssert_lacksB Tryd.underlying93 (by kernel_rfl) (by kernel_rfl) v xT w
theorem noAsF (v : Value) (xT : TypeId) (w : World) : (Instr.typeAssert (.iface 61 v) xT 93 true).run Tryd.prog w = .ok (.tuple #[.nilIface, .bool false]) w := run_typeAssert_lacksB Tryd.underlying93 (by kernel_rfl) (by kernel_rfl) v xT w
theorem undV0 : (match Tryd.prog.underlying 68 with | some (.struct _) => true | _ => false) = true := by kernel_rfl
theorem undV : ∃ fs, Tryd.prog.underlying 68 = some (.struct fs) := by
 have h := undV0
 cases hq : Tryd.prog.underlying 68 with
 | none => rw [hq] at h; simp at h
 | some d =>
   rw [hq] at h
   cases d <;> first | exact ⟨_, rfl⟩ | simp at h
theorem infoV : (Tryd.prog.info? 68).map (·.size) = some 3 := by kernel_rfl
theorem ldV {ops : Array Oper} {rest : List Oper} {Q : Exit -> Act -> World -> Prop} {a : Act} {w : World} {d : Option Tmp} {s : Tmp} {ty : TypeId} {pos : String} {af : Array Edge} {gd : Option (Nat × Bool)} {g : Nat} {C : Array Value}
   (hw : Region.wanted { dst := d, op := .load 68 (.tmp s), type := ty, pos := pos, after := af, guard := gd } (yielded ops a.tmps) = true) (hx : a.eval (.tmp s) = .pointer (some ⟨g, 0, none⟩)) (hC : Blk w g 68 C) (h2 : C.size = 3)
   (h : wpList Tryd.prog ops Q rest (a.put d (.agg C)) w) : wpList Tryd.prog ops Q ({ dst := d, op := .load 68 (.tmp s), type := ty, pos := pos, after := af, guard := gd } :: rest) a w := by
 refine wpList_run hw ?_ h
 obtain ⟨fs, hu⟩ := undV
 unfold execOp
 simp only [hx, Instr.loadAt, Instr.sureAddr, Sem.run_bind, Sem.run_pure, Result.andThen_ok, run_loadVar_row w g _ 68 C (0, 0) _ hC hu rfl (by rw [infoV, h2])]
theorem Up.frozen {w w' : World} (hu : Up w w') {a : Addr} (h : a.block < w.heap.size) (hf : w.frozen? a = false) : w'.frozen? a = false := by
 rw [World.frozen?_of_block (hu.block a.block h)]; exact hf
theorem Up.cellEq {w w' : World} (hu : Up w w') {a : Addr} {v : Value} (h : w.cell? a = some v) : w'.cell? a = some v := by
 rw [World.cell?_of_block (hu.block a.block (lt_of_cell h))]; exact h
def Told (t : Addr) (w : World) (r : Ending) (w' : World) : Option Int -> Prop
 | none => r = .returned (.bool false) /\ Up w w'
 | some m => r = .returned (.bool true) /\ ∃ w1, Up w w1 /\ w' = w1.setCell t (.int .i64 m)
set_option maxHeartbeats 8000000 in
theorem as_sz (t p0 : Addr) (old : Value) (k : Nat) : ∀ (e : Er), e.size <= k -> ∀ (v : Value) (w : World), IsEr w v e -> w.cell? p0 = some (.pointer (some t)) -> w.cell? t = some old -> w.frozen? t = false ->
   Calls Tryd.prog 30 #[v, .iface 53 (.pointer (some t)), .agg #[.pointer (some ⟨3, 53, none⟩), .pointer (some p0), .int .u64 150], .iface 88 (.agg #[.pointer (some ⟨3, 39, none⟩)])] w fun r w' => Told t w r w' e.first := by
 induction k with
 | zero => intro e he; cases e <;> simp [Er.size] at he
 | succ k ih =>
   intro e he v w hE hp ht hf
   have h1 := noAsN
   have h2 := noAsF
   have h4 := noUnN
   have h5 := noUsN
   have h6 := hasUnF
   have h9 := mUnF
   have h31 := @run_callFunc_extern Tryd.prog 39 _ ReflectliteType.typeOf Tryd.func39 (by kernel_rfl) (by kernel_rfl) (by kernel_rfl) (by kernel_rfl)
   have h73 := @run_callFunc_extern Tryd.prog 97 _ (ReflectliteType.relation "AssignableTo" ReflectliteType.assignableTo) Tryd.func97 (by kernel_rfl) (by kernel_rfl) (by kernel_rfl) (by kernel_rfl)
   have h35 := @run_callFunc_extern Tryd.prog 40 _ (ReflectliteValue.method (ReflectliteValue.valueError "reflectlite.Value.Elem" 0) ReflectliteValue.elem) Tryd.func40 (by kernel_rfl) (by kernel_rfl) (by kernel_rfl) (by kernel_rfl)
   have h36 := @run_callFunc_extern Tryd.prog 41 _ ReflectliteValue.set Tryd.func41 (by kernel_rfl) (by kernel_rfl) (by kernel_rfl) (by kernel_rfl)
   have h25 := @run_callFunc_extern Tryd.prog 27 _ (fun args => ReflectliteValue.unpack (args.getD 0 (.tuple #[]))) Tryd.func27 (by kernel_rfl) (by kernel_rfl) (by kernel_rfl) (by kernel_rfl)
   have tN := typeOfN2
   have tF := typeOfF
   have aN := assignN
   have aF := assignF
   have mA := mAssignableTo
   have vN := valueOfN
   have IH := hid ih
   have hlp := lt_of_cell hp
   have hlt := lt_of_cell ht
   clear ih
   go_enter Tryd.func30, Tryd.ntmps30
   go_wp2_with fail
   obtain ⟨wb, hwb⟩ : ∃ wb, w.alloc (Obj.cells #[.pointer (some ⟨3, 53, none⟩), .pointer (some p0), .int .u64 150] 68) = wb := ⟨_, rfl⟩
   have hub : Up w wb := by rw [<- hwb]; exact Up.alloc _ _
   have hbox : Blk wb w.heap.size 68 #[.pointer (some ⟨3, 53, none⟩), .pointer (some p0), .int .u64 150] := by rw [<- hwb]; exact Blk.new _ _ rfl
   rw [hwb]
   clear hwb
   go_loopg [0] (k + 1) (fun g tv wr => ∃ x : Er, x.size <= g /\ x.size <= k + 1 /\ x.first = e.first /\ IsEr w tv x /\ wr = wb)
   case atStart => exact ⟨e, he, he, rfl, hE, rfl⟩
   case round =>
    obtain ⟨x, hx1, hx2, hx3, hX, hw0⟩ := hrel
    subst hw0
    have HX3 := hid hx3
    clear hx3 hE he
    cases x with
    | num m =>
      obtain rfl : _ = _ := hX
      have hq := hub.cellEq hp
      have el := elemVP p0 t wr hq
      have st := setN t ⟨wr.heap.size, 0, none⟩ m old (wr.alloc (.cells #[.int .i64 m] 39)) (by simp) ((hub.trans (Up.alloc _ _)).cellEq ht) ((hub.trans (Up.alloc _ _)).frozen hlt hf)
      have HF := hid (show e.first = some m from HX3.out.symm)
      clear hq
      go_wp2_with (first | ((with_reducible apply ldV); exact rfl; exact rfl; exact hbox; exact rfl))
      go_ret
      rw [HF.out]
      exact ⟨rfl, _, hub.trans (Up.alloc _ _), rfl⟩
    | nilf op =>
      obtain ⟨b, rfl, hB⟩ := hX
      have HU := hid (fun (w' : World) (h : Up wr w') => unwrap_flt ((hB.up hub).up h))
      have HF := hid (show e.first = none from HX3.out.symm)
      clear hB
      go_wp2_with (first | (go_at_call 92; (with_reducible refine (HU.out _ (Up.refl _)).mono ?_); rintro r w' ⟨rfl, rfl⟩))
      go_ret
      rw [HF.out]
      exact ⟨rfl, hub⟩
    | flt op y =>
      obtain ⟨b, u, rfl, hB, hY⟩ := hX
      obtain ⟨tu, uu, rfl⟩ := hY.iface
      have HU := hid (fun (w' : World) (h : Up wr w') => unwrap_flt ((hB.up hub).up h))
      have HY := hid hY
      have hs1 : y.size + 1 <= gk := hx1
      have hs2 : y.size + 1 <= k + 1 := hx2
      have HH := hid (show y.first = e.first from HX3.out)
      clear hY hB
      go_wp2_with (first | (go_at_call 92; (with_reducible refine (HU.out _ (Up.refl _)).mono ?_); rintro r w' ⟨rfl, rfl⟩))
      go_roundg (gk - 1)
      case measure => omega
      case rel => exact ⟨y, by omega, by omega, HH.out, HY.out, rfl⟩
end Go.Proofs.YtbmlkimgjkdaiaaDoor
namespace Go.Proofs.YtbmlkimgjkdaiaaDoor
open Go Go.RowKit
set_option maxRecDepth 100000
theorem idle_out (w : World) : CallsD Tryd.prog 37 #[] .returning w fun e u' w' => e = .returned (.tuple #[]) /\ u' = .returning /\ w' = w := by
 refine callsD_of_wpS Tryd.func37 rfl fun c₀ cs hu => ?_
 apply wpS_region
 simp [wpOpsS, go_sem, recoverD, hu, Tryd.ntmps37, bodyPostS, results, Tryd.results37]
 cases c₀
 simp_all
end Go.Proofs.YtbmlkimgjkdaiaaDoor
namespace Go.Proofs.YtbmlkimgjkdaiaaDoor
open Go Go.RowKit Go.Extern.Stop Go.Stop Go.Extern
set_option maxRecDepth 100000
def Glob (w : World) : Prop := w.cell? ⟨0, 0, none⟩ = some (.iface 88 (.agg #[.pointer (some ⟨3, 29, none⟩)]))
set_option maxHeartbeats 4000000 in
theorem as_any {e : Er} {v : Value} {w : World} (t : Addr) (old : Value) (h : IsEr w v e) (hg : Glob w) (ht : w.cell? t = some old) (hf : w.frozen? t = false) :
   Calls Tryd.prog 19 #[v, .iface 53 (.pointer (some t))] w fun r w' => Told t w r w' e.first := by
 obtain ⟨t1, v1, rfl⟩ := h.iface
 obtain ⟨o, ho⟩ : ∃ o, e.first = o := ⟨_, rfl⟩
 rw [ho]
 have h25 := @run_callFunc_extern Tryd.prog 27 _ (fun args => ReflectliteValue.unpack (args.getD 0 (.tuple #[]))) Tryd.func27 (by kernel_rfl) (by kernel_rfl) (by kernel_rfl) (by kernel_rfl)
 have h26 := @run_callFunc_extern Tryd.prog 28 _ (ReflectliteValue.methodAny (ReflectliteValue.valueError "reflectlite.Value.Type" 0) (fun t _ _ _ => ReflectliteType.toType t)) Tryd.func28 (by kernel_rfl) (by kernel_rfl) (by kernel_rfl) (by kernel_rfl)
 have h27 := @run_callFunc_extern Tryd.prog 29 _ (ReflectliteValue.method (ReflectliteValue.valueError "reflectlite.Value.IsNil" 0) ReflectliteValue.isNil) Tryd.func29 (by kernel_rfl) (by kernel_rfl) (by kernel_rfl) (by kernel_rfl)
 have h63 := @run_callFunc_extern Tryd.prog 87 _ (ReflectliteType.abiMethod fun t => do pure (.int .u8 (<- Rtype.kind t))) Tryd.func87 (by kernel_rfl) (by kernel_rfl) (by kernel_rfl) (by kernel_rfl)
 have h75 := @run_callFunc_extern Tryd.prog 99 _ (ReflectliteType.method ReflectliteType.elem) Tryd.func99 (by kernel_rfl) (by kernel_rfl) (by kernel_rfl) (by kernel_rfl)
 have h76 := @run_callFunc_extern Tryd.prog 100 _ (ReflectliteType.relation "Implements" ReflectliteType.implements_) Tryd.func100 (by kernel_rfl) (by kernel_rfl) (by kernel_rfl) (by kernel_rfl)
 have f25 := valueOfP
 have f26 := typeP
 have mK := mKind
 have kP := kindP
 have kN := kindN
 have mE := mElem
 have eP := elemP
 have mI := mImplements
 have iN := implementsN
 obtain ⟨w1, hw1⟩ : ∃ w1, (w.alloc (.cells #[.pointer (some t)] 53)).alloc (.cells #[.pointer (some ⟨3, 53, none⟩), .pointer (some ⟨w.heap.size, 0, none⟩), .int .u64 150] 68) = w1 := ⟨_, rfl⟩
 have hu1 : Up w w1 := by rw [<- hw1]; exact (Up.alloc _ _).trans (Up.alloc _ _)
 have hp1 : w1.cell? ⟨w.heap.size, 0, none⟩ = some (.pointer (some t)) := by rw [<- hw1]; simp
 have n27 := isNilP ⟨w.heap.size, 0, none⟩ t w1 hp1
 have hg1 : w1.cell? ⟨0, 0, none⟩ = some (.iface 88 (.agg #[.pointer (some ⟨3, 29, none⟩)])) := hu1.cellEq hg
 have HS := hid (as_sz t ⟨w.heap.size, 0, none⟩ old e.size e (Nat.le_refl _) _ w1 (h.up hu1) hp1 (hu1.cellEq ht) (hu1.frozen (lt_of_cell ht) hf))
 rw [ho] at HS
 rw [<- hw1] at n27 hg1
 have HW := hid hw1
 clear hw1 h hg ht hf hp1 ho
 go_enter Tryd.func19, Tryd.ntmps19
 cases o with
 | none =>
   go_wp2_with fail
   rw [HW.out]
   refine HS.out.mono ?_
   rintro r wF ⟨rfl, hu⟩
   go_wp2_with fail
   go_ret
   exact ⟨rfl, hu1.trans hu⟩
 | some m =>
   go_wp2_with fail
   rw [HW.out]
   refine HS.out.mono ?_
   rintro r wF ⟨rfl, wX, hu, rfl⟩
   go_wp2_with fail
   go_ret
   exact ⟨rfl, wX, hu1.trans hu, rfl⟩
theorem idle_code (p : Addr) (w : World) : CallsD Tryd.prog 18 #[.pointer (some p)] .returning w fun e u' w' => e = .returned (.tuple #[]) /\ u' = .returning /\ w' = w := by
 refine callsD_of_wpS Tryd.func18 rfl fun c₀ cs hu => ?_
 apply wpS_seq
 apply wpS_region
 simp [wpOpsS, go_sem, recoverD, hu, Tryd.ntmps18, Exit.thenS]
 refine wpS_cond (t := false) (by simp [Act.eval, Array.replicate]) ?_
 simp only [Bool.false_eq_true, if_false]
 refine wpS_of_wp (wp_skip ?_)
 cases c₀
 simp_all [bodyPostS, results, Tryd.results18]
theorem code_any {e : Er} {v : Value} {w : World} (h : IsEr w v e) (hg : Glob w) :
   Calls Tryd.prog 10 #[v] w fun r w' => r = .returned (.int .i64 (e.first.getD 36)) /\ Up w w' := by
 obtain ⟨t1, v1, rfl⟩ := h.iface
 have hmf : ∀ (fn : Fn) (first cap : Array Value) (w : World), (Instr.makeFunc fn first cap).run Tryd.prog w = .ok (.func fn first cap) w := fun _ _ _ _ => rfl
 have hu0 : Up w (w.alloc (.cells #[.int .i64 0] 39)) := Up.alloc _ _
 have hB0 : Blk (w.alloc (.cells #[.int .i64 0] 39)) w.heap.size 39 #[.int .i64 0] := Blk.new _ _ rfl
 have HA := hid (as_any ⟨w.heap.size, 0, none⟩ (.int .i64 0) (h.up hu0) (hu0.cellEq hg) (by simp) (by simp))
 obtain ⟨o, ho⟩ : ∃ o, e.first = o := ⟨_, rfl⟩
 rw [ho] at HA ⊢
 clear ho h hg
 cases o with
 | none =>
   go_enter_defers Tryd.func10, Tryd.ntmps10
   go_wp2_with (first | (go_at_call 19; (with_reducible refine (HA.out).mono ?_); rintro r wA ⟨rfl, huA⟩; have hBA := hB0.up huA; have hcA := hBA.cell 0 rfl; have hfA := hBA.frozen 0))
   have hBF := hBA.set 0 (.int .i64 36)
   have hcF := hBF.cell 0 rfl
   have huF := (hu0.trans huA).setCell (p := ⟨w.heap.size, 0, none⟩) (Nat.le_refl _) (.int .i64 36)
   refine leaves_cons (f := 18) (args := #[.pointer (some ⟨w.heap.size, 0, none⟩)]) (by simp) (by simp [go_sem]) ?_
   refine (idle_code _ _).mono ?_
   rintro e u' w'' ⟨rfl, rfl, rfl⟩
   simp [Leaves, settle, results, Tryd.results10, go_sem, hcF]
   exact huF
 | some m =>
   go_enter_defers Tryd.func10, Tryd.ntmps10
   go_wp2_with (first | (go_at_call 19; (with_reducible refine (HA.out).mono ?_); rintro r wA ⟨rfl, wX, huA, rfl⟩; have hBX := (hB0.up huA).set 0 (.int .i64 m); have hcX := hBX.cell 0 rfl; have hfX := hBX.frozen 0))
   have hBF := hBX.set 0 (.int .i64 m)
   have hcF := hBF.cell 0 rfl
   have huF := ((hu0.trans huA).setCell (p := ⟨w.heap.size, 0, none⟩) (Nat.le_refl _) (.int .i64 m)).setCell (p := ⟨w.heap.size, 0, none⟩) (Nat.le_refl _) (.int .i64 m)
   refine leaves_cons (f := 18) (args := #[.pointer (some ⟨w.heap.size, 0, none⟩)]) (by simp) (by simp [go_sem]) ?_
   refine (idle_code _ _).mono ?_
   rintro e u' w'' ⟨rfl, rfl, rfl⟩
   simp [Leaves, settle, results, Tryd.results10, go_sem, hcF]
   exact huF
end Go.Proofs.YtbmlkimgjkdaiaaDoor
namespace Go.Proofs.YtbmlkimgjkdaiaaDoor
open Go Go.RowKit
set_option maxRecDepth 100000
theorem noSevN (v : Value) (xT : TypeId) (w : World) : (Instr.typeAssert (.iface 39 v) xT 114 true).run Tryd.prog w = .ok (.tuple #[.nilIface, .bool false]) w := run_typeAssert_lacksB Tryd.underlying114 (by kernel_rfl) (by kernel_rfl) v xT w
theorem isF (v : Value) (w : World) : (Instr.typeAssert (.iface 61 v) 29 61 true).run Tryd.prog w = .ok (.tuple #[v, .bool true]) w := by kernel_rfl
theorem notFN (v : Value) (w : World) : (Instr.typeAssert (.iface 39 v) 29 61 true).run Tryd.prog w = .ok (.tuple #[.pointer none, .bool false]) w := by kernel_rfl
theorem first_num (n : Int) (w : World) : Calls Tryd.prog 38 #[.iface 39 (.int .i64 n)] w fun r w' => r = .returned .nilIface /\ w' = w := by
 have h1 := noSevN
 go_enter Tryd.func38, Tryd.ntmps38
 go_wp2
 go_ret
 exact ⟨rfl, rfl⟩
def Out (w : World) (p : Value) : List ByteArray -> Prop
 | [] => p = .pointer none
 | op :: l => ∃ b u, p = .pointer (some ⟨b, 0, none⟩) /\ Blk w b 64 #[.string op, u] /\ ((u = .nilIface /\ l = []) \/ ∃ e, IsEr w u e /\ e.ops = l)
set_option maxHeartbeats 4000000 in
theorem out_any {e : Er} {v : Value} {w0 w : World} (h : IsEr w0 v e) (_hu0 : Up w0 w) :
   Calls Tryd.prog 25 #[v] w fun r w' => ∃ p, r = .returned p /\ Up w w' /\ Out w0 p e.ops := by
 obtain ⟨l, hl⟩ : ∃ l, e.ops = l := ⟨_, rfl⟩
 have HL := hid hl
 rw [hl]
 clear hl
 go_enter_defers Tryd.func25, Tryd.ntmps25
 go_wp2_with fail
 go_loopg [0] (e.size + 1) (fun g tv wr => ((tv = .nilIface /\ l = []) \/ (∃ t u x, tv = .iface t u /\ Er.size x + 1 <= g /\ x.ops = l /\ IsEr w0 (.iface t u) x)) /\ Up w wr)
 case atStart =>
  obtain ⟨t, u, rfl⟩ := h.iface
  exact ⟨.inr ⟨t, u, e, rfl, Nat.le_refl _, HL.out, h⟩, Up.refl _⟩
 case round =>
  clear HL h
  obtain ⟨h1 | ⟨t, u, x, rfl, hx, hxl, hX⟩, hu⟩ := hrel
  ·obtain ⟨rfl, rfl⟩ := h1
   go_wp2_with fail
   refine leaves_cons (f := 37) (args := #[]) (by simp) (by simp [go_sem]) ?_
   refine (idle_out _).mono ?_
   rintro e u' w'' ⟨rfl, rfl, rfl⟩
   exact ⟨_, results_tmp rfl _ _ _, _, rfl, hu, (by simp [Out])⟩
  ·have hF := isF
   have hN := notFN
   cases x with
   | num n =>
     obtain ⟨rfl, rfl⟩ : t = _ /\ u = _ := by simpa [IsEr] using hX
     have hnil : [] = l := hxl
     subst hnil
     go_wp2_with (first | (go_at_call 38; (with_reducible refine (first_num _ _).mono ?_); rintro r w' ⟨rfl, rfl⟩))
     go_roundg 0
     case measure => omega
     case rel => exact ⟨.inl (by simp), hu⟩
   | nilf op =>
     obtain ⟨b, hv, hB⟩ := hX
     obtain ⟨rfl, rfl⟩ : t = _ /\ u = _ := by simpa using hv
     have hl : [op] = l := hxl
     have HL := hid hl
     clear hl hxl hv
     go_wp2_with fail
     refine leaves_cons (f := 37) (args := #[]) (by simp) (by simp [go_sem]) ?_
     refine (idle_out _).mono ?_
     rintro e u' w'' ⟨rfl, rfl, rfl⟩
     exact ⟨_, results_tmp rfl _ _ _, _, rfl, hu, HL.out ▸ ⟨b, .nilIface, rfl, hB, .inl ⟨rfl, rfl⟩⟩⟩
   | flt op y =>
     obtain ⟨b, uu, hv, hB, hY⟩ := hX
     obtain ⟨rfl, rfl⟩ : t = _ /\ u = _ := by simpa using hv
     have hl : op :: y.ops = l := hxl
     have HL := hid hl
     have HY := hid hY
     clear hl hxl hv hY
     go_wp2_with fail
     refine leaves_cons (f := 37) (args := #[]) (by simp) (by simp [go_sem]) ?_
     refine (idle_out _).mono ?_
     rintro e u' w'' ⟨rfl, rfl, rfl⟩
     exact ⟨_, results_tmp rfl _ _ _, _, rfl, hu, HL.out ▸ ⟨b, uu, rfl, hB, .inr ⟨y, HY.out, rfl⟩⟩⟩
theorem out_nil (w : World) :
   Calls Tryd.prog 25 #[.nilIface] w fun r w' => r = .returned (.pointer none) /\ Up w w' := by
 go_enter_defers Tryd.func25, Tryd.ntmps25
 go_wp2_with fail
 refine wp_loop_rounds 1 ?_
 rw [rounds_succ]
 go_wp2_with fail
 refine leaves_cons (f := 37) (args := #[]) (by simp) (by simp [go_sem]) ?_
 refine (idle_out _).mono ?_
 rintro e u' w'' ⟨rfl, rfl, rfl⟩
 exact ⟨_, results_tmp rfl _ _ _, rfl, Up.refl _⟩
theorem undSS : Tryd.prog.underlying 48 = some (.slice 9) := by kernel_rfl
theorem infoStr : (Tryd.prog.info? 9).map (fun i => (i.zero, i.size, i.bytes)) = some (some (.string { data := #[] }), 1, 16) := by kernel_rfl
theorem appSP {ops : Array Oper} {rest : List Oper} {Q : Exit -> Act -> World -> Prop} {a : Act} {w : World} {d : Option Tmp} {s u : Tmp} {ty : TypeId} {pos : String} {af : Array Edge} {b n base : Nat} {v : Value} {xs : List Value} {op : ByteArray}
   (hs : a.eval (.tmp s) = v) (hu : a.eval (.tmp u) = .slice (some ⟨b, 0, none⟩) 1 1) (hB : w.cell? ⟨b, 0, none⟩ = some (.string op)) (hown : w.ownsRow base 9 1 v n xs) (hbase : base <= w.heap.size) (hn : n < 1000000)
   (h : ∀ v' w', w'.ownsRow base 9 1 v' (n + 1) (xs ++ [.string op]) -> Below base w w' -> wpList Tryd.prog ops Q rest (a.put d v') w') :
   wpList Tryd.prog ops Q ({ dst := d, op := .call { callee := .builtin .append, args := #[.tmp s, .tmp u], argTypes := #[48, 48] }, type := ty, pos := pos, after := af, guard := none } :: rest) a w := by
 obtain ⟨i0, hi0, he⟩ := Option.map_eq_some_iff.1 infoStr
 simp only [Prod.mk.injEq] at he
 have hlt := hown.lt
 refine wpList_append_own w rfl _ _ 48 rfl base 9 i0 (.string { data := #[] }) 1 16 undSS hi0 he.1 he.2.1 he.2.2 rfl (by decide) v n xs hs hown ⟨b, 0, none⟩ 1 1 [.string op] hu rfl ?_ ?_ (by unfold maxLen; omega) (by omega) hbase ?_
 ·intro j x hj
  cases j with
  | zero => simp only [List.getElem?_cons_zero, Option.some.injEq] at hj; subst hj; exact hB
  | succ j => simp at hj
 ·intro x hx; simp at hx; subst hx; rfl
 ·intro v' w' h1 h2 _
  refine h v' w' h1 ⟨h2.os, h2.tape, h2.output, h2.size, fun k hk => h2.block k (by omega) ?_⟩
  intro e
  have := hlt k e.symm
  omega
theorem _root_.Go.World.ownsRow.up {w w' : World} {base : Nat} {e : TypeId} {size : Nat} {v : Value} {n : Nat} {xs : List Value} (h : w.ownsRow base e size v n xs) (hu : Up w w') : w'.ownsRow base e size v n xs := by
 refine ⟨h.1, ?_⟩
 rcases h.2 with h2 | ⟨g, cap, cur, h1, h2, h3, h4⟩
 ·exact .inl h2
 ·exact .inr ⟨g, cap, cur, h1, h2, hu.row h3, h4⟩
set_option maxHeartbeats 4000000 in
theorem ops_any {e : Er} {v : Value} {w : World} (h : IsEr w v e) (hn : e.ops.length < 1000000) :
   Calls Tryd.prog 16 #[v] w fun r w' => ∃ s, r = .returned s /\ Up w w' /\ w'.ownsRow w.heap.size 9 1 s e.ops.length (e.ops.map Value.string) := by
 have HO := hid (fun w' (hu : Up w w') => out_any h hu)
 obtain ⟨l, hl⟩ : ∃ l, e.ops = l := ⟨_, rfl⟩
 rw [hl] at HO hn ⊢
 clear h hl
 go_enter Tryd.func16, Tryd.ntmps16
 go_wp2_with (first | (go_at_call 25; (with_reducible refine (HO.out _ (Up.refl _)).mono ?_); rintro r wA ⟨p, rfl, huA, hA⟩))
 go_loopg [3, 4] l.length (fun k ts tp wr => ∃ d r : List ByteArray, d ++ r = l /\ r.length <= k /\ wr.ownsRow w.heap.size 9 1 ts d.length (d.map Value.string) /\ Out w tp r /\ Up w wr)
 case atStart => exact ⟨[], l, rfl, Nat.le_refl _, World.ownsRow_nil _ _ _ _, hA, huA⟩
 case round =>
  clear hA huA
  obtain ⟨d, r, hdr, hrk, hown, hO, hu⟩ := hrel
  cases r with
  | nil =>
    simp only [Out] at hO
    subst hO
    rw [List.append_nil] at hdr
    subst hdr
    have HW := hid hown
    clear hown
    go_wp2_with fail
    go_ret
    exact ⟨_, rfl, hu, HW.out⟩
  | cons op r =>
    obtain ⟨b, u, rfl, hB, h3⟩ := hO
    have hsz := hu.size
    have hc0 := (hB.up hu).cell 0 rfl
    have hdl : d.length + (r.length + 1) = l.length := by rw [<- hdr]; simp
    have hr1 : r.length + 1 <= gk := hrk
    have HDR := hid (show (d ++ [op]) ++ r = l by rw [<- hdr]; simp)
    clear hdr hrk
    rcases h3 with ⟨rfl, rfl⟩ | ⟨x, hx, rfl⟩
    ·go_wp2_with (first | ((with_reducible apply appSP (op := op)); exact rfl; exact rfl; (focus (simp; done)); exact hown.alloc _; (focus (simp; omega)); omega; rintro v' w' h1 h2; have hu2 : Up w w' := Below.trans (hu.trans (Up.alloc _ _)) h2; have hc1 := (hB.up hu2).cell 1 rfl) | (go_at_call 25; (with_reducible refine (out_nil _).mono ?_); rintro r wB ⟨rfl, huB⟩))
     go_roundg 0
     case measure => omega
     case rel => exact ⟨d ++ [op], [], HDR.out, Nat.le_refl _, by simpa using h1.up huB, rfl, hu2.trans huB⟩
    ·have HO2 := hid (fun w' (hu : Up w w') => out_any hx hu)
     go_wp2_with (first | ((with_reducible apply appSP (op := op)); exact rfl; exact rfl; (focus (simp; done)); exact hown.alloc _; (focus (simp; omega)); omega; rintro v' w' h1 h2; have hu2 : Up w w' := Below.trans (hu.trans (Up.alloc _ _)) h2; have hc1 := (hB.up hu2).cell 1 rfl) | (go_at_call 25; (with_reducible refine (HO2.out _ hu2).mono ?_); rintro r wB ⟨p, rfl, huB, hOB⟩))
     go_roundg x.ops.length
     case measure => omega
     case rel => exact ⟨d ++ [op], x.ops, HDR.out, Nat.le_refl _, by simpa using h1.up huB, hOB, hu2.trans huB⟩
theorem globUp {w w' : World} (h : Glob w) (hu : Up w w') : Glob w' := hu.cellEq h
theorem ownOne {w : World} {base : Nat} {t : TypeId} {s x : Value} (h : w.ownsRow base t 1 s 1 [x]) : ∃ g cap C, s = .slice (some ⟨g, 0, none⟩) 1 cap /\ Blk w g t C /\ C[0]? = some x := by
 obtain ⟨_, h0 | ⟨g, cap, cur, rfl, _, hb, _, _, hsz, htake⟩⟩ := h
 ·exact absurd h0.2 (by decide)
 ·refine ⟨g, cap, cur, rfl, hb, ?_⟩
  rw [<- Array.getElem?_toList, <- List.getElem?_take_of_lt (show 0 < 1 * 1 by decide), htake]; rfl
def ErrsG (B : ByteArray) (w : World) (u : Value) (e : Int) : Prop := (e = 0 /\ u = .nilIface) \/ (e ≠ 0 /\ ∃ t x, u = .iface t x /\ IsEr w u (.flt B (.num e)))
theorem ErrsG.up {B : ByteArray} {w w' : World} (hu : Up w w') {u : Value} {e : Int} (h : ErrsG B w u e) : ErrsG B w' u e := by
 rcases h with h | ⟨h1, t, x, h2, h3⟩
 ·exact .inl h
 ·exact .inr ⟨h1, t, x, h2, h3.up hu⟩
theorem ErrsG.none (B : ByteArray) (w : World) : ErrsG B w .nilIface 0 := .inl ⟨rfl, rfl⟩
def nv (a b c : Int) : Int := (2 * (a * b) + c) / (2 * c)
theorem nv_bound {a b c M : Int} (hc : 0 < c) (h1 : -M <= a * b) (h2 : a * b <= M) : -M <= nv a b c /\ nv a b c <= M + 1 := by
 unfold nv
 generalize a * b = p at *
 have e1 := Int.ediv_mul_add_emod (2 * p + c) (2 * c)
 have e2 := Int.emod_nonneg (2 * p + c) (show 2 * c ≠ 0 by omega)
 have e3 := Int.emod_lt_of_pos (2 * p + c) (show 0 < 2 * c by omega)
 generalize (2 * p + c) / (2 * c) = q at *
 generalize (2 * p + c) % (2 * c) = r at *
 constructor
 ·rcases Int.lt_or_le q (-M) with hq | hq
  ·have h7 : (q + 1) * (2 * c) <= (q + 1) * 2 := Int.mul_le_mul_of_nonpos_left (by omega) (by omega)
   rw [Int.add_mul, Int.one_mul] at h7
   omega
  ·exact hq
 ·rcases Int.lt_or_le (M + 1) q with hq | hq
  ·have h6 : (q - 1) * 2 <= (q - 1) * (2 * c) := Int.mul_le_mul_of_nonneg_left (by omega) (by omega)
   rw [Int.sub_mul q 1 (2 * c), Int.one_mul] at h6
   omega
  ·exact hq
noncomputable def sq (n : Nat) : Nat := Classical.choose (root_ex n)
theorem sq_spec (n : Nat) : sq n * sq n <= n /\ n < (sq n + 1) * (sq n + 1) := Classical.choose_spec (root_ex n)
theorem sq_is {n r : Nat} (h1 : r * r <= n) (h2 : n < (r + 1) * (r + 1)) : sq n = r := by
 obtain ⟨a, b⟩ := sq_spec n
 rcases Nat.lt_trichotomy (sq n) r with h | h | h
 ·have := Nat.mul_le_mul (show sq n + 1 <= r from h) (show sq n + 1 <= r from h); omega
 ·exact h
 ·have := Nat.mul_le_mul (show r + 1 <= sq n from h) (show r + 1 <= sq n from h); omega
end Go.Proofs.YtbmlkimgjkdaiaaDoor
