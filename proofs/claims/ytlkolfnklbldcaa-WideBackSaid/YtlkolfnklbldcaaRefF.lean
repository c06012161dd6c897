/-
  The reference's products of amounts.
-/
import Derived.Test.YtlkolfnklbldcaaRefD
namespace Go.Proofs.Ytlkolfnklbldcaa
open Go Go.RowKit
set_option maxRecDepth 100000

theorem mul64_up (x y : Nat) (hx : x < 18446744073709551616) (hy : y < 18446744073709551616) {h l : Nat} (eh : h = x * y / 18446744073709551616) (el : l = x * y % 18446744073709551616) (w : World) :
    Calls Try.prog 60 #[.int .u64 x, .int .u64 y] w fun e w' => e = .returned (.tuple #[.int .u64 (h : Nat), .int .u64 (l : Nat)]) ∧ Up w w' := by
  refine (Try.bits_Mul64 x y hx hy w).mono ?_
  rintro e w' ⟨rfl, rfl⟩
  exact ⟨by rw [eh, el], Up.refl _⟩
set_option maxHeartbeats 2000000 in
theorem times_am {x y : Nat} {va vb : Value} {w : World} (ha : Am w va x) (hb : Am w vb y) (hx : nl x < 100000) (hy : nl y < 100000) :
    Calls Try.prog 49 #[va, vb] w fun e w' => Up w w' ∧ ∃ v, e = .returned v ∧ Am w' v (x * y) := by
  obtain ⟨a, ca, rfl, hca1, hca0⟩ := ha.open
  obtain ⟨b, cb, rfl, hcb1, hcb0⟩ := hb.open
  have HSX := hid (sum_nl x)
  have HSY := hid (sum_nl y)
  clear ha hb
  generalize nl x = n at *
  generalize nl y = m at *
  go_enter Try.func49, Try.ntmps49
  go_wp2_with (first | ((with_reducible apply mkP (n := n + m)); exact rfl; (first | rfl | omega); omega))
  go_loopw [6] (fun ti wr => ∃ (i : Nat) (S : Nat → Nat), i ≤ n ∧ ti = .int .i64 (i : Nat) ∧ (∀ j, j < n + m → S j < 18446744073709551616) ∧ sumL S (n + m) = sumL (limb x) i * sumL (limb y) m ∧ (∀ j, i + m ≤ j → j < n + m → S j = 0) ∧ Row wr w.heap.size 25 (n + m) S ∧ Below w.heap.size w wr)
    (fun ti _ => n - (intOf ti).toNat)
  case atStart => exact ⟨0, fun _ => 0, by omega, rfl, fun _ _ => by simp, by rw [sumL_zero, Nat.zero_mul]; exact sumL_zeros _, fun _ _ _ => rfl, row_newc _ _ _ rfl, (by repeat (first | assumption | (with_reducible exact Below.refl _ _) | ((with_reducible apply bl_alloc); (focus (first | exact Nat.le_refl _ | (simp; done) | (simp; omega) | omega)))))⟩
  case round =>
    obtain ⟨i, S, hi, rfl, hSb, hsum, hz, hM, hB⟩ := hrel
    have HSb := hid hSb
    have Hsum := hid hsum
    have Hz := hid hz
    clear hSb hsum hz
    obtain ⟨wo, rfl⟩ : ∃ wo : World, wo = wr := ⟨_, rfl⟩
    by_cases hlt : i < n
    · obtain ⟨ba, rfl, hba, hca⟩ := hca0 i hlt
      go_wp2
      go_loopw [7, 8] (fun tc tk wi => ∃ (k c : Nat) (S' : Nat → Nat), k ≤ m ∧ tk = .int .i64 (k : Nat) ∧ tc = .int .u64 (c : Nat) ∧ c < 18446744073709551616 ∧ (∀ j, j < n + m → S' j < 18446744073709551616) ∧
          sumL S' (n + m) + c * (bp i * bp k) = sumL (limb x) i * sumL (limb y) m + limb x i * bp i * sumL (limb y) k ∧ (∀ j, i + m ≤ j → j < n + m → S' j = 0) ∧ Row wi w.heap.size 25 (n + m) S' ∧ Below w.heap.size w wi)
        (fun _ tk _ => m - (intOf tk).toNat)
      case atStart => exact ⟨0, 0, S, by omega, rfl, rfl, by omega, HSb.out, by rw [sumL_zero, Hsum.out]; omega, Hz.out, hM, hB⟩
      case round =>
        clear hM hB HSb Hsum Hz
        obtain ⟨k, c, S', hk, rfl, rfl, hc, hSb, hsum, hz, hM, hB⟩ := hrel
        have HSb := hid hSb
        have Hsum := hid hsum
        have Hz := hid hz
        clear hSb hsum hz
        by_cases hkt : k < m
        · obtain ⟨bb, rfl, hbb, hcb⟩ := hcb0 k hkt
          have hcx := hca _ hB
          have hcy := hcb _ hB
          obtain ⟨h, eh⟩ : ∃ h, h = limb x i * limb y k / 18446744073709551616 := ⟨_, rfl⟩
          obtain ⟨l, el⟩ : ∃ l, l = limb x i * limb y k % 18446744073709551616 := ⟨_, rfl⟩
          have hlx' := limb_lt x i
          have hly' := limb_lt y k
          have HM := hid (fun w => mul64_up _ _ hlx' hly' eh el w)
          have hsk := HSb.out (i + k) (by omega)
          obtain ⟨r1, c1, HA, e1, f1⟩ : ∃ r c : Nat, (∀ w, (callFunc 39 #[.int .u64 (l : Nat), .int .u64 (S' (i + k) : Nat), .int .u64 0]).run Try.prog w = .ok (.value (.tuple #[.int .u64 (r : Nat), .int .u64 (c : Nat)])) w) ∧
            r = (l + S' (i + k) + 0) % 18446744073709551616 ∧ c = (l + S' (i + k) + 0) / 18446744073709551616 := ⟨_, _, run_add l (S' (i + k)) 0 (by omega), rfl, rfl⟩
          obtain ⟨r2, c2, HA2, e2, f2⟩ : ∃ r cc : Nat, (∀ w, (callFunc 39 #[.int .u64 (r1 : Nat), .int .u64 (c : Nat), .int .u64 0]).run Try.prog w = .ok (.value (.tuple #[.int .u64 (r : Nat), .int .u64 (cc : Nat)])) w) ∧
            r = (r1 + c + 0) % 18446744073709551616 ∧ cc = (r1 + c + 0) / 18446744073709551616 := ⟨_, _, run_add r1 c 0 (by omega), rfl, rfl⟩
          obtain ⟨g1, g2, g3⟩ := step_arith hlx' hly' hsk hc eh el e1 f1 e2 f2
          obtain ⟨hr, hc', hrc⟩ := step_bound hlx' hly' hsk hc g2 g3
          have Hrc := hid hrc
          obtain ⟨h1, eh1⟩ : ∃ h1, h1 = h + c1 := ⟨_, rfl⟩
          obtain ⟨h2, eh2⟩ : ∃ h2, h2 = h1 + c2 := ⟨_, rfl⟩
          have w1 : IntKind.u64.wrap ((h : Int) + c1) = (h1 : Nat) := by rw [IntKind.wrap_u64]; omega
          have w2 : IntKind.u64.wrap ((h1 : Int) + c2) = (h2 : Nat) := by rw [IntKind.wrap_u64]; omega
          have hh2 : h2 < 18446744073709551616 := by omega
          have Hh2 := hid (show h + c1 + c2 = h2 by omega)
          clear e1 f1 e2 f2 g1 g2 g3 hrc eh el eh1 eh2 hc'
          go_wp2
          refine wp_region_upS (S := (fun wq => Row wq w.heap.size 25 (n + m) S' ∧ wq.cell? ⟨ba, i, none⟩ = some (.int .u64 (limb x i : Nat)) ∧ wq.cell? ⟨bb, k, none⟩ = some (.int .u64 (limb y k : Nat)) ∧ Below w.heap.size w wq)) (req := (fun _ => true)) (by kernel_rfl) (fun _ _ h hu => ⟨(h.1).up hu, hu.cell (h.2.1), hu.cell (h.2.2.1), below_up (h.2.2.2) hu⟩) ⟨(by (repeat (first | assumption | ((with_reducible apply row_newc); (focus (first | rfl | (simp; done)))) | ((with_reducible apply row_newz); (focus (first | rfl | (simp; done)))) | (with_reducible apply row_same) | ((with_reducible apply row_else); (focus (first | (simp; done) | (simp; omega) | omega))) | (with_reducible apply row_alloc) | (with_reducible apply row_drew) | (with_reducible apply row_drewN) | ((with_reducible apply row_up); assumption)))), (by first | assumption | (apply Blk.cell; (focus (repeat (first | assumption | ((with_reducible apply blk_new); (focus (first | rfl | (simp; done)))) | (with_reducible apply blk_alloc) | (with_reducible apply blk_drew) | (with_reducible apply blk_drewN) | ((with_reducible apply blk_up); assumption) | (with_reducible apply blk_same) | ((with_reducible apply blk_else); (focus (first | (simp; done) | (simp; omega) | omega)))))); exact rfl)), (by first | assumption | (apply Blk.cell; (focus (repeat (first | assumption | ((with_reducible apply blk_new); (focus (first | rfl | (simp; done)))) | (with_reducible apply blk_alloc) | (with_reducible apply blk_drew) | (with_reducible apply blk_drewN) | ((with_reducible apply blk_up); assumption) | (with_reducible apply blk_same) | ((with_reducible apply blk_else); (focus (first | (simp; done) | (simp; omega) | omega)))))); exact rfl)), (by repeat (first | assumption | (with_reducible apply Up.of) | (with_reducible exact Below.refl _ _) | (with_reducible exact Up.refl _) | ((with_reducible apply bl_setRow); (focus (first | exact Nat.le_refl _ | (simp; done) | (simp; omega) | omega))) | (with_reducible apply below_drewN) | (with_reducible apply Below.drew) | ((with_reducible apply bl_alloc); (focus (first | exact Nat.le_refl _ | (simp; done) | (simp; omega) | omega))) | ((with_reducible apply bl_setCell); (focus (first | exact Nat.le_refl _ | (simp; done) | (simp; omega) | omega))) | ((with_reducible apply up_tr); assumption)))⟩ (fun wS hSS => ?_)
          have ⟨hS1, hS2, hS3, hSB⟩ := hSS
          clear hcx hcy hM hB
          refine wpAnyU_pure (i := 0) (d := (some 31)) (v := ?_) rfl rfl (by kernel_rfl) (fun _ _ _ h => h) (fun _ _ h hu => ⟨(h.1).up hu, hu.cell (h.2.1), hu.cell (h.2.2.1), below_up (h.2.2.2) hu⟩) (Or.inl ⟨by rfl, fun w' _ => yu_value ?_⟩) ?_
          rotate_left
          · (go_simp; (try exact rfl))
          try simp only [Act.put, List.setIfInBounds_toArray, List.set_cons_zero, List.set_cons_succ]
          refine wpAnyU_pure (i := 1) (d := (some 32)) (v := ?_) rfl rfl (by kernel_rfl) (fun _ _ _ h => h) (fun _ _ h hu => ⟨(h.1).up hu, hu.cell (h.2.1), hu.cell (h.2.2.1), below_up (h.2.2.2) hu⟩) (Or.inl ⟨by rfl, fun w' _ => yu_value ?_⟩) ?_
          rotate_left
          · (go_simp; (try exact rfl))
          try simp only [Act.put, List.setIfInBounds_toArray, List.set_cons_zero, List.set_cons_succ]
          refine wpAnyU_pure (i := 2) (d := (some 33)) (v := ?_) rfl rfl (by kernel_rfl) (fun _ _ _ h => h) (fun _ _ h hu => ⟨(h.1).up hu, hu.cell (h.2.1), hu.cell (h.2.2.1), below_up (h.2.2.2) hu⟩) (Or.inl ⟨by rfl, fun w' _ => yu_value ?_⟩) ?_
          rotate_left
          · (go_simp; (try exact rfl))
          try simp only [Act.put, List.setIfInBounds_toArray, List.set_cons_zero, List.set_cons_succ]
          refine wpAnyU_take (i := 3) (d := (some 34)) (v := ?_) rfl rfl (by kernel_rfl) (fun _ _ _ h => h) (fun _ _ h hu => ⟨(h.1).up hu, hu.cell (h.2.1), hu.cell (h.2.2.1), below_up (h.2.2.2) hu⟩) hSS (Or.inl ⟨by rfl, fun w' hSw => yu_value ?_⟩) ?_
          rotate_left
          · ((try dsimp only at hSw); (try obtain ⟨_, _, _, _⟩ := hSw); go_simp; (try exact rfl))
          try simp only [Act.put, List.setIfInBounds_toArray, List.set_cons_zero, List.set_cons_succ]
          refine wpAnyU_pure (i := 4) (d := (some 35)) (v := ?_) rfl rfl (by kernel_rfl) (fun _ _ _ h => h) (fun _ _ h hu => ⟨(h.1).up hu, hu.cell (h.2.1), hu.cell (h.2.2.1), below_up (h.2.2.2) hu⟩) (Or.inl ⟨by rfl, fun w' _ => yu_value ?_⟩) ?_
          rotate_left
          · (go_simp; (try exact rfl))
          try simp only [Act.put, List.setIfInBounds_toArray, List.set_cons_zero, List.set_cons_succ]
          refine wpAnyU_pure (i := 5) (d := (some 36)) (v := ?_) rfl rfl (by kernel_rfl) (fun _ _ _ h => h) (fun _ _ h hu => ⟨(h.1).up hu, hu.cell (h.2.1), hu.cell (h.2.2.1), below_up (h.2.2.2) hu⟩) (Or.inl ⟨by rfl, fun w' _ => yu_value ?_⟩) ?_
          rotate_left
          · (go_simp; (try exact rfl))
          try simp only [Act.put, List.setIfInBounds_toArray, List.set_cons_zero, List.set_cons_succ]
          refine wpAnyU_pure (i := 6) (d := (some 37)) (v := ?_) rfl rfl (by kernel_rfl) (fun _ _ _ h => h) (fun _ _ h hu => ⟨(h.1).up hu, hu.cell (h.2.1), hu.cell (h.2.2.1), below_up (h.2.2.2) hu⟩) (Or.inl ⟨by rfl, fun w' _ => yu_value ?_⟩) ?_
          rotate_left
          · (go_simp; (try exact rfl))
          try simp only [Act.put, List.setIfInBounds_toArray, List.set_cons_zero, List.set_cons_succ]
          refine wpAnyU_take (i := 7) (d := (some 38)) (v := ?_) rfl rfl (by kernel_rfl) (fun _ _ _ h => h) (fun _ _ h hu => ⟨(h.1).up hu, hu.cell (h.2.1), hu.cell (h.2.2.1), below_up (h.2.2.2) hu⟩) hSS (Or.inl ⟨by rfl, fun w' hSw => yu_value ?_⟩) ?_
          rotate_left
          · ((try dsimp only at hSw); (try obtain ⟨_, _, _, _⟩ := hSw); go_simp; (try exact rfl))
          try simp only [Act.put, List.setIfInBounds_toArray, List.set_cons_zero, List.set_cons_succ]
          refine wpAnyU_take (i := 8) (d := (some 39)) (v := _) rfl rfl (by kernel_rfl) (fun _ _ _ h => h) (fun _ _ h hu => ⟨(h.1).up hu, hu.cell (h.2.1), hu.cell (h.2.2.1), below_up (h.2.2.2) hu⟩) hSS (Or.inl ⟨by rfl, fun w' hSw => yu_call ?_ (HM.out _)⟩) ?_
          · go_simp
          try simp only [Act.put, List.setIfInBounds_toArray, List.set_cons_zero, List.set_cons_succ]
          refine wpAnyU_pure (i := 9) (d := (some 30)) (v := ?_) rfl rfl (by kernel_rfl) (fun _ _ _ h => h) (fun _ _ h hu => ⟨(h.1).up hu, hu.cell (h.2.1), hu.cell (h.2.2.1), below_up (h.2.2.2) hu⟩) (Or.inl ⟨by rfl, fun w' _ => yu_value ?_⟩) ?_
          rotate_left
          · (go_simp; (try exact rfl))
          try simp only [Act.put, List.setIfInBounds_toArray, List.set_cons_zero, List.set_cons_succ]
          refine wpAnyU_pure (i := 10) (d := (some 40)) (v := ?_) rfl rfl (by kernel_rfl) (fun _ _ _ h => h) (fun _ _ h hu => ⟨(h.1).up hu, hu.cell (h.2.1), hu.cell (h.2.2.1), below_up (h.2.2.2) hu⟩) (Or.inl ⟨by rfl, fun w' _ => yu_value ?_⟩) ?_
          rotate_left
          · (go_simp; (try exact rfl))
          try simp only [Act.put, List.setIfInBounds_toArray, List.set_cons_zero, List.set_cons_succ]
          refine wpAnyU_pure (i := 11) (d := (some 41)) (v := ?_) rfl rfl (by kernel_rfl) (fun _ _ _ h => h) (fun _ _ h hu => ⟨(h.1).up hu, hu.cell (h.2.1), hu.cell (h.2.2.1), below_up (h.2.2.2) hu⟩) (Or.inl ⟨by rfl, fun w' _ => yu_value ?_⟩) ?_
          rotate_left
          · (go_simp; (try exact rfl))
          try simp only [Act.put, List.setIfInBounds_toArray, List.set_cons_zero, List.set_cons_succ]
          refine wpAnyU_pure (i := 12) (d := (some 9)) (v := ?_) rfl rfl (by kernel_rfl) (fun _ _ _ h => h) (fun _ _ h hu => ⟨(h.1).up hu, hu.cell (h.2.1), hu.cell (h.2.2.1), below_up (h.2.2.2) hu⟩) (Or.inl ⟨by rfl, fun w' _ => yu_value ?_⟩) ?_
          rotate_left
          · (go_simp; (try exact rfl))
          try simp only [Act.put, List.setIfInBounds_toArray, List.set_cons_zero, List.set_cons_succ]
          refine wpAnyU_pure (i := 13) (d := (some 10)) (v := ?_) rfl rfl (by kernel_rfl) (fun _ _ _ h => h) (fun _ _ h hu => ⟨(h.1).up hu, hu.cell (h.2.1), hu.cell (h.2.2.1), below_up (h.2.2.2) hu⟩) (Or.inl ⟨by rfl, fun w' _ => yu_value ?_⟩) ?_
          rotate_left
          · (go_simp; (try exact rfl))
          try simp only [Act.put, List.setIfInBounds_toArray, List.set_cons_zero, List.set_cons_succ]
          refine wpAnyU_done (by kernel_rfl) (fun wE huE => ?_) _
          have ⟨hS1, hS2, hS3, hSB⟩ := ((fun _ _ h hu => ⟨(h.1).up hu, hu.cell (h.2.1), hu.cell (h.2.2.1), below_up (h.2.2.2) hu⟩) : ∀ w1 w2 : World, (fun wq => Row wq w.heap.size 25 (n + m) S' ∧ wq.cell? ⟨ba, i, none⟩ = some (.int .u64 (limb x i : Nat)) ∧ wq.cell? ⟨bb, k, none⟩ = some (.int .u64 (limb y k : Nat)) ∧ Below w.heap.size w wq) w1 → Up w1 w2 → (fun wq => Row wq w.heap.size 25 (n + m) S' ∧ wq.cell? ⟨ba, i, none⟩ = some (.int .u64 (limb x i : Nat)) ∧ wq.cell? ⟨bb, k, none⟩ = some (.int .u64 (limb y k : Nat)) ∧ Below w.heap.size w wq) w2) _ _ hSS huE
          clear huE hSS
          have E2 : ((i : Int) + (k : Int)).toNat = i + k := by omega
          have E3 : ((n + m : Nat) : Int) = (n : Int) + m := by omega
          have hik : (i : Int) + (k : Int) < (n : Int) + m := by omega
          have hcs := hS1.cell (i + k) (by omega)
          have hfs := hS1.frozen (i + k)
          have gM := hS1.set (i + k) r2
          have gB := hSB.setCell (p := ⟨w.heap.size, i + k, none⟩) (Nat.le_refl _) (.int .u64 (r2 : Nat))
          clear hS1 hS2 hS3 hSB
          go_wp2
          go_roundw
          case rel =>
            refine ⟨k + 1, h2, upd S' (i + k) r2, by omega, by go_num, rfl, hh2, upd_lt HSb.out hr, ?_, fun j h1 h2 => by rw [upd_other _ _ _ (by omega)]; exact Hz.out j h1 h2, gM, gB⟩
            have hu := sumL_upd S' r2 (show i + k < n + m by omega)
            have hr' := Hrc.out
            rw [bp_add] at hu
            rw [Hh2.out] at hr'
            rw [bp_succ, sumL_succ (limb y) k, ← Nat.mul_assoc (bp i)]
            exact times_step Hsum.out hu hr'
          case measure => simp [intOf] <;> omega
        · obtain rfl : k = m := by omega
          have E2 : ((i : Int) + (k : Int)).toNat = i + k := by omega
          have E3 : ((n + k : Nat) : Int) = (n : Int) + k := by omega
          have hik : (i : Int) + (k : Int) < (n : Int) + k := by omega
          have hcs := hM.cell (i + k) (by omega)
          have hfs := hM.frozen (i + k)
          have gM := hM.set (i + k) c
          have gB := hB.setCell (p := ⟨w.heap.size, i + k, none⟩) (Nat.le_refl _) (.int .u64 (c : Nat))
          clear hM hB
          go_wp2
          go_roundw
          case rel =>
            refine ⟨i + 1, upd S' (i + k) c, by omega, by go_num, upd_lt HSb.out hc, ?_, fun j h1 h2 => by rw [upd_other _ _ _ (by omega)]; exact Hz.out j (by omega) h2, gM, gB⟩
            have h2 := sumL_upd S' c (show i + k < n + k by omega)
            have h3 := Hz.out (i + k) (Nat.le_refl _) (by omega)
            have h4 := Hsum.out
            rw [bp_add, h3, Nat.zero_mul, Nat.add_zero] at h2
            rw [h2, sumL_succ (limb x) i, Nat.add_mul]
            exact h4
          case measure => simp [intOf] <;> omega
    · obtain rfl : i = n := by omega
      have he := Hsum.out
      rw [HSX.out, HSY.out] at he
      have ht := trim_row w.heap.size (i + m) (i + m) (i + m) S wo hM (Nat.le_refl _) (Nat.le_refl _) (by omega)
      have hres := am_row (c := i + m) hM (Nat.le_refl _) (Nat.le_refl _) HSb.out
      rw [he] at hres
      have HT := hid ht
      have HR := hid hres
      clear ht hres he HSb Hsum Hz hM
      go_wp2_with (go_at_call 38; (with_reducible refine HT.out.mono ?_); rintro e w' ⟨rfl, hu⟩)
      go_ret
      exact ⟨below_up hB hu, _, rfl, HR.out.up hu⟩
end Go.Proofs.Ytlkolfnklbldcaa
