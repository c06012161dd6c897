/-
  The reference's quotients by one limb.
-/
import Derived.Test.YtiocolbaencbkaaRefI
import Derived.Test.YtiocolbaencbkaaShort
namespace Go.Proofs.Ytiocolbaencbkaa
open Go Go.RowKit
set_option maxRecDepth 100000

theorem over_step {x Q y r b L X q r' : Nat} (h : x = Q * y + r * (b * 18446744073709551616) + (L + X * b)) (hq : y * q + r' = 18446744073709551616 * r + X) : x = (Q + q * b) * y + r' * b + L := by
  have h2 : (y * q + r') * b = (18446744073709551616 * r + X) * b := by rw [hq]
  have h3 : (Q + q * b) * y + r' * b = Q * y + (y * q + r') * b := by grind
  have h4 : (18446744073709551616 * r + X) * b = r * (b * 18446744073709551616) + X * b := by grind
  rw [h, h3, h2, h4]
  omega
set_option maxHeartbeats 2000000 in
theorem over_am {x y : Nat} {va vb : Value} {w : World} (ha : Am w va x) (hb : Am w vb y) (hx : nl x < 100000) (hy : nl y = 1) :
    Calls Try.prog 76 #[va, vb] w fun e w' => Up w w' ∧ ∃ a n c b m d, e = .returned (.tuple #[.slice a n c, .slice b m d]) ∧ Am w' (.slice a n c) (x / y) ∧ Am w' (.slice b m d) (x % y) := by
  obtain ⟨a, ca, rfl, hca1, hca0⟩ := ha.open
  obtain ⟨b, cb, rfl, hcb1, hcb0⟩ := hb.open
  obtain ⟨hy64, hy0, hyl⟩ := nl_one hy
  have HC := hid (fun w' (h : Up w w') => cmp_am (ha.up h) (hb.up h) (by omega) (by omega))
  by_cases hlt : x < y
  · have hA := hid ha
    have e1 : x / y = 0 := Nat.div_eq_of_lt hlt
    have e2 : x % y = x := Nat.mod_eq_of_lt hlt
    have d1 : decide (ordZ x y < 0) = true := by unfold ordZ; rw [if_pos hlt]; rfl
    rw [e1, e2]
    rw [hy] at HC hcb1 ⊢
    clear ha hb e1 e2 hca0 hcb0 hy
    go_enter Try.func76, Try.ntmps76
    go_wp2_with (first | (go_at_call 69; (with_reducible refine (HC.out _ (by repeat (first | assumption | (with_reducible apply Up.of) | (with_reducible exact Below.refl _ _) | (with_reducible exact Up.refl _) | ((with_reducible apply bl_setRow); (focus (first | exact Nat.le_refl _ | (simp; done) | (simp; omega) | omega))) | (with_reducible apply below_drewN) | (with_reducible apply Below.drew) | ((with_reducible apply bl_alloc); (focus (first | exact Nat.le_refl _ | (simp; done) | (simp; omega) | omega))) | ((with_reducible apply bl_setCell); (focus (first | exact Nat.le_refl _ | (simp; done) | (simp; omega) | omega))) | ((with_reducible apply up_tr); assumption)))).mono ?_); rintro e wC ⟨rfl, huC⟩))
    go_ret2
    exact ⟨(by repeat (first | assumption | (with_reducible apply Up.of) | (with_reducible exact Below.refl _ _) | (with_reducible exact Up.refl _) | ((with_reducible apply bl_setRow); (focus (first | exact Nat.le_refl _ | (simp; done) | (simp; omega) | omega))) | (with_reducible apply below_drewN) | (with_reducible apply Below.drew) | ((with_reducible apply bl_alloc); (focus (first | exact Nat.le_refl _ | (simp; done) | (simp; omega) | omega))) | ((with_reducible apply bl_setCell); (focus (first | exact Nat.le_refl _ | (simp; done) | (simp; omega) | omega))) | ((with_reducible apply up_tr); assumption))), _, _, _, _, _, _, rfl, am_nil _, hA.out.up huC⟩
  · have d1 : decide (ordZ x y < 0) = false := by
      unfold ordZ
      rw [if_neg hlt]
      split <;> simp
    obtain ⟨bb, rfl, hbb, hcb⟩ := hcb0 0 (by omega)
    rw [hyl] at hcb
    rw [hy] at HC hcb1 ⊢
    have hsx := sum_nl x
    have hn0 : 0 < nl x := nl_pos (by omega)
    have HSX := hid hsx
    have HXA := hid (nl_le (x := x) (k := nl x) (lt_bp_nl x))
    clear ha hb hsx hcb0 HXA hy
    generalize nl x = n at *
    go_enter Try.func76, Try.ntmps76
    go_wp2_with (first | (go_at_call 69; (with_reducible refine (HC.out _ (by repeat (first | assumption | (with_reducible apply Up.of) | (with_reducible exact Below.refl _ _) | (with_reducible exact Up.refl _) | ((with_reducible apply bl_setRow); (focus (first | exact Nat.le_refl _ | (simp; done) | (simp; omega) | omega))) | (with_reducible apply below_drewN) | (with_reducible apply Below.drew) | ((with_reducible apply bl_alloc); (focus (first | exact Nat.le_refl _ | (simp; done) | (simp; omega) | omega))) | ((with_reducible apply bl_setCell); (focus (first | exact Nat.le_refl _ | (simp; done) | (simp; omega) | omega))) | ((with_reducible apply up_tr); assumption)))).mono ?_); rintro e wC ⟨rfl, huC⟩) | ((with_reducible apply mkP (n := n)); exact rfl; (first | rfl | omega); omega))
    have hsC := huC.size
    go_loopw [8, 9] (fun tr ti wr => ∃ (m r : Nat) (S : Nat → Nat), m ≤ n ∧ ti = .int .i64 ((m : Int) - 1) ∧ tr = .int .u64 (r : Nat) ∧ r < y ∧ (∀ j, j < n → S j < 18446744073709551616) ∧ (∀ j, j < m → S j = 0) ∧ x = sumL S n * y + r * bp m + sumL (limb x) m ∧
        Row wr wC.heap.size 25 n S ∧ Below w.heap.size w wr)
      (fun _ ti _ => (intOf ti + 1).toNat)
    case atStart => exact ⟨n, 0, fun _ => 0, Nat.le_refl _, rfl, rfl, hy0, fun _ _ => by simp, fun _ _ => rfl, by rw [sumL_zeros, HSX.out]; omega, (by (repeat (first | assumption | ((with_reducible apply row_newc); (focus (first | rfl | (simp; done)))) | ((with_reducible apply row_newz); (focus (first | rfl | (simp; done)))) | (with_reducible apply row_same) | ((with_reducible apply row_else); (focus (first | (simp; done) | (simp; omega) | omega))) | (with_reducible apply row_alloc) | (with_reducible apply row_drew) | (with_reducible apply row_drewN) | ((with_reducible apply row_up); assumption)))), (by repeat (first | assumption | (with_reducible apply Up.of) | (with_reducible exact Below.refl _ _) | (with_reducible exact Up.refl _) | ((with_reducible apply bl_setRow); (focus (first | exact Nat.le_refl _ | (simp; done) | (simp; omega) | omega))) | (with_reducible apply below_drewN) | (with_reducible apply Below.drew) | ((with_reducible apply bl_alloc); (focus (first | exact Nat.le_refl _ | (simp; done) | (simp; omega) | omega))) | ((with_reducible apply bl_setCell); (focus (first | exact Nat.le_refl _ | (simp; done) | (simp; omega) | omega))) | ((with_reducible apply up_tr); assumption)))⟩
    case round =>
      obtain ⟨m, r, S, hm, rfl, rfl, hr, hSb, hz, hsum, hS, hB⟩ := hrel
      have HSb := hid hSb
      have Hz := hid hz
      have Hsum := hid hsum
      clear hSb hz hsum
      by_cases hlt : 0 < m
      · obtain ⟨k, rfl⟩ : ∃ k, m = k + 1 := ⟨m - 1, by omega⟩
        have e : (((k + 1 : Nat) : Int) - 1) = (k : Int) := by omega
        rw [e]
        clear e
        obtain ⟨ba, rfl, hba, hca⟩ := hca0 k (by omega)
        have hcx := hca _ hB
        have hcy := hcb _ hB
        have hlx := limb_lt x k
        have hkn : k < n := by omega
        obtain ⟨q, eq⟩ : ∃ q, q = (18446744073709551616 * r + limb x k) / y := ⟨_, rfl⟩
        obtain ⟨r', er⟩ : ∃ r', r' = (18446744073709551616 * r + limb x k) % y := ⟨_, rfl⟩
        have hD := div64_any r (limb x k) y hy64 hlx hr
        rw [← eq, ← er] at hD
        have HD := hid hD
        have hq : q < 18446744073709551616 := by rw [eq]; exact short_q hr hlx
        have hr' : r' < y := by rw [er]; exact Nat.mod_lt _ hy0
        have HQR : Hid (y * q + r' = 18446744073709551616 * r + limb x k) := hid (by rw [eq, er]; exact Nat.div_add_mod _ _)
        clear eq er hD
        go_wp2
        refine wp_region_upS (S := (fun wq => Row wq wC.heap.size 25 n S ∧ wq.cell? ⟨ba, k, none⟩ = some (.int .u64 (limb x k : Nat)) ∧ wq.cell? ⟨bb, 0, none⟩ = some (.int .u64 (y : Nat)) ∧ Below w.heap.size w wq)) (req := (fun j => j != 15)) (by kernel_rfl) (fun _ _ h hu => ⟨(h.1).up hu, hu.cell (h.2.1), hu.cell (h.2.2.1), below_up (h.2.2.2) hu⟩) ⟨(by (repeat (first | assumption | ((with_reducible apply row_newc); (focus (first | rfl | (simp; done)))) | ((with_reducible apply row_newz); (focus (first | rfl | (simp; done)))) | (with_reducible apply row_same) | ((with_reducible apply row_else); (focus (first | (simp; done) | (simp; omega) | omega))) | (with_reducible apply row_alloc) | (with_reducible apply row_drew) | (with_reducible apply row_drewN) | ((with_reducible apply row_up); assumption)))), (by first | assumption | (apply Blk.cell; (focus (repeat (first | assumption | ((with_reducible apply blk_new); (focus (first | rfl | (simp; done)))) | (with_reducible apply blk_alloc) | (with_reducible apply blk_drew) | (with_reducible apply blk_drewN) | ((with_reducible apply blk_up); assumption) | (with_reducible apply blk_same) | ((with_reducible apply blk_else); (focus (first | (simp; done) | (simp; omega) | omega)))))); exact rfl)), (by first | assumption | (apply Blk.cell; (focus (repeat (first | assumption | ((with_reducible apply blk_new); (focus (first | rfl | (simp; done)))) | (with_reducible apply blk_alloc) | (with_reducible apply blk_drew) | (with_reducible apply blk_drewN) | ((with_reducible apply blk_up); assumption) | (with_reducible apply blk_same) | ((with_reducible apply blk_else); (focus (first | (simp; done) | (simp; omega) | omega)))))); exact rfl)), (by repeat (first | assumption | (with_reducible apply Up.of) | (with_reducible exact Below.refl _ _) | (with_reducible exact Up.refl _) | ((with_reducible apply bl_setRow); (focus (first | exact Nat.le_refl _ | (simp; done) | (simp; omega) | omega))) | (with_reducible apply below_drewN) | (with_reducible apply Below.drew) | ((with_reducible apply bl_alloc); (focus (first | exact Nat.le_refl _ | (simp; done) | (simp; omega) | omega))) | ((with_reducible apply bl_setCell); (focus (first | exact Nat.le_refl _ | (simp; done) | (simp; omega) | omega))) | ((with_reducible apply up_tr); assumption)))⟩ (fun wS hSS => ?_)
        have ⟨hS1, hS2, hS3, hSB⟩ := hSS
        clear hcx hcy hS hB
        refine wpAnyU_pure (i := 0) (d := (some 44)) (v := ?_) rfl rfl (by kernel_rfl) (fun _ _ _ h => h) (fun _ _ h hu => ⟨(h.1).up hu, hu.cell (h.2.1), hu.cell (h.2.2.1), below_up (h.2.2.2) hu⟩) (Or.inl ⟨by rfl, fun w' _ => yu_value ?_⟩) ?_
        rotate_left
        · (go_simp; (try exact rfl))
        try simp only [Act.put, List.setIfInBounds_toArray, List.set_cons_zero, List.set_cons_succ]
        refine wpAnyU_pure (i := 1) (d := (some 45)) (v := ?_) rfl rfl (by kernel_rfl) (fun _ _ _ h => h) (fun _ _ h hu => ⟨(h.1).up hu, hu.cell (h.2.1), hu.cell (h.2.2.1), below_up (h.2.2.2) hu⟩) (Or.inl ⟨by rfl, fun w' _ => yu_value ?_⟩) ?_
        rotate_left
        · (go_simp; (try exact rfl))
        try simp only [Act.put, List.setIfInBounds_toArray, List.set_cons_zero, List.set_cons_succ]
        refine wpAnyU_pure (i := 2) (d := (some 46)) (v := ?_) rfl rfl (by kernel_rfl) (fun _ _ _ h => h) (fun _ _ h hu => ⟨(h.1).up hu, hu.cell (h.2.1), hu.cell (h.2.2.1), below_up (h.2.2.2) hu⟩) (Or.inl ⟨by rfl, fun w' _ => yu_value ?_⟩) ?_
        rotate_left
        · (go_simp; (try exact rfl))
        try simp only [Act.put, List.setIfInBounds_toArray, List.set_cons_zero, List.set_cons_succ]
        refine wpAnyU_pure (i := 3) (d := (some 47)) (v := ?_) rfl rfl (by kernel_rfl) (fun _ _ _ h => h) (fun _ _ h hu => ⟨(h.1).up hu, hu.cell (h.2.1), hu.cell (h.2.2.1), below_up (h.2.2.2) hu⟩) (Or.inl ⟨by rfl, fun w' _ => yu_value ?_⟩) ?_
        rotate_left
        · (go_simp; (try exact rfl))
        try simp only [Act.put, List.setIfInBounds_toArray, List.set_cons_zero, List.set_cons_succ]
        refine wpAnyU_pure (i := 4) (d := (some 48)) (v := ?_) rfl rfl (by kernel_rfl) (fun _ _ _ h => h) (fun _ _ h hu => ⟨(h.1).up hu, hu.cell (h.2.1), hu.cell (h.2.2.1), below_up (h.2.2.2) hu⟩) (Or.inl ⟨by rfl, fun w' _ => yu_value ?_⟩) ?_
        rotate_left
        · (go_simp; (try exact rfl))
        try simp only [Act.put, List.setIfInBounds_toArray, List.set_cons_zero, List.set_cons_succ]
        refine wpAnyU_pure (i := 5) (d := (some 49)) (v := ?_) rfl rfl (by kernel_rfl) (fun _ _ _ h => h) (fun _ _ h hu => ⟨(h.1).up hu, hu.cell (h.2.1), hu.cell (h.2.2.1), below_up (h.2.2.2) hu⟩) (Or.inl ⟨by rfl, fun w' _ => yu_value ?_⟩) ?_
        rotate_left
        · (go_simp; (try exact rfl))
        try simp only [Act.put, List.setIfInBounds_toArray, List.set_cons_zero, List.set_cons_succ]
        refine wpAnyU_take (i := 6) (d := (some 50)) (v := ?_) rfl rfl (by kernel_rfl) (fun _ _ _ h => h) (fun _ _ h hu => ⟨(h.1).up hu, hu.cell (h.2.1), hu.cell (h.2.2.1), below_up (h.2.2.2) hu⟩) hSS (Or.inl ⟨by rfl, fun w' hSw => yu_value ?_⟩) ?_
        rotate_left
        · ((try dsimp only at hSw); (try obtain ⟨_, _, _, _⟩ := hSw); go_simp; (try exact rfl))
        try simp only [Act.put, List.setIfInBounds_toArray, List.set_cons_zero, List.set_cons_succ]
        refine wpAnyU_pure (i := 7) (d := (some 51)) (v := ?_) rfl rfl (by kernel_rfl) (fun _ _ _ h => h) (fun _ _ h hu => ⟨(h.1).up hu, hu.cell (h.2.1), hu.cell (h.2.2.1), below_up (h.2.2.2) hu⟩) (Or.inl ⟨by rfl, fun w' _ => yu_value ?_⟩) ?_
        rotate_left
        · (go_simp; (try exact rfl))
        try simp only [Act.put, List.setIfInBounds_toArray, List.set_cons_zero, List.set_cons_succ]
        refine wpAnyU_pure (i := 8) (d := (some 52)) (v := ?_) rfl rfl (by kernel_rfl) (fun _ _ _ h => h) (fun _ _ h hu => ⟨(h.1).up hu, hu.cell (h.2.1), hu.cell (h.2.2.1), below_up (h.2.2.2) hu⟩) (Or.inl ⟨by rfl, fun w' _ => yu_value ?_⟩) ?_
        rotate_left
        · (go_simp; (try exact rfl))
        try simp only [Act.put, List.setIfInBounds_toArray, List.set_cons_zero, List.set_cons_succ]
        refine wpAnyU_take (i := 9) (d := (some 53)) (v := ?_) rfl rfl (by kernel_rfl) (fun _ _ _ h => h) (fun _ _ h hu => ⟨(h.1).up hu, hu.cell (h.2.1), hu.cell (h.2.2.1), below_up (h.2.2.2) hu⟩) hSS (Or.inl ⟨by rfl, fun w' hSw => yu_value ?_⟩) ?_
        rotate_left
        · ((try dsimp only at hSw); (try obtain ⟨_, _, _, _⟩ := hSw); go_simp; (try exact rfl))
        try simp only [Act.put, List.setIfInBounds_toArray, List.set_cons_zero, List.set_cons_succ]
        refine wpAnyU_take (i := 10) (d := (some 54)) (v := _) rfl rfl (by kernel_rfl) (fun _ _ _ h => h) (fun _ _ h hu => ⟨(h.1).up hu, hu.cell (h.2.1), hu.cell (h.2.2.1), below_up (h.2.2.2) hu⟩) hSS (Or.inl ⟨by rfl, fun w' hSw => yu_call ?_ (HD.out _)⟩) ?_
        · go_simp
        try simp only [Act.put, List.setIfInBounds_toArray, List.set_cons_zero, List.set_cons_succ]
        refine wpAnyU_pure (i := 11) (d := (some 43)) (v := ?_) rfl rfl (by kernel_rfl) (fun _ _ _ h => h) (fun _ _ h hu => ⟨(h.1).up hu, hu.cell (h.2.1), hu.cell (h.2.2.1), below_up (h.2.2.2) hu⟩) (Or.inl ⟨by rfl, fun w' _ => yu_value ?_⟩) ?_
        rotate_left
        · (go_simp; (try exact rfl))
        try simp only [Act.put, List.setIfInBounds_toArray, List.set_cons_zero, List.set_cons_succ]
        refine wpAnyU_pure (i := 12) (d := (some 55)) (v := ?_) rfl rfl (by kernel_rfl) (fun _ _ _ h => h) (fun _ _ h hu => ⟨(h.1).up hu, hu.cell (h.2.1), hu.cell (h.2.2.1), below_up (h.2.2.2) hu⟩) (Or.inl ⟨by rfl, fun w' _ => yu_value ?_⟩) ?_
        rotate_left
        · (go_simp; (try exact rfl))
        try simp only [Act.put, List.setIfInBounds_toArray, List.set_cons_zero, List.set_cons_succ]
        refine wpAnyU_pure (i := 13) (d := (some 56)) (v := ?_) rfl rfl (by kernel_rfl) (fun _ _ _ h => h) (fun _ _ h hu => ⟨(h.1).up hu, hu.cell (h.2.1), hu.cell (h.2.2.1), below_up (h.2.2.2) hu⟩) (Or.inl ⟨by rfl, fun w' _ => yu_value ?_⟩) ?_
        rotate_left
        · (go_simp; (try exact rfl))
        try simp only [Act.put, List.setIfInBounds_toArray, List.set_cons_zero, List.set_cons_succ]
        refine wpAnyU_pure (i := 14) (d := (some 57)) (v := ?_) rfl rfl (by kernel_rfl) (fun _ _ _ h => h) (fun _ _ h hu => ⟨(h.1).up hu, hu.cell (h.2.1), hu.cell (h.2.2.1), below_up (h.2.2.2) hu⟩) (Or.inl ⟨by rfl, fun w' _ => yu_value ?_⟩) ?_
        rotate_left
        · (go_simp; (try exact rfl))
        try simp only [Act.put, List.setIfInBounds_toArray, List.set_cons_zero, List.set_cons_succ]
        refine wpAnyU_one (i := 15) rfl (by kernel_rfl) (by rfl) fun w1 hw1 => ?_
        have hcW := (hS1.up hw1).cell k (by omega)
        have hfW := (hS1.up hw1).frozen k
        go_simp
        clear hcW hfW
        refine wpAnyU_pure (i := 16) (d := (some 8)) (v := ?_) rfl rfl (by kernel_rfl) (fun _ _ _ h => h) (fun _ _ h hu => ⟨(h.1).up hu, hu.cell (h.2.1), hu.cell (h.2.2.1), below_up (h.2.2.2) hu⟩) (Or.inl ⟨by rfl, fun w' _ => yu_value ?_⟩) ?_
        rotate_left
        · (go_simp; (try exact rfl))
        try simp only [Act.put, List.setIfInBounds_toArray, List.set_cons_zero, List.set_cons_succ]
        refine wpAnyU_done (by kernel_rfl) (fun wF huE => ?_) _
        have gS := ((hS1.up hw1).set k q).up huE
        have gB := below_up ((below_up hSB hw1).setCell (p := ⟨wC.heap.size, k, none⟩) (show w.heap.size ≤ wC.heap.size by omega) (.int .u64 (q : Nat))) huE
        clear hS1 hS2 hS3 hSB hSS hw1 huE
        go_wp2
        go_roundw
        case rel =>
          refine ⟨k, r', upd S k q, by omega, by go_num, rfl, hr', upd_lt HSb.out hq, fun j hj => by rw [upd_other _ _ _ (by omega)]; exact Hz.out j (by omega), ?_, gS, gB⟩
          have h1 := sumL_upd S q (show k < n by omega)
          rw [Hz.out k (by omega), Nat.zero_mul, Nat.add_zero] at h1
          have h2 := Hsum.out
          rw [bp_succ, sumL_succ (limb x) k] at h2
          rw [h1]
          exact over_step h2 HQR.out
        case measure => simp [intOf] <;> omega
      · obtain rfl : m = 0 := by omega
        have hfin := Hsum.out
        rw [bp_zero, sumL_zero, Nat.mul_one, Nat.add_zero] at hfin
        have e1 : x / y = sumL S n := by rw [hfin, Nat.mul_comm, Nat.mul_add_div hy0, Nat.div_eq_of_lt hr, Nat.add_zero]
        have e2 : x % y = r := by rw [hfin, Nat.mul_comm, Nat.mul_add_mod, Nat.mod_eq_of_lt hr]
        have ht := fun w' (h : Row w' wC.heap.size 25 n S) => trim_row wC.heap.size n n n S w' h (Nat.le_refl _) (Nat.le_refl _) (by omega)
        have hres := am_row (c := n) hS (Nat.le_refl _) (Nat.le_refl _) HSb.out
        rw [← e1] at hres
        have hr64 : ∀ i, i < 1 → (fun _ => r) i < 18446744073709551616 := fun _ _ => by show r < 18446744073709551616; omega
        have eR : sumL (fun _ => r) 1 = r := by rw [sumL_succ, sumL_zero, bp_zero]; omega
        have ht2 := fun w' b (h : Row w' b 25 1 (fun _ => r)) => trim_row b 1 1 1 (fun _ => r) w' h (Nat.le_refl _) (Nat.le_refl _) (by decide)
        have hres2 : ∀ w' b, Row w' b 25 1 (fun _ => r) → Am w' (.slice (some ⟨b, 0, none⟩) (lenL (fun _ => r) 1) 1) (x % y) := fun w' b h => by
          have := am_row (c := 1) h (Nat.le_refl _) (Nat.le_refl _) hr64
          rw [eR] at this
          rw [e2]
          exact this
        have HT := hid ht
        have HT2 := hid ht2
        have HA := hid hres
        have HA2 := hid hres2
        clear ht hres hfin e1 e2 HSb Hsum Hz ht2 hres2 hr64 eR
        go_wp2_with (first | (go_at_call 60; (first | ((with_reducible refine (HT.out _ (by (repeat (first | assumption | ((with_reducible apply row_newc); (focus (first | rfl | (simp; done)))) | ((with_reducible apply row_newz); (focus (first | rfl | (simp; done)))) | (with_reducible apply row_same) | ((with_reducible apply row_else); (focus (first | (simp; done) | (simp; omega) | omega))) | (with_reducible apply row_alloc) | (with_reducible apply row_drew) | (with_reducible apply row_drewN) | ((with_reducible apply row_up); assumption))))).mono ?_); rintro e wT ⟨rfl, huT⟩) | ((with_reducible refine (HT2.out _ _ (row_one (by simp))).mono ?_); rintro e wV ⟨rfl, huV⟩))))
        go_ret2
        exact ⟨below_up (bl_alloc (below_up hB huT).size (below_up hB huT)) huV, _, _, _, _, _, _, rfl, ((HA.out.up huT).up (Up.alloc _ _)).up huV, (HA2.out _ _ (row_one rfl)).up huV⟩
end Go.Proofs.Ytiocolbaencbkaa
