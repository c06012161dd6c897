/-
  WideEdges: the law of what fits just.
-/
import Derived.Test.YtlkolfnklbldcaaOps
import Derived.Test.YtlkolfnklbldcaaLine
import Derived.Deep.DeepCutAuto
import Derived.Deep.CutRange
namespace Go.Proofs.Ytlkolfnklbldcaa
open Go Go.RowKit
set_option maxRecDepth 100000

theorem hb_half {c : Nat} (h : c = 1022) : hb = 2 * 2 ^ c := by
  rw [hb_pow (c + 1) (by omega), Nat.pow_succ]; omega
theorem blen_hb : blen hb = 1024 := by rw [hb_pow 1023 rfl]; exact blen_pow 1023
theorem blen_hb1 : blen (hb - 1) = 1023 := by
  obtain ⟨c, hc⟩ : ∃ c, c = 1022 := ⟨_, rfl⟩
  have h := hb_half hc
  have h2 : 2 ^ 1 ≤ 2 ^ c := Nat.pow_le_pow_right (by decide) (by omega)
  have := blen_of (x := hb - 1) (k := c) (by omega) (by rw [Nat.pow_succ]; omega)
  omega
set_option maxRecDepth 100000 in
set_option maxHeartbeats 4000000 in
theorem edges_n (n k : Nat) (hn : n < 65536) (hk : k < 256) (w : World) : Calls Try.prog 9 #[.int .u16 n, .int .u8 k] w fun e w' => e = .returned (.bool true) ∧ Up w w' := by
  have hbig := hb_big
  have hL := least_in
  have i1 := small_in 1 (by decide) (by decide)
  have im1 := small_in (-1) (by decide) (by decide)
  have iM : InR (-(hb : Int) + 1) := InR.mk' (by omega)
  have HK := hid known_true
  have HO1 := hid (fun w => of_any 1 (by decide) (by decide) w)
  have HOm1 := hid (fun w => of_any (-1) (by decide) (by decide) w)
  have hS := fun w => sub_z hL i1 w
  rw [opt_no (fun h => by have := h.out; omega), enc_least] at hS
  have HS := hid hS
  have hA := fun w => add_z hL i1 w
  rw [opt_yes iM, enc_least] at hA
  have HA := hid hA
  have hM := fun w => mul_z hL im1 w
  rw [opt_no (fun h => by have := h.out; omega), enc_least] at hM
  have HM := hid hM
  have hD := fun w => div_z hL im1 (fun _ w => by
    rw [show (-(hb : Int)).natAbs = hb by omega]
    exact divide_one hb 1 (by have := bp16; omega) (small_lt (by decide)) (by omega) (one_limb (by decide) (by decide)) w) w
  rw [show divZV (-(hb : Int)) (-1) = .tuple #[.agg (cells 16 (fun _ => 0)), .agg (cells 16 (fun _ => 0)), .bool false] from by
    unfold divZV
    rw [if_pos (.inr (fun h => by
      have := h.out
      rw [Int.neg_tdiv, Int.tdiv_neg, Int.tdiv_one] at this
      omega))], enc_least] at hD
  have HD := hid hD
  have hB := fun w => bits_z hL w
  rw [show (-(hb : Int)).natAbs = hb by omega, blen_hb, enc_least, show ((1024 : Nat) : Int) = 1024 from rfl] at hB
  have HB := hid hB
  have hC := fun w => bits_z iM w
  rw [show (-(hb : Int) + 1).natAbs = hb - 1 by omega, blen_hb1, show ((1023 : Nat) : Int) = 1023 from rfl] at hC
  have HC := hid hC
  have hG := fun w => sign_z iM w
  rw [show sgn (-(hb : Int) + 1) = -1 by unfold sgn; rw [if_pos (by omega)]] at hG
  have HG := hid hG
  clear hS hA hM hD hB hC hG
  generalize enc (-(hb : Int) + 1) = em at *
  generalize enc 1 = e1 at *
  generalize enc (-1) = e2 at *
  obtain ⟨i, hi⟩ : ∃ i, n % 1023 = i := ⟨_, rfl⟩
  obtain ⟨j, hj⟩ : ∃ j, k % 1023 = j := ⟨_, rfl⟩
  have li : i < 1023 := by omega
  have lj : j < 1023 := by omega
  have hX := fun w => mul_z (pow_in.2 li) (pow_in.2 lj) w
  rw [enc_pow li, enc_pow lj, ← Int.natCast_mul, ← Nat.pow_add] at hX
  have HX := hid hX
  have hIn := hid (pow_in (i := i + j))
  have hP := hid (fun (h : i + j < 1023) w => bits_z (pow_in.2 h) w)
  have hE := hid (enc_pow (i := i + j))
  clear iM i1 im1 hL hbig hX
  obtain ⟨qi, hqi⟩ : ∃ q, i / 64 = q := ⟨_, rfl⟩
  obtain ⟨ri, hri⟩ : ∃ q, i % 64 = q := ⟨_, rfl⟩
  obtain ⟨qj, hqj⟩ : ∃ q, j / 64 = q := ⟨_, rfl⟩
  obtain ⟨rj, hrj⟩ : ∃ q, j % 64 = q := ⟨_, rfl⟩
  have gXe := hid (fun m => limb_pow i m)
  have gYe := hid (fun m => limb_pow j m)
  have hIi := hid (show (n : Int) % 1023 = (i : Nat) by omega)
  have hIj := hid (show (k : Int) % 1023 = (j : Nat) by omega)
  rw [hqi, hri] at gXe
  rw [hqj, hrj] at gYe
  generalize hpi : 2 ^ i = Pi at *
  generalize hpj : 2 ^ j = Pj at *
  clear hpi hpj hi hj
  unfold wideV at HX HB HC HG HS HA HM HD HO1 HOm1
  go_enter Try.func9, Try.ntmps9
  go_wp2_with (first | ((with_reducible apply ld_rowP undW infoW); exact rfl; exact rfl; focus (repeat (first | assumption | ((with_reducible apply row_newc); (focus (first | rfl | (simp; done)))) | ((with_reducible apply row_newz); (focus (first | rfl | (simp; done)))) | (with_reducible apply row_same) | ((with_reducible apply row_else); (focus (first | (simp; done) | (simp; omega) | omega))) | (with_reducible apply row_alloc) | (with_reducible apply row_drew) | (with_reducible apply row_drewN) | ((with_reducible apply row_up); assumption)))) | ((with_reducible apply st_rowM infoW); exact rfl; exact rfl; focus (repeat (first | assumption | ((with_reducible apply row_newc); (focus (first | rfl | (simp; done)))) | ((with_reducible apply row_newz); (focus (first | rfl | (simp; done)))) | (with_reducible apply row_same) | ((with_reducible apply row_else); (focus (first | (simp; done) | (simp; omega) | omega))) | (with_reducible apply row_alloc) | (with_reducible apply row_drew) | (with_reducible apply row_drewN) | ((with_reducible apply row_up); assumption)))) | ((with_reducible apply st_rowP infoW); exact rfl; exact rfl; focus (repeat (first | assumption | ((with_reducible apply row_newc); (focus (first | rfl | (simp; done)))) | ((with_reducible apply row_newz); (focus (first | rfl | (simp; done)))) | (with_reducible apply row_same) | ((with_reducible apply row_else); (focus (first | (simp; done) | (simp; omega) | omega))) | (with_reducible apply row_alloc) | (with_reducible apply row_drew) | (with_reducible apply row_drewN) | ((with_reducible apply row_up); assumption)))) | ((with_reducible apply st_rowZ infoW); exact rfl; exact rfl; focus (repeat (first | assumption | ((with_reducible apply row_newc); (focus (first | rfl | (simp; done)))) | ((with_reducible apply row_newz); (focus (first | rfl | (simp; done)))) | (with_reducible apply row_same) | ((with_reducible apply row_else); (focus (first | (simp; done) | (simp; omega) | omega))) | (with_reducible apply row_alloc) | (with_reducible apply row_drew) | (with_reducible apply row_drewN) | ((with_reducible apply row_up); assumption)))) | (go_at_call 10; (with_reducible refine (HK.out _).mono ?_); rintro e wK ⟨rfl, hu⟩; have hsz := hu.size; (try simp at hsz)) | (go_at_call 33; (with_reducible refine (HO1.out _).mono ?_); rintro e wO ⟨rfl, hu⟩; have hsz := hu.size; (try simp at hsz)) | (go_at_call 14; (with_reducible refine (HS.out _).mono ?_); rintro e wS ⟨rfl, hu⟩; have hsz := hu.size; (try simp at hsz)) | (go_at_call 13; (with_reducible refine (HA.out _).mono ?_); rintro e wA ⟨rfl, hu⟩; have hsz := hu.size; (try simp at hsz)))
  obtain ⟨zw, ezw⟩ : ∃ zw : Nat → Nat, zw = fun _ => 0 := ⟨_, rfl⟩
  refine wp_region_upS (S := (fun wq => Row wq wK.heap.size 27 16 (limb hb) ∧ Row wq wA.heap.size 27 16 (limb em) ∧ Below w.heap.size w wq)) (req := (fun j => j != 7)) (by kernel_rfl) (fun _ _ h hu => ⟨(h.1).up hu, (h.2.1).up hu, below_up (h.2.2) hu⟩) ⟨(by (repeat (first | assumption | ((with_reducible apply row_newc); (focus (first | rfl | (simp; done)))) | ((with_reducible apply row_newz); (focus (first | rfl | (simp; done)))) | (with_reducible apply row_same) | ((with_reducible apply row_else); (focus (first | (simp; done) | (simp; omega) | omega))) | (with_reducible apply row_alloc) | (with_reducible apply row_drew) | (with_reducible apply row_drewN) | ((with_reducible apply row_up); assumption)))), (by (repeat (first | assumption | ((with_reducible apply row_newc); (focus (first | rfl | (simp; done)))) | ((with_reducible apply row_newz); (focus (first | rfl | (simp; done)))) | (with_reducible apply row_same) | ((with_reducible apply row_else); (focus (first | (simp; done) | (simp; omega) | omega))) | (with_reducible apply row_alloc) | (with_reducible apply row_drew) | (with_reducible apply row_drewN) | ((with_reducible apply row_up); assumption)))), (by repeat (first | assumption | (with_reducible apply Up.of) | (with_reducible exact Below.refl _ _) | (with_reducible exact Up.refl _) | ((with_reducible apply bl_setRow); (focus (first | exact Nat.le_refl _ | (simp; done) | (simp; omega) | omega))) | (with_reducible apply below_drewN) | (with_reducible apply Below.drew) | ((with_reducible apply bl_alloc); (focus (first | exact Nat.le_refl _ | (simp; done) | (simp; omega) | omega))) | ((with_reducible apply bl_setCell); (focus (first | exact Nat.le_refl _ | (simp; done) | (simp; omega) | omega))) | ((with_reducible apply up_tr); assumption)))⟩ (fun wS hSS => ?_)
  have ⟨hS1, hS2, hSB⟩ := hSS
  refine wpAnyU_take (i := 0) (d := (some 39)) (v := _) rfl rfl (by kernel_rfl) (fun _ _ _ h => h) (fun _ _ h hu => ⟨(h.1).up hu, (h.2.1).up hu, below_up (h.2.2) hu⟩) hSS (Or.inl ⟨by rfl, fun w' hSw => yu_value (run_ld undW infoW _ rfl _ rfl hSw.1)⟩) ?_
  try simp only [Act.put, List.setIfInBounds_toArray, List.set_cons_zero, List.set_cons_succ]
  refine wpAnyU_take (i := 1) (d := (some 40)) (v := _) rfl rfl (by kernel_rfl) (fun _ _ _ h => h) (fun _ _ h hu => ⟨(h.1).up hu, (h.2.1).up hu, below_up (h.2.2) hu⟩) hSS (Or.inl ⟨by rfl, fun w' hSw => yu_call ?_ (HOm1.out _)⟩) ?_
  · go_simp
  try simp only [Act.put, List.setIfInBounds_toArray, List.set_cons_zero, List.set_cons_succ]
  refine wpAnyU_take (i := 2) (d := (some 41)) (v := _) rfl rfl (by kernel_rfl) (fun _ _ _ h => h) (fun _ _ h hu => ⟨(h.1).up hu, (h.2.1).up hu, below_up (h.2.2) hu⟩) hSS (Or.inl ⟨by rfl, fun w' hSw => yu_call ?_ (HM.out _)⟩) ?_
  · go_simp
  try simp only [Act.put, List.setIfInBounds_toArray, List.set_cons_zero, List.set_cons_succ]
  refine wpAnyU_pure (i := 3) (d := (some 38)) (v := ?_) rfl rfl (by kernel_rfl) (fun _ _ _ h => h) (fun _ _ h hu => ⟨(h.1).up hu, (h.2.1).up hu, below_up (h.2.2) hu⟩) (Or.inl ⟨by rfl, fun w' _ => yu_value ?_⟩) ?_
  rotate_left
  · (go_simp; (try exact rfl))
  try simp only [Act.put, List.setIfInBounds_toArray, List.set_cons_zero, List.set_cons_succ]
  refine wpAnyU_pure (i := 4) (d := (some 42)) (v := ?_) rfl rfl (by kernel_rfl) (fun _ _ _ h => h) (fun _ _ h hu => ⟨(h.1).up hu, (h.2.1).up hu, below_up (h.2.2) hu⟩) (Or.inl ⟨by rfl, fun w' _ => yu_value ?_⟩) ?_
  rotate_left
  · (go_simp; (try exact rfl))
  try simp only [Act.put, List.setIfInBounds_toArray, List.set_cons_zero, List.set_cons_succ]
  refine wpAnyU_pure (i := 5) (d := (some 43)) (v := ?_) rfl rfl (by kernel_rfl) (fun _ _ _ h => h) (fun _ _ h hu => ⟨(h.1).up hu, (h.2.1).up hu, below_up (h.2.2) hu⟩) (Or.inl ⟨by rfl, fun w' _ => yu_value ?_⟩) ?_
  rotate_left
  · (go_simp; (try exact rfl))
  try simp only [Act.put, List.setIfInBounds_toArray, List.set_cons_zero, List.set_cons_succ]
  refine wpAnyU_allocW (i := 6) (d := (some 11)) rfl rfl (by kernel_rfl) (by rfl) rfl (fun _ _ h hu => ⟨(h.1).up hu, (h.2.1).up hu, below_up (h.2.2) hu⟩) fun w1 hw1 => ?_
  try simp only [Act.put, List.setIfInBounds_toArray, List.set_cons_zero, List.set_cons_succ]
  refine wpAnyU_one (i := 7) rfl (by kernel_rfl) (by rfl) fun w2 hw2 => ?_
  refine wp_st_rowN infoW rfl _ _ rfl _ rfl rfl ((Row.up (row_newc _ 16 _ rfl) hw2)) ?_
  refine ⟨fun h => by simp at h, ?_⟩
  try simp only [Act.put, List.setIfInBounds_toArray, List.set_cons_zero, List.set_cons_succ]
  refine wpAnyU_pure (i := 8) (d := (some 12)) (v := ?_) rfl rfl (by kernel_rfl) (fun _ _ _ h => h) (fun _ _ h hu => ⟨(h.1).up hu, (h.2.1).up hu, below_up (h.2.2) hu⟩) (Or.inl ⟨by rfl, fun w' _ => yu_value ?_⟩) ?_
  rotate_left
  · (go_simp; (try exact rfl))
  try simp only [Act.put, List.setIfInBounds_toArray, List.set_cons_zero, List.set_cons_succ]
  refine wpAnyU_done (by kernel_rfl) (fun wF huE => ?_) _
  have n1 := (hS1.up hw1).lt
  have n2 := (hS2.up hw1).lt
  have n3 : w.heap.size ≤ w1.heap.size := (below_up hSB hw1).size
  have g1 := ((((hS1.up hw1).up (Up.alloc _ _)).up hw2).row_other (cells 16 (fun _ => 0)) (show wK.heap.size ≠ w1.heap.size by omega)).up huE
  have g2 := ((((hS2.up hw1).up (Up.alloc _ _)).up hw2).row_other (cells 16 (fun _ => 0)) (show wA.heap.size ≠ w1.heap.size by omega)).up huE
  have gB : Below w.heap.size w wF := below_up (below_setRow (below_up ((below_up hSB hw1).alloc n3 _) hw2) n3 _) huE
  clear hS1 hS2 hSB hSS hw1 hw2 huE
  generalize w1.heap.size = b11 at *
  go_wp2
  refine wp_region_upS (S := (fun wq => Row wq wK.heap.size 27 16 (limb hb) ∧ Row wq wA.heap.size 27 16 (limb em) ∧ Below w.heap.size w wq)) (req := (fun j => j != 9 && j != 10)) (by kernel_rfl) (fun _ _ h hu => ⟨(h.1).up hu, (h.2.1).up hu, below_up (h.2.2) hu⟩) ⟨(by (repeat (first | assumption | ((with_reducible apply row_newc); (focus (first | rfl | (simp; done)))) | ((with_reducible apply row_newz); (focus (first | rfl | (simp; done)))) | (with_reducible apply row_same) | ((with_reducible apply row_else); (focus (first | (simp; done) | (simp; omega) | omega))) | (with_reducible apply row_alloc) | (with_reducible apply row_drew) | (with_reducible apply row_drewN) | ((with_reducible apply row_up); assumption)))), (by (repeat (first | assumption | ((with_reducible apply row_newc); (focus (first | rfl | (simp; done)))) | ((with_reducible apply row_newz); (focus (first | rfl | (simp; done)))) | (with_reducible apply row_same) | ((with_reducible apply row_else); (focus (first | (simp; done) | (simp; omega) | omega))) | (with_reducible apply row_alloc) | (with_reducible apply row_drew) | (with_reducible apply row_drewN) | ((with_reducible apply row_up); assumption)))), (by repeat (first | assumption | (with_reducible apply Up.of) | (with_reducible exact Below.refl _ _) | (with_reducible exact Up.refl _) | ((with_reducible apply bl_setRow); (focus (first | exact Nat.le_refl _ | (simp; done) | (simp; omega) | omega))) | (with_reducible apply below_drewN) | (with_reducible apply Below.drew) | ((with_reducible apply bl_alloc); (focus (first | exact Nat.le_refl _ | (simp; done) | (simp; omega) | omega))) | ((with_reducible apply bl_setCell); (focus (first | exact Nat.le_refl _ | (simp; done) | (simp; omega) | omega))) | ((with_reducible apply up_tr); assumption)))⟩ (fun wS hSS => ?_)
  have ⟨hS1, hS2, hSB⟩ := hSS
  clear g1 g2 gB
  refine wpAnyU_take (i := 0) (d := (some 45)) (v := _) rfl rfl (by kernel_rfl) (fun _ _ _ h => h) (fun _ _ h hu => ⟨(h.1).up hu, (h.2.1).up hu, below_up (h.2.2) hu⟩) hSS (Or.inl ⟨by rfl, fun w' hSw => yu_value (run_ld undW infoW _ rfl _ rfl hSw.1)⟩) ?_
  try simp only [Act.put, List.setIfInBounds_toArray, List.set_cons_zero, List.set_cons_succ]
  refine wpAnyU_take (i := 1) (d := (some 46)) (v := _) rfl rfl (by kernel_rfl) (fun _ _ _ h => h) (fun _ _ h hu => ⟨(h.1).up hu, (h.2.1).up hu, below_up (h.2.2) hu⟩) hSS (Or.inl ⟨by rfl, fun w' hSw => yu_call ?_ (HOm1.out _)⟩) ?_
  · go_simp
  try simp only [Act.put, List.setIfInBounds_toArray, List.set_cons_zero, List.set_cons_succ]
  refine wpAnyU_take (i := 2) (d := (some 47)) (v := _) rfl rfl (by kernel_rfl) (fun _ _ _ h => h) (fun _ _ h hu => ⟨(h.1).up hu, (h.2.1).up hu, below_up (h.2.2) hu⟩) hSS (Or.inl ⟨by rfl, fun w' hSw => yu_call ?_ (HD.out _)⟩) ?_
  · go_simp
  try simp only [Act.put, List.setIfInBounds_toArray, List.set_cons_zero, List.set_cons_succ]
  refine wpAnyU_pure (i := 3) (d := (some 44)) (v := ?_) rfl rfl (by kernel_rfl) (fun _ _ _ h => h) (fun _ _ h hu => ⟨(h.1).up hu, (h.2.1).up hu, below_up (h.2.2) hu⟩) (Or.inl ⟨by rfl, fun w' _ => yu_value ?_⟩) ?_
  rotate_left
  · (go_simp; (try exact rfl))
  try simp only [Act.put, List.setIfInBounds_toArray, List.set_cons_zero, List.set_cons_succ]
  refine wpAnyU_pure (i := 4) (d := (some 48)) (v := ?_) rfl rfl (by kernel_rfl) (fun _ _ _ h => h) (fun _ _ h hu => ⟨(h.1).up hu, (h.2.1).up hu, below_up (h.2.2) hu⟩) (Or.inl ⟨by rfl, fun w' _ => yu_value ?_⟩) ?_
  rotate_left
  · (go_simp; (try exact rfl))
  try simp only [Act.put, List.setIfInBounds_toArray, List.set_cons_zero, List.set_cons_succ]
  refine wpAnyU_pure (i := 5) (d := (some 49)) (v := ?_) rfl rfl (by kernel_rfl) (fun _ _ _ h => h) (fun _ _ h hu => ⟨(h.1).up hu, (h.2.1).up hu, below_up (h.2.2) hu⟩) (Or.inl ⟨by rfl, fun w' _ => yu_value ?_⟩) ?_
  rotate_left
  · (go_simp; (try exact rfl))
  try simp only [Act.put, List.setIfInBounds_toArray, List.set_cons_zero, List.set_cons_succ]
  refine wpAnyU_pure (i := 6) (d := (some 50)) (v := ?_) rfl rfl (by kernel_rfl) (fun _ _ _ h => h) (fun _ _ h hu => ⟨(h.1).up hu, (h.2.1).up hu, below_up (h.2.2) hu⟩) (Or.inl ⟨by rfl, fun w' _ => yu_value ?_⟩) ?_
  rotate_left
  · (go_simp; (try exact rfl))
  try simp only [Act.put, List.setIfInBounds_toArray, List.set_cons_zero, List.set_cons_succ]
  refine wpAnyU_alloc2 (i := 7) (j := 8) (di := 13) (dj := 14) rfl rfl rfl rfl (by decide) rfl rfl rfl rfl (by kernel_rfl) (by kernel_rfl) (by kernel_rfl) (by decide) (fun _ _ h hu => ⟨(h.1).up hu, (h.2.1).up hu, below_up (h.2.2) hu⟩) fun w3 p q hw3 hp hq hpq hpl hql => ?_
  try simp only [Act.put, List.setIfInBounds_toArray, List.set_cons_zero, List.set_cons_succ]
  have m1 := hS1.lt
  have m2 := hS2.lt
  have m3 := hSB.size
  refine wpAnyU_one (i := 9) rfl (by kernel_rfl) (by rfl) fun w4 hw4 => ?_
  refine wp_st_rowN infoW rfl _ _ rfl _ rfl rfl ((hp.up hw4)) ?_
  refine ⟨fun h => by simp at h, ?_⟩
  try simp only [Act.put, List.setIfInBounds_toArray, List.set_cons_zero, List.set_cons_succ]
  refine wpAnyU_one (i := 10) rfl (by kernel_rfl) (by rfl) fun w5 hw5 => ?_
  refine wp_st_rowN infoW rfl _ _ rfl _ rfl rfl ((((hq.up hw4).row_other (cells 16 (fun _ => 0)) (show q ≠ p by omega)).up hw5)) ?_
  refine ⟨fun h => by simp at h, ?_⟩
  try simp only [Act.put, List.setIfInBounds_toArray, List.set_cons_zero, List.set_cons_succ]
  refine wpAnyU_pure (i := 11) (d := (some 15)) (v := ?_) rfl rfl (by kernel_rfl) (fun _ _ _ h => h) (fun _ _ h hu => ⟨(h.1).up hu, (h.2.1).up hu, below_up (h.2.2) hu⟩) (Or.inl ⟨by rfl, fun w' _ => yu_value ?_⟩) ?_
  rotate_left
  · (go_simp; (try exact rfl))
  try simp only [Act.put, List.setIfInBounds_toArray, List.set_cons_zero, List.set_cons_succ]
  refine wpAnyU_done (by kernel_rfl) (fun wF huE => ?_) _
  have g1 := ((((((hS1).up hw3).up hw4).row_other (cells 16 (fun _ => 0)) (show wK.heap.size ≠ p by omega)).up hw5).row_other (cells 16 (fun _ => 0)) (show wK.heap.size ≠ q by omega)).up huE
  have g2 := ((((((hS2).up hw3).up hw4).row_other (cells 16 (fun _ => 0)) (show wA.heap.size ≠ p by omega)).up hw5).row_other (cells 16 (fun _ => 0)) (show wA.heap.size ≠ q by omega)).up huE
  have gB := below_up (below_setRow (below_up (below_setRow (below_up (below_up (hSB) hw3) hw4) (show w.heap.size ≤ p by omega) (cells 16 (fun _ => 0))) hw5) (show w.heap.size ≤ q by omega) (cells 16 (fun _ => 0))) huE
  clear hS1 hS2 hSB hSS hw3 hw4 hw5 huE hp hq
  have m4 := g1.lt
  have m5 := g2.lt
  have m6 := gB.size
  go_wp2_with (first | ((with_reducible apply ld_rowP undW infoW); exact rfl; exact rfl; focus (repeat (first | assumption | ((with_reducible apply row_newc); (focus (first | rfl | (simp; done)))) | ((with_reducible apply row_newz); (focus (first | rfl | (simp; done)))) | (with_reducible apply row_same) | ((with_reducible apply row_else); (focus (first | (simp; done) | (simp; omega) | omega))) | (with_reducible apply row_alloc) | (with_reducible apply row_drew) | (with_reducible apply row_drewN) | ((with_reducible apply row_up); assumption)))) | ((with_reducible apply st_rowM infoW); exact rfl; exact rfl; focus (repeat (first | assumption | ((with_reducible apply row_newc); (focus (first | rfl | (simp; done)))) | ((with_reducible apply row_newz); (focus (first | rfl | (simp; done)))) | (with_reducible apply row_same) | ((with_reducible apply row_else); (focus (first | (simp; done) | (simp; omega) | omega))) | (with_reducible apply row_alloc) | (with_reducible apply row_drew) | (with_reducible apply row_drewN) | ((with_reducible apply row_up); assumption)))) | ((with_reducible apply st_rowP infoW); exact rfl; exact rfl; focus (repeat (first | assumption | ((with_reducible apply row_newc); (focus (first | rfl | (simp; done)))) | ((with_reducible apply row_newz); (focus (first | rfl | (simp; done)))) | (with_reducible apply row_same) | ((with_reducible apply row_else); (focus (first | (simp; done) | (simp; omega) | omega))) | (with_reducible apply row_alloc) | (with_reducible apply row_drew) | (with_reducible apply row_drewN) | ((with_reducible apply row_up); assumption)))) | ((with_reducible apply st_rowZ infoW); exact rfl; exact rfl; focus (repeat (first | assumption | ((with_reducible apply row_newc); (focus (first | rfl | (simp; done)))) | ((with_reducible apply row_newz); (focus (first | rfl | (simp; done)))) | (with_reducible apply row_same) | ((with_reducible apply row_else); (focus (first | (simp; done) | (simp; omega) | omega))) | (with_reducible apply row_alloc) | (with_reducible apply row_drew) | (with_reducible apply row_drewN) | ((with_reducible apply row_up); assumption)))))
  rw [hIi.out, hIj.out]
  try simp only [Act.put, List.setIfInBounds_toArray, List.set_cons_zero, List.set_cons_succ]
  have lqi : (qi : Int) < 16 := by omega
  have lqj : (qj : Int) < 16 := by omega
  refine wp_region_upS (S := (fun wq => Row wq wF.heap.size 27 16 (fun _ => 0) ∧ Row wq (wF.heap.size + 1) 27 16 (fun _ => 0) ∧ Row wq wK.heap.size 27 16 (limb hb) ∧ Row wq wA.heap.size 27 16 (limb em) ∧ Below w.heap.size w wq)) (req := (fun j => j != 11 && j != 13)) (by kernel_rfl) (fun _ _ h hu => ⟨(h.1).up hu, (h.2.1).up hu, (h.2.2.1).up hu, (h.2.2.2.1).up hu, below_up (h.2.2.2.2) hu⟩) ⟨(by (repeat (first | assumption | ((with_reducible apply row_newc); (focus (first | rfl | (simp; done)))) | ((with_reducible apply row_newz); (focus (first | rfl | (simp; done)))) | (with_reducible apply row_same) | ((with_reducible apply row_else); (focus (first | (simp; done) | (simp; omega) | omega))) | (with_reducible apply row_alloc) | (with_reducible apply row_drew) | (with_reducible apply row_drewN) | ((with_reducible apply row_up); assumption)))), (by (repeat (first | assumption | ((with_reducible apply row_newc); (focus (first | rfl | (simp; done)))) | ((with_reducible apply row_newz); (focus (first | rfl | (simp; done)))) | (with_reducible apply row_same) | ((with_reducible apply row_else); (focus (first | (simp; done) | (simp; omega) | omega))) | (with_reducible apply row_alloc) | (with_reducible apply row_drew) | (with_reducible apply row_drewN) | ((with_reducible apply row_up); assumption)))), (by (repeat (first | assumption | ((with_reducible apply row_newc); (focus (first | rfl | (simp; done)))) | ((with_reducible apply row_newz); (focus (first | rfl | (simp; done)))) | (with_reducible apply row_same) | ((with_reducible apply row_else); (focus (first | (simp; done) | (simp; omega) | omega))) | (with_reducible apply row_alloc) | (with_reducible apply row_drew) | (with_reducible apply row_drewN) | ((with_reducible apply row_up); assumption)))), (by (repeat (first | assumption | ((with_reducible apply row_newc); (focus (first | rfl | (simp; done)))) | ((with_reducible apply row_newz); (focus (first | rfl | (simp; done)))) | (with_reducible apply row_same) | ((with_reducible apply row_else); (focus (first | (simp; done) | (simp; omega) | omega))) | (with_reducible apply row_alloc) | (with_reducible apply row_drew) | (with_reducible apply row_drewN) | ((with_reducible apply row_up); assumption)))), (by repeat (first | assumption | (with_reducible apply Up.of) | (with_reducible exact Below.refl _ _) | (with_reducible exact Up.refl _) | ((with_reducible apply bl_setRow); (focus (first | exact Nat.le_refl _ | (simp; done) | (simp; omega) | omega))) | (with_reducible apply below_drewN) | (with_reducible apply Below.drew) | ((with_reducible apply bl_alloc); (focus (first | exact Nat.le_refl _ | (simp; done) | (simp; omega) | omega))) | ((with_reducible apply bl_setCell); (focus (first | exact Nat.le_refl _ | (simp; done) | (simp; omega) | omega))) | ((with_reducible apply up_tr); assumption)))⟩ (fun wS hSS => ?_)
  have ⟨hS1, hS2, hS3, hS4, hSB⟩ := hSS
  clear g1 g2 gB
  refine wpAnyU_pure (i := 0) (d := (some 59)) (v := ?_) rfl rfl (by kernel_rfl) (fun _ _ _ h => h) (fun _ _ h hu => ⟨(h.1).up hu, (h.2.1).up hu, (h.2.2.1).up hu, (h.2.2.2.1).up hu, below_up (h.2.2.2.2) hu⟩) (Or.inl ⟨by rfl, fun w' _ => yu_value ?_⟩) ?_
  rotate_left
  · (go_simp; (try exact rfl))
  try simp only [Act.put, List.setIfInBounds_toArray, List.set_cons_zero, List.set_cons_succ]
  refine wpAnyU_pure (i := 1) (d := (some 60)) (v := _) rfl rfl (by kernel_rfl) (fun _ _ _ h => h) (fun _ _ h hu => ⟨(h.1).up hu, (h.2.1).up hu, (h.2.2.1).up hu, (h.2.2.2.1).up hu, below_up (h.2.2.2.2) hu⟩) (Or.inl ⟨by rfl, fun w' _ => yu_value (op_quo64 rfl rfl rfl li hqi _)⟩) ?_
  try simp only [Act.put, List.setIfInBounds_toArray, List.set_cons_zero, List.set_cons_succ]
  refine wpAnyU_pure (i := 2) (d := (some 61)) (v := ?_) rfl rfl (by kernel_rfl) (fun _ _ _ h => h) (fun _ _ h hu => ⟨(h.1).up hu, (h.2.1).up hu, (h.2.2.1).up hu, (h.2.2.2.1).up hu, below_up (h.2.2.2.2) hu⟩) (Or.inl ⟨by rfl, fun w' _ => yu_value ?_⟩) ?_
  rotate_left
  · (go_simp; (try exact rfl))
  try simp only [Act.put, List.setIfInBounds_toArray, List.set_cons_zero, List.set_cons_succ]
  refine wpAnyU_pure (i := 3) (d := (some 62)) (v := _) rfl rfl (by kernel_rfl) (fun _ _ _ h => h) (fun _ _ h hu => ⟨(h.1).up hu, (h.2.1).up hu, (h.2.2.1).up hu, (h.2.2.2.1).up hu, below_up (h.2.2.2.2) hu⟩) (Or.inl ⟨by rfl, fun w' _ => yu_value (op_quo64 rfl rfl rfl lj hqj _)⟩) ?_
  try simp only [Act.put, List.setIfInBounds_toArray, List.set_cons_zero, List.set_cons_succ]
  refine wpAnyU_pure (i := 4) (d := (some 63)) (v := ?_) rfl rfl (by kernel_rfl) (fun _ _ _ h => h) (fun _ _ h hu => ⟨(h.1).up hu, (h.2.1).up hu, (h.2.2.1).up hu, (h.2.2.2.1).up hu, below_up (h.2.2.2.2) hu⟩) (Or.inl ⟨by rfl, fun w' _ => yu_value ?_⟩) ?_
  rotate_left
  · (go_simp; (try exact rfl))
  try simp only [Act.put, List.setIfInBounds_toArray, List.set_cons_zero, List.set_cons_succ]
  refine wpAnyU_pure (i := 5) (d := (some 64)) (v := _) rfl rfl (by kernel_rfl) (fun _ _ _ h => h) (fun _ _ h hu => ⟨(h.1).up hu, (h.2.1).up hu, (h.2.2.1).up hu, (h.2.2.2.1).up hu, below_up (h.2.2.2.2) hu⟩) (Or.inl ⟨by rfl, fun w' _ => yu_value (op_rem64 rfl rfl rfl hri _)⟩) ?_
  try simp only [Act.put, List.setIfInBounds_toArray, List.set_cons_zero, List.set_cons_succ]
  refine wpAnyU_pure (i := 6) (d := (some 65)) (v := _) rfl rfl (by kernel_rfl) (fun _ _ _ h => h) (fun _ _ h hu => ⟨(h.1).up hu, (h.2.1).up hu, (h.2.2.1).up hu, (h.2.2.2.1).up hu, below_up (h.2.2.2.2) hu⟩) (Or.inl ⟨by rfl, fun w' _ => yu_value (op_shl1 rfl rfl rfl (by omega) _)⟩) ?_
  try simp only [Act.put, List.setIfInBounds_toArray, List.set_cons_zero, List.set_cons_succ]
  refine wpAnyU_pure (i := 7) (d := (some 66)) (v := ?_) rfl rfl (by kernel_rfl) (fun _ _ _ h => h) (fun _ _ h hu => ⟨(h.1).up hu, (h.2.1).up hu, (h.2.2.1).up hu, (h.2.2.2.1).up hu, below_up (h.2.2.2.2) hu⟩) (Or.inl ⟨by rfl, fun w' _ => yu_value ?_⟩) ?_
  rotate_left
  · (go_simp; (try exact rfl))
  try simp only [Act.put, List.setIfInBounds_toArray, List.set_cons_zero, List.set_cons_succ]
  refine wpAnyU_pure (i := 8) (d := (some 67)) (v := _) rfl rfl (by kernel_rfl) (fun _ _ _ h => h) (fun _ _ h hu => ⟨(h.1).up hu, (h.2.1).up hu, (h.2.2.1).up hu, (h.2.2.2.1).up hu, below_up (h.2.2.2.2) hu⟩) (Or.inl ⟨by rfl, fun w' _ => yu_value (op_rem64 rfl rfl rfl hrj _)⟩) ?_
  try simp only [Act.put, List.setIfInBounds_toArray, List.set_cons_zero, List.set_cons_succ]
  refine wpAnyU_pure (i := 9) (d := (some 68)) (v := _) rfl rfl (by kernel_rfl) (fun _ _ _ h => h) (fun _ _ h hu => ⟨(h.1).up hu, (h.2.1).up hu, (h.2.2.1).up hu, (h.2.2.2.1).up hu, below_up (h.2.2.2.2) hu⟩) (Or.inl ⟨by rfl, fun w' _ => yu_value (op_shl1 rfl rfl rfl (by omega) _)⟩) ?_
  try simp only [Act.put, List.setIfInBounds_toArray, List.set_cons_zero, List.set_cons_succ]
  refine wpAnyU_pure (i := 10) (d := (some 69)) (v := ?_) rfl rfl (by kernel_rfl) (fun _ _ _ h => h) (fun _ _ h hu => ⟨(h.1).up hu, (h.2.1).up hu, (h.2.2.1).up hu, (h.2.2.2.1).up hu, below_up (h.2.2.2.2) hu⟩) (Or.inl ⟨by rfl, fun w' _ => yu_value ?_⟩) ?_
  rotate_left
  · (go_simp; (try exact rfl))
  try simp only [Act.put, List.setIfInBounds_toArray, List.set_cons_zero, List.set_cons_succ]
  refine wpAnyU_one (i := 11) rfl (by kernel_rfl) (by rfl) fun w1 hw1 => ?_
  have hcW := (hS1.up hw1).cell qi (by omega)
  have hfW := (hS1.up hw1).frozen qi
  go_simp
  clear hcW hfW
  have gY1 := (hS2.up hw1).other ⟨wF.heap.size, qi, none⟩ (.int .u64 (2 ^ ri : Nat)) (show wF.heap.size + 1 ≠ wF.heap.size by omega)
  refine wpAnyU_pure (i := 12) (d := (some 70)) (v := ?_) rfl rfl (by kernel_rfl) (fun _ _ _ h => h) (fun _ _ h hu => ⟨(h.1).up hu, (h.2.1).up hu, (h.2.2.1).up hu, (h.2.2.2.1).up hu, below_up (h.2.2.2.2) hu⟩) (Or.inl ⟨by rfl, fun w' _ => yu_value ?_⟩) ?_
  rotate_left
  · (go_simp; (try exact rfl))
  try simp only [Act.put, List.setIfInBounds_toArray, List.set_cons_zero, List.set_cons_succ]
  refine wpAnyU_one (i := 13) rfl (by kernel_rfl) (by rfl) fun w2 hw2 => ?_
  have hcW := (gY1.up hw2).cell qj (by omega)
  have hfW := (gY1.up hw2).frozen qj
  go_simp
  clear hcW hfW
  refine wpAnyU_done (by kernel_rfl) (fun wG huE => ?_) _
  have gX := ((((hS1.up hw1).set qi (2 ^ ri)).up hw2).other ⟨wF.heap.size + 1, qj, none⟩ (.int .u64 (2 ^ rj : Nat)) (show wF.heap.size ≠ wF.heap.size + 1 by omega)).up huE
  have gY := ((gY1.up hw2).set qj (2 ^ rj)).up huE
  have gK := ((((hS3.up hw1).other ⟨wF.heap.size, qi, none⟩ (.int .u64 (2 ^ ri : Nat)) (show wK.heap.size ≠ wF.heap.size by omega)).up hw2).other ⟨wF.heap.size + 1, qj, none⟩ (.int .u64 (2 ^ rj : Nat)) (show wK.heap.size ≠ wF.heap.size + 1 by omega)).up huE
  have gA := ((((hS4.up hw1).other ⟨wF.heap.size, qi, none⟩ (.int .u64 (2 ^ ri : Nat)) (show wA.heap.size ≠ wF.heap.size by omega)).up hw2).other ⟨wF.heap.size + 1, qj, none⟩ (.int .u64 (2 ^ rj : Nat)) (show wA.heap.size ≠ wF.heap.size + 1 by omega)).up huE
  have gB := below_up ((below_up ((below_up hSB hw1).setCell (p := ⟨wF.heap.size, qi, none⟩) m6 (.int .u64 (2 ^ ri : Nat))) hw2).setCell (p := ⟨wF.heap.size + 1, qj, none⟩) (show w.heap.size ≤ wF.heap.size + 1 by omega) (.int .u64 (2 ^ rj : Nat))) huE
  have gX' : Row wG wF.heap.size 27 16 (limb Pi) := gX.congr fun m _ => ((gXe.out m).trans (by unfold upd; rfl)).symm
  have gY' : Row wG (wF.heap.size + 1) 27 16 (limb Pj) := gY.congr fun m _ => ((gYe.out m).trans (by unfold upd; rfl)).symm
  clear hS1 hS2 hS3 hS4 hSB hSS hw1 hw2 huE gX gY gY1
  generalize wF.heap.size = bX at *
  have q1 := gK.lt
  have q2 := gA.lt
  have q3 := gB.size
  have E1 : IntKind.i64.wrap ((i : Int) + (j : Int)) = (i : Int) + (j : Int) := IntWalk.i64_in _ (by omega)
  have E2 : IntKind.i64.wrap ((i : Int) + (j : Int) + 1) = (i : Int) + (j : Int) + 1 := IntWalk.i64_in _ (by omega)
  have gX := gX'
  have gY := gY'
  clear gX' gY' q1 q2 q3
  generalize wK.heap.size = bK at *
  generalize wA.heap.size = bA at *
  obtain ⟨pv, bv, hXX⟩ : ∃ (pv : Nat) (bv : Bool), opt ((2 ^ (i + j) : Nat) : Int) = .tuple #[.agg (cells 16 (limb pv)), .bool bv] ∧ IsP ((i : Int) + (j : Int) < 1023) bv ∧ (i + j < 1023 → pv = enc ((2 ^ (i + j) : Nat) : Int)) := by
    by_cases hij : i + j < 1023
    · exact ⟨_, true, by rw [opt_yes (hIn.out.2 hij)]; rfl, IsP.yes (by omega), fun _ => rfl⟩
    · exact ⟨enc 0, false, by rw [opt_no (fun h => hij (hIn.out.1 h)), zero_limb], IsP.no (by omega), fun h => absurd h hij⟩
  obtain ⟨hx1, hx2, hx3⟩ := hXX
  have hX := HX.out
  rw [hx1] at hX
  have HXX := hid hX
  have HV := hid hx2
  have HE3 := hid hx3
  clear hX HX hx1 hx2 hx3
  have k1 := gK.lt
  have k2 := gA.lt
  have k3 := gB.size
  go_upto_region 13 with (first | ((with_reducible apply ld_rowP undW infoW); exact rfl; exact rfl; focus (repeat (first | assumption | ((with_reducible apply row_newc); (focus (first | rfl | (simp; done)))) | ((with_reducible apply row_newz); (focus (first | rfl | (simp; done)))) | (with_reducible apply row_same) | ((with_reducible apply row_else); (focus (first | (simp; done) | (simp; omega) | omega))) | (with_reducible apply row_alloc) | (with_reducible apply row_drew) | (with_reducible apply row_drewN) | ((with_reducible apply row_up); assumption)))) | ((with_reducible apply st_rowP infoW); exact rfl; exact rfl; focus (repeat (first | assumption | ((with_reducible apply row_newc); (focus (first | rfl | (simp; done)))) | ((with_reducible apply row_newz); (focus (first | rfl | (simp; done)))) | (with_reducible apply row_same) | ((with_reducible apply row_else); (focus (first | (simp; done) | (simp; omega) | omega))) | (with_reducible apply row_alloc) | (with_reducible apply row_drew) | (with_reducible apply row_drewN) | ((with_reducible apply row_up); assumption)))) | ((with_reducible apply st_rowZ infoW); exact rfl; exact rfl; focus (repeat (first | assumption | ((with_reducible apply row_newc); (focus (first | rfl | (simp; done)))) | ((with_reducible apply row_newz); (focus (first | rfl | (simp; done)))) | (with_reducible apply row_same) | ((with_reducible apply row_else); (focus (first | (simp; done) | (simp; omega) | omega))) | (with_reducible apply row_alloc) | (with_reducible apply row_drew) | (with_reducible apply row_drewN) | ((with_reducible apply row_up); assumption)))) | (go_at_call 15; (with_reducible refine (HXX.out _).mono ?_); rintro e wX ⟨rfl, hu⟩; have hsz := hu.size))
  try simp only [Act.put]
  refine wp_world (fun wd => Row wd wX.heap.size 27 16 (limb pv) ∧ Row wd bK 27 16 (limb hb) ∧ Row wd bA 27 16 (limb em) ∧ Below w.heap.size w wd) ⟨(by (repeat (first | assumption | ((with_reducible apply row_newc); (focus (first | rfl | (simp; done)))) | ((with_reducible apply row_newz); (focus (first | rfl | (simp; done)))) | (with_reducible apply row_same) | ((with_reducible apply row_else); (focus (first | (simp; done) | (simp; omega) | omega))) | (with_reducible apply row_alloc) | (with_reducible apply row_drew) | (with_reducible apply row_drewN) | ((with_reducible apply row_up); assumption)))), (by (repeat (first | assumption | ((with_reducible apply row_newc); (focus (first | rfl | (simp; done)))) | ((with_reducible apply row_newz); (focus (first | rfl | (simp; done)))) | (with_reducible apply row_same) | ((with_reducible apply row_else); (focus (first | (simp; done) | (simp; omega) | omega))) | (with_reducible apply row_alloc) | (with_reducible apply row_drew) | (with_reducible apply row_drewN) | ((with_reducible apply row_up); assumption)))), (by (repeat (first | assumption | ((with_reducible apply row_newc); (focus (first | rfl | (simp; done)))) | ((with_reducible apply row_newz); (focus (first | rfl | (simp; done)))) | (with_reducible apply row_same) | ((with_reducible apply row_else); (focus (first | (simp; done) | (simp; omega) | omega))) | (with_reducible apply row_alloc) | (with_reducible apply row_drew) | (with_reducible apply row_drewN) | ((with_reducible apply row_up); assumption)))), (by repeat (first | assumption | (with_reducible apply Up.of) | (with_reducible exact Below.refl _ _) | (with_reducible exact Up.refl _) | ((with_reducible apply bl_setRow); (focus (first | exact Nat.le_refl _ | (simp; done) | (simp; omega) | omega))) | (with_reducible apply below_drewN) | (with_reducible apply Below.drew) | ((with_reducible apply bl_alloc); (focus (first | exact Nat.le_refl _ | (simp; done) | (simp; omega) | omega))) | ((with_reducible apply bl_setCell); (focus (first | exact Nat.le_refl _ | (simp; done) | (simp; omega) | omega))) | ((with_reducible apply up_tr); assumption)))⟩ (fun wE hE => ?_)
  clear gX gY gK gA gB k1 k2 k3 hu hsz HXX
  obtain ⟨gP, gK, gA, gB⟩ := hE
  generalize wX.heap.size = bP at *
  have hlt := HV.out
  by_cases hij : i + j < 1023
  · obtain rfl : bv = true := by have := hlt.dec; rw [← this]; exact decide_eq_true (by omega)
    have hY := hP.out hij
    rw [← HE3.out hij] at hY
    rw [Int.natAbs_natCast, blen_pow, show ((i + j + 1 : Nat) : Int) = (i : Int) + (j : Int) + 1 by omega] at hY
    unfold wideV at hY
    have HYY := hid hY
    clear hY hP hE hIn HE3 HV
    go_wp2_with (first | go_skip | ((with_reducible apply ld_rowP undW infoW); exact rfl; exact rfl; focus (repeat (first | assumption | ((with_reducible apply row_newc); (focus (first | rfl | (simp; done)))) | ((with_reducible apply row_newz); (focus (first | rfl | (simp; done)))) | (with_reducible apply row_same) | ((with_reducible apply row_else); (focus (first | (simp; done) | (simp; omega) | omega))) | (with_reducible apply row_alloc) | (with_reducible apply row_drew) | (with_reducible apply row_drewN) | ((with_reducible apply row_up); assumption)))) | ((with_reducible apply lssIP); exact rfl; exact rfl; exact rfl; assumption; (try simp only [Act.put, List.setIfInBounds_toArray, List.set_cons_zero, List.set_cons_succ])) | (go_at_call 22; (with_reducible refine (HG.out _).mono ?_); rintro e wZ ⟨rfl, hu⟩) | (go_at_call 24; (first | (with_reducible refine (HB.out _).mono ?_) | (with_reducible refine (HC.out _).mono ?_) | (with_reducible refine (HYY.out _).mono ?_)); rintro e wY ⟨rfl, hu⟩))
    go_ret
    exact ⟨rfl, (by repeat (first | assumption | (with_reducible apply Up.of) | (with_reducible exact Below.refl _ _) | (with_reducible exact Up.refl _) | ((with_reducible apply bl_setRow); (focus (first | exact Nat.le_refl _ | (simp; done) | (simp; omega) | omega))) | (with_reducible apply below_drewN) | (with_reducible apply Below.drew) | ((with_reducible apply bl_alloc); (focus (first | exact Nat.le_refl _ | (simp; done) | (simp; omega) | omega))) | ((with_reducible apply bl_setCell); (focus (first | exact Nat.le_refl _ | (simp; done) | (simp; omega) | omega))) | ((with_reducible apply up_tr); assumption)))⟩
  · obtain rfl : bv = false := by have := hlt.dec; rw [← this]; exact decide_eq_false (by omega)
    clear hP hE hIn HE3 HV hij
    go_wp2_with (first | go_skip | ((with_reducible apply ld_rowP undW infoW); exact rfl; exact rfl; focus (repeat (first | assumption | ((with_reducible apply row_newc); (focus (first | rfl | (simp; done)))) | ((with_reducible apply row_newz); (focus (first | rfl | (simp; done)))) | (with_reducible apply row_same) | ((with_reducible apply row_else); (focus (first | (simp; done) | (simp; omega) | omega))) | (with_reducible apply row_alloc) | (with_reducible apply row_drew) | (with_reducible apply row_drewN) | ((with_reducible apply row_up); assumption)))) | ((with_reducible apply lssIP); exact rfl; exact rfl; exact rfl; assumption; (try simp only [Act.put, List.setIfInBounds_toArray, List.set_cons_zero, List.set_cons_succ])) | (go_at_call 22; (with_reducible refine (HG.out _).mono ?_); rintro e wZ ⟨rfl, hu⟩) | (go_at_call 24; (first | (with_reducible refine (HB.out _).mono ?_) | (with_reducible refine (HC.out _).mono ?_)); rintro e wY ⟨rfl, hu⟩))
    go_ret
    exact ⟨rfl, (by repeat (first | assumption | (with_reducible apply Up.of) | (with_reducible exact Below.refl _ _) | (with_reducible exact Up.refl _) | ((with_reducible apply bl_setRow); (focus (first | exact Nat.le_refl _ | (simp; done) | (simp; omega) | omega))) | (with_reducible apply below_drewN) | (with_reducible apply Below.drew) | ((with_reducible apply bl_alloc); (focus (first | exact Nat.le_refl _ | (simp; done) | (simp; omega) | omega))) | ((with_reducible apply bl_setCell); (focus (first | exact Nat.le_refl _ | (simp; done) | (simp; omega) | omega))) | ((with_reducible apply up_tr); assumption)))⟩

end Go.Proofs.Ytlkolfnklbldcaa
