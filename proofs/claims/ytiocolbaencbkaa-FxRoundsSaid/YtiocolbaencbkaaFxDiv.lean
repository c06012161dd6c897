/-
  fx.MulDiv: the nearest whole number to a product over a number.
-/
import Derived.Test.YtiocolbaencbkaaKnown
import Derived.Test.YtiocolbaencbkaaFx
namespace Go.Proofs.Ytiocolbaencbkaa
open Go Go.RowKit
set_option maxRecDepth 100000

theorem hb_deep : 3138550867693340381917894711603833208051177722232017256448 ≤ hb := by
  have h1 := bp_mono (show 2 ≤ 15 by decide)
  have h2 : bp 2 = 340282366920938463463374607431768211456 := by rw [bp_succ, bp_succ, bp_zero]
  unfold hb
  generalize bp 15 = b at *
  omega
/-- A product of two numbers of 64 bits is small. -/
theorem prod_small {a b : Int} (a1 : -9223372036854775808 ≤ a) (a2 : a < 9223372036854775808) (b1 : -9223372036854775808 ≤ b) (b2 : b < 9223372036854775808) :
    -85070591730234615865843651857942052864 ≤ a * b ∧ a * b ≤ 85070591730234615865843651857942052864 := by
  have h : (a * b).natAbs ≤ 9223372036854775808 * 9223372036854775808 := by
    rw [Int.natAbs_mul]
    exact Nat.mul_le_mul (by omega) (by omega)
  generalize a * b = p at *
  omega
/-- What MulDiv tells. -/
def nearV (a b c : Int) : Value := if 0 < c then i64V ((2 * (a * b) + c) / (2 * c)) else .tuple #[.int .i64 0, .bool false]
set_option maxHeartbeats 2000000 in
theorem fx_muldiv (a b c : Int) (a1 : -9223372036854775808 ≤ a) (a2 : a < 9223372036854775808) (b1 : -9223372036854775808 ≤ b) (b2 : b < 9223372036854775808) (c1 : -9223372036854775808 ≤ c) (c2 : c < 9223372036854775808) (w : World) :
    Calls Try.prog 51 #[.int .i64 a, .int .i64 b, .int .i64 c] w fun e w' => e = .returned (nearV a b c) ∧ Up w w' := by
  have hd := hb_deep
  have hab := prod_small a1 a2 b1 b2
  have HOA := hid (fun w => of_any a a1 a2 w)
  have HOB := hid (fun w => of_any b b1 b2 w)
  have HOC := hid (fun w => of_any c c1 c2 w)
  have ia := small_in a a1 a2
  have ib := small_in b b1 b2
  have ic := small_in c c1 c2
  have ip : InR (a * b) := InR.mk' (by omega)
  have hM := fun w => mul_z ia ib w
  rw [opt_yes ip] at hM
  have HM := hid hM
  clear hM
  have hn : nearV a b c = if 0 < c then i64V ((2 * (a * b) + c) / (2 * c)) else .tuple #[.int .i64 0, .bool false] := rfl
  generalize a * b = p at *
  have hR := fun w => round_z ip ic (fun h0 _ _ _ w => by
    by_cases hlt : (p + p + c).natAbs < (c + c).natAbs
    · exact divide_less _ _ (by have := bp16; omega) (small_lt (by omega)) hlt w
    · exact divide_one _ _ (by have := bp16; omega) (small_lt (by omega)) hlt (one_limb (by omega) (by omega)) w) w
  by_cases h0 : 0 < c
  · rw [show roundV p c = .tuple #[wideV (enc ((2 * p + c) / (2 * c))), .bool true] from by
      unfold roundV
      rw [if_pos ⟨h0, InR.mk' (by omega), InR.mk' (by omega), InR.mk' (by omega)⟩]] at hR
    have HR := hid hR
    have iq : InR ((2 * p + c) / (2 * c)) := by
      have h1 := Int.ediv_mul_add_emod (2 * p + c) (2 * c)
      have h2 := Int.emod_nonneg (2 * p + c) (show 2 * c ≠ 0 by omega)
      have h3 := Int.emod_lt_of_pos (2 * p + c) (show 0 < 2 * c by omega)
      generalize (2 * p + c) / (2 * c) = q at *
      generalize (2 * p + c) % (2 * c) = r at *
      have h4 : q * (2 * c) ≤ 2 * p + c := by omega
      have h5 : 2 * p + c < q * (2 * c) + 2 * c := by omega
      refine InR.mk' ⟨?_, ?_⟩
      · by_cases hq : q < 0
        · have h6 : q * (2 * c) ≤ q * 1 := Int.mul_le_mul_of_nonpos_left (by omega) (by omega)
          have h7 : (q + 1) * (2 * c) ≤ (q + 1) * 1 := Int.mul_le_mul_of_nonpos_left (by omega) (by omega)
          rw [Int.add_mul, Int.one_mul] at h7
          omega
        · omega
      · by_cases hq : 0 < q
        · have h6 : q * 1 ≤ q * (2 * c) := Int.mul_le_mul_of_nonneg_left (by omega) (by omega)
          omega
        · omega
    have hI := fun w => int64_z iq w
    rw [hn, if_pos h0]
    obtain ⟨x, ok, hx⟩ : ∃ x ok, i64V ((2 * p + c) / (2 * c)) = .tuple #[.int .i64 x, .bool ok] := ⟨_, _, rfl⟩
    rw [hx] at hI ⊢
    have HI := hid hI
    clear hI hR hx hn iq ia ib ic ip hab hd h0
    generalize enc ((2 * p + c) / (2 * c)) = eq at *
    generalize enc p = ep at *
    generalize enc a = ea at *
    generalize enc b = eb at *
    generalize enc c = ec at *
    unfold wideV at *
    go_enter Try.func51, Try.ntmps51
    go_wp2_with (first | ((with_reducible apply ld_rowP undW infoW); exact rfl; exact rfl; focus (repeat (first | assumption | ((with_reducible apply row_newc); (focus (first | rfl | (simp; done)))) | ((with_reducible apply row_newz); (focus (first | rfl | (simp; done)))) | (with_reducible apply row_same) | ((with_reducible apply row_else); (focus (first | (simp; done) | (simp; omega) | omega))) | (with_reducible apply row_alloc) | (with_reducible apply row_drew) | (with_reducible apply row_drewN) | ((with_reducible apply row_up); assumption)))) | ((with_reducible apply st_rowP infoW); exact rfl; exact rfl; focus (repeat (first | assumption | ((with_reducible apply row_newc); (focus (first | rfl | (simp; done)))) | ((with_reducible apply row_newz); (focus (first | rfl | (simp; done)))) | (with_reducible apply row_same) | ((with_reducible apply row_else); (focus (first | (simp; done) | (simp; omega) | omega))) | (with_reducible apply row_alloc) | (with_reducible apply row_drew) | (with_reducible apply row_drewN) | ((with_reducible apply row_up); assumption)))) | ((with_reducible apply st_rowZ infoW); exact rfl; exact rfl; focus (repeat (first | assumption | ((with_reducible apply row_newc); (focus (first | rfl | (simp; done)))) | ((with_reducible apply row_newz); (focus (first | rfl | (simp; done)))) | (with_reducible apply row_same) | ((with_reducible apply row_else); (focus (first | (simp; done) | (simp; omega) | omega))) | (with_reducible apply row_alloc) | (with_reducible apply row_drew) | (with_reducible apply row_drewN) | ((with_reducible apply row_up); assumption)))) | (go_at_call 40; (first | (with_reducible refine (HOA.out _).mono ?_) | (with_reducible refine (HOB.out _).mono ?_)); rintro e w' ⟨rfl, hu⟩; have hsz := hu.size; (try simp at hsz)) | (go_at_call 22; (with_reducible refine (HM.out _).mono ?_); rintro e wM ⟨rfl, hu⟩; have hsz := hu.size; (try simp at hsz)))
    have hszM := hu.size
    refine wp_region_upS (S := (fun wq => Row wq wM.heap.size 27 16 (limb ep) ∧ Below w.heap.size w wq)) (req := (fun j => j != 8)) (by kernel_rfl) (fun _ _ h hu => ⟨(h.1).up hu, below_up (h.2) hu⟩) ⟨(by (repeat (first | assumption | ((with_reducible apply row_newc); (focus (first | rfl | (simp; done)))) | ((with_reducible apply row_newz); (focus (first | rfl | (simp; done)))) | (with_reducible apply row_same) | ((with_reducible apply row_else); (focus (first | (simp; done) | (simp; omega) | omega))) | (with_reducible apply row_alloc) | (with_reducible apply row_drew) | (with_reducible apply row_drewN) | ((with_reducible apply row_up); assumption)))), (by repeat (first | assumption | (with_reducible apply Up.of) | (with_reducible exact Below.refl _ _) | (with_reducible exact Up.refl _) | ((with_reducible apply bl_setRow); (focus (first | exact Nat.le_refl _ | (simp; done) | (simp; omega) | omega))) | (with_reducible apply below_drewN) | (with_reducible apply Below.drew) | ((with_reducible apply bl_alloc); (focus (first | exact Nat.le_refl _ | (simp; done) | (simp; omega) | omega))) | ((with_reducible apply bl_setCell); (focus (first | exact Nat.le_refl _ | (simp; done) | (simp; omega) | omega))) | ((with_reducible apply up_tr); assumption)))⟩ (fun wS hSS => ?_)
    have ⟨hS1, hSB⟩ := hSS
    refine wpAnyU_take (i := 0) (d := (some 21)) (v := _) rfl rfl (by kernel_rfl) (fun _ _ _ h => h) (fun _ _ h hu => ⟨(h.1).up hu, below_up (h.2) hu⟩) hSS (Or.inl ⟨by rfl, fun w' hSw => yu_value (run_ld undW infoW _ rfl _ rfl hSw.1)⟩) ?_
    try simp only [Act.put, List.setIfInBounds_toArray, List.set_cons_zero, List.set_cons_succ]
    refine wpAnyU_pure (i := 1) (d := (some 22)) (v := ?_) rfl rfl (by kernel_rfl) (fun _ _ _ h => h) (fun _ _ h hu => ⟨(h.1).up hu, below_up (h.2) hu⟩) (Or.inl ⟨by rfl, fun w' _ => yu_value ?_⟩) ?_
    rotate_left
    · (go_simp; (try exact rfl))
    try simp only [Act.put, List.setIfInBounds_toArray, List.set_cons_zero, List.set_cons_succ]
    refine wpAnyU_take (i := 2) (d := (some 23)) (v := _) rfl rfl (by kernel_rfl) (fun _ _ _ h => h) (fun _ _ h hu => ⟨(h.1).up hu, below_up (h.2) hu⟩) hSS (Or.inl ⟨by rfl, fun w' hSw => yu_call ?_ (HOC.out _)⟩) ?_
    · go_simp
    try simp only [Act.put, List.setIfInBounds_toArray, List.set_cons_zero, List.set_cons_succ]
    refine wpAnyU_take (i := 3) (d := (some 24)) (v := _) rfl rfl (by kernel_rfl) (fun _ _ _ h => h) (fun _ _ h hu => ⟨(h.1).up hu, below_up (h.2) hu⟩) hSS (Or.inl ⟨by rfl, fun w' hSw => yu_call ?_ (HR.out _)⟩) ?_
    · go_simp
    try simp only [Act.put, List.setIfInBounds_toArray, List.set_cons_zero, List.set_cons_succ]
    refine wpAnyU_pure (i := 4) (d := (some 20)) (v := ?_) rfl rfl (by kernel_rfl) (fun _ _ _ h => h) (fun _ _ h hu => ⟨(h.1).up hu, below_up (h.2) hu⟩) (Or.inl ⟨by rfl, fun w' _ => yu_value ?_⟩) ?_
    rotate_left
    · (go_simp; (try exact rfl))
    try simp only [Act.put, List.setIfInBounds_toArray, List.set_cons_zero, List.set_cons_succ]
    refine wpAnyU_pure (i := 5) (d := (some 25)) (v := ?_) rfl rfl (by kernel_rfl) (fun _ _ _ h => h) (fun _ _ h hu => ⟨(h.1).up hu, below_up (h.2) hu⟩) (Or.inl ⟨by rfl, fun w' _ => yu_value ?_⟩) ?_
    rotate_left
    · (go_simp; (try exact rfl))
    try simp only [Act.put, List.setIfInBounds_toArray, List.set_cons_zero, List.set_cons_succ]
    refine wpAnyU_pure (i := 6) (d := (some 26)) (v := ?_) rfl rfl (by kernel_rfl) (fun _ _ _ h => h) (fun _ _ h hu => ⟨(h.1).up hu, below_up (h.2) hu⟩) (Or.inl ⟨by rfl, fun w' _ => yu_value ?_⟩) ?_
    rotate_left
    · (go_simp; (try exact rfl))
    try simp only [Act.put, List.setIfInBounds_toArray, List.set_cons_zero, List.set_cons_succ]
    refine wpAnyU_allocW (i := 7) (d := (some 10)) rfl rfl (by kernel_rfl) (by rfl) rfl (fun _ _ h hu => ⟨(h.1).up hu, below_up (h.2) hu⟩) fun w1 hw1 => ?_
    try simp only [Act.put, List.setIfInBounds_toArray, List.set_cons_zero, List.set_cons_succ]
    refine wpAnyU_one (i := 8) rfl (by kernel_rfl) (by rfl) fun w2 hw2 => ?_
    refine wp_st_rowN infoW rfl _ _ rfl _ rfl rfl ((Row.up (row_newc _ 16 _ rfl) hw2)) ?_
    refine ⟨fun h => by simp at h, ?_⟩
    try simp only [Act.put, List.setIfInBounds_toArray, List.set_cons_zero, List.set_cons_succ]
    refine wpAnyU_pure (i := 9) (d := (some 11)) (v := ?_) rfl rfl (by kernel_rfl) (fun _ _ _ h => h) (fun _ _ h hu => ⟨(h.1).up hu, below_up (h.2) hu⟩) (Or.inl ⟨by rfl, fun w' _ => yu_value ?_⟩) ?_
    rotate_left
    · (go_simp; (try exact rfl))
    try simp only [Act.put, List.setIfInBounds_toArray, List.set_cons_zero, List.set_cons_succ]
    refine wpAnyU_done (by kernel_rfl) (fun wF huE => ?_) _
    have m1 := hS1.lt
    have m3 := (below_up hSB hw1).size
    have g1 := (((row_newc (w := w1) 27 16 (fun _ => 0) rfl).up hw2).setRow (limb eq)).up huE
    have gB : Below w.heap.size w wF := below_up (below_setRow (below_up ((below_up hSB hw1).alloc m3 _) hw2) m3 _) huE
    clear hS1 hSB hSS hw1 hw2 huE
    generalize w1.heap.size = b1 at *
    go_wp2_with (first | ((with_reducible apply ld_rowP undW infoW); exact rfl; exact rfl; focus (repeat (first | assumption | ((with_reducible apply row_newc); (focus (first | rfl | (simp; done)))) | ((with_reducible apply row_newz); (focus (first | rfl | (simp; done)))) | (with_reducible apply row_same) | ((with_reducible apply row_else); (focus (first | (simp; done) | (simp; omega) | omega))) | (with_reducible apply row_alloc) | (with_reducible apply row_drew) | (with_reducible apply row_drewN) | ((with_reducible apply row_up); assumption)))) | (go_at_call 41; (with_reducible refine (HI.out _).mono ?_); rintro e wI ⟨rfl, hu⟩))
    go_ret2
    exact ⟨rfl, (by repeat (first | assumption | (with_reducible apply Up.of) | (with_reducible exact Below.refl _ _) | (with_reducible exact Up.refl _) | ((with_reducible apply bl_setRow); (focus (first | exact Nat.le_refl _ | (simp; done) | (simp; omega) | omega))) | (with_reducible apply below_drewN) | (with_reducible apply Below.drew) | ((with_reducible apply bl_alloc); (focus (first | exact Nat.le_refl _ | (simp; done) | (simp; omega) | omega))) | ((with_reducible apply bl_setCell); (focus (first | exact Nat.le_refl _ | (simp; done) | (simp; omega) | omega))) | ((with_reducible apply up_tr); assumption)))⟩
  · rw [hn, if_neg h0]
    rw [show roundV p c = .tuple #[.agg (cells 16 (fun _ => 0)), .bool false] from by
      unfold roundV
      rw [if_neg (fun h => h0 h.1)]] at hR
    have HR := hid hR
    clear hR hn ia ib ic ip hab hd h0
    generalize enc p = ep at *
    generalize enc a = ea at *
    generalize enc b = eb at *
    generalize enc c = ec at *
    unfold wideV at *
    go_enter Try.func51, Try.ntmps51
    go_wp2_with (first | ((with_reducible apply ld_rowP undW infoW); exact rfl; exact rfl; focus (repeat (first | assumption | ((with_reducible apply row_newc); (focus (first | rfl | (simp; done)))) | ((with_reducible apply row_newz); (focus (first | rfl | (simp; done)))) | (with_reducible apply row_same) | ((with_reducible apply row_else); (focus (first | (simp; done) | (simp; omega) | omega))) | (with_reducible apply row_alloc) | (with_reducible apply row_drew) | (with_reducible apply row_drewN) | ((with_reducible apply row_up); assumption)))) | ((with_reducible apply st_rowP infoW); exact rfl; exact rfl; focus (repeat (first | assumption | ((with_reducible apply row_newc); (focus (first | rfl | (simp; done)))) | ((with_reducible apply row_newz); (focus (first | rfl | (simp; done)))) | (with_reducible apply row_same) | ((with_reducible apply row_else); (focus (first | (simp; done) | (simp; omega) | omega))) | (with_reducible apply row_alloc) | (with_reducible apply row_drew) | (with_reducible apply row_drewN) | ((with_reducible apply row_up); assumption)))) | ((with_reducible apply st_rowZ infoW); exact rfl; exact rfl; focus (repeat (first | assumption | ((with_reducible apply row_newc); (focus (first | rfl | (simp; done)))) | ((with_reducible apply row_newz); (focus (first | rfl | (simp; done)))) | (with_reducible apply row_same) | ((with_reducible apply row_else); (focus (first | (simp; done) | (simp; omega) | omega))) | (with_reducible apply row_alloc) | (with_reducible apply row_drew) | (with_reducible apply row_drewN) | ((with_reducible apply row_up); assumption)))) | (go_at_call 40; (first | (with_reducible refine (HOA.out _).mono ?_) | (with_reducible refine (HOB.out _).mono ?_)); rintro e w' ⟨rfl, hu⟩; have hsz := hu.size; (try simp at hsz)) | (go_at_call 22; (with_reducible refine (HM.out _).mono ?_); rintro e wM ⟨rfl, hu⟩; have hsz := hu.size; (try simp at hsz)))
    have hszM := hu.size
    refine wp_region_upS (S := (fun wq => Row wq wM.heap.size 27 16 (limb ep) ∧ Below w.heap.size w wq)) (req := (fun j => j != 8)) (by kernel_rfl) (fun _ _ h hu => ⟨(h.1).up hu, below_up (h.2) hu⟩) ⟨(by (repeat (first | assumption | ((with_reducible apply row_newc); (focus (first | rfl | (simp; done)))) | ((with_reducible apply row_newz); (focus (first | rfl | (simp; done)))) | (with_reducible apply row_same) | ((with_reducible apply row_else); (focus (first | (simp; done) | (simp; omega) | omega))) | (with_reducible apply row_alloc) | (with_reducible apply row_drew) | (with_reducible apply row_drewN) | ((with_reducible apply row_up); assumption)))), (by repeat (first | assumption | (with_reducible apply Up.of) | (with_reducible exact Below.refl _ _) | (with_reducible exact Up.refl _) | ((with_reducible apply bl_setRow); (focus (first | exact Nat.le_refl _ | (simp; done) | (simp; omega) | omega))) | (with_reducible apply below_drewN) | (with_reducible apply Below.drew) | ((with_reducible apply bl_alloc); (focus (first | exact Nat.le_refl _ | (simp; done) | (simp; omega) | omega))) | ((with_reducible apply bl_setCell); (focus (first | exact Nat.le_refl _ | (simp; done) | (simp; omega) | omega))) | ((with_reducible apply up_tr); assumption)))⟩ (fun wS hSS => ?_)
    have ⟨hS1, hSB⟩ := hSS
    refine wpAnyU_take (i := 0) (d := (some 21)) (v := _) rfl rfl (by kernel_rfl) (fun _ _ _ h => h) (fun _ _ h hu => ⟨(h.1).up hu, below_up (h.2) hu⟩) hSS (Or.inl ⟨by rfl, fun w' hSw => yu_value (run_ld undW infoW _ rfl _ rfl hSw.1)⟩) ?_
    try simp only [Act.put, List.setIfInBounds_toArray, List.set_cons_zero, List.set_cons_succ]
    refine wpAnyU_pure (i := 1) (d := (some 22)) (v := ?_) rfl rfl (by kernel_rfl) (fun _ _ _ h => h) (fun _ _ h hu => ⟨(h.1).up hu, below_up (h.2) hu⟩) (Or.inl ⟨by rfl, fun w' _ => yu_value ?_⟩) ?_
    rotate_left
    · (go_simp; (try exact rfl))
    try simp only [Act.put, List.setIfInBounds_toArray, List.set_cons_zero, List.set_cons_succ]
    refine wpAnyU_take (i := 2) (d := (some 23)) (v := _) rfl rfl (by kernel_rfl) (fun _ _ _ h => h) (fun _ _ h hu => ⟨(h.1).up hu, below_up (h.2) hu⟩) hSS (Or.inl ⟨by rfl, fun w' hSw => yu_call ?_ (HOC.out _)⟩) ?_
    · go_simp
    try simp only [Act.put, List.setIfInBounds_toArray, List.set_cons_zero, List.set_cons_succ]
    refine wpAnyU_take (i := 3) (d := (some 24)) (v := _) rfl rfl (by kernel_rfl) (fun _ _ _ h => h) (fun _ _ h hu => ⟨(h.1).up hu, below_up (h.2) hu⟩) hSS (Or.inl ⟨by rfl, fun w' hSw => yu_call ?_ (HR.out _)⟩) ?_
    · go_simp
    try simp only [Act.put, List.setIfInBounds_toArray, List.set_cons_zero, List.set_cons_succ]
    refine wpAnyU_pure (i := 4) (d := (some 20)) (v := ?_) rfl rfl (by kernel_rfl) (fun _ _ _ h => h) (fun _ _ h hu => ⟨(h.1).up hu, below_up (h.2) hu⟩) (Or.inl ⟨by rfl, fun w' _ => yu_value ?_⟩) ?_
    rotate_left
    · (go_simp; (try exact rfl))
    try simp only [Act.put, List.setIfInBounds_toArray, List.set_cons_zero, List.set_cons_succ]
    refine wpAnyU_pure (i := 5) (d := (some 25)) (v := ?_) rfl rfl (by kernel_rfl) (fun _ _ _ h => h) (fun _ _ h hu => ⟨(h.1).up hu, below_up (h.2) hu⟩) (Or.inl ⟨by rfl, fun w' _ => yu_value ?_⟩) ?_
    rotate_left
    · (go_simp; (try exact rfl))
    try simp only [Act.put, List.setIfInBounds_toArray, List.set_cons_zero, List.set_cons_succ]
    refine wpAnyU_pure (i := 6) (d := (some 26)) (v := ?_) rfl rfl (by kernel_rfl) (fun _ _ _ h => h) (fun _ _ h hu => ⟨(h.1).up hu, below_up (h.2) hu⟩) (Or.inl ⟨by rfl, fun w' _ => yu_value ?_⟩) ?_
    rotate_left
    · (go_simp; (try exact rfl))
    try simp only [Act.put, List.setIfInBounds_toArray, List.set_cons_zero, List.set_cons_succ]
    refine wpAnyU_allocW (i := 7) (d := (some 10)) rfl rfl (by kernel_rfl) (by rfl) rfl (fun _ _ h hu => ⟨(h.1).up hu, below_up (h.2) hu⟩) fun w1 hw1 => ?_
    try simp only [Act.put, List.setIfInBounds_toArray, List.set_cons_zero, List.set_cons_succ]
    refine wpAnyU_one (i := 8) rfl (by kernel_rfl) (by rfl) fun w2 hw2 => ?_
    refine wp_st_rowN infoW rfl _ _ rfl _ rfl rfl ((Row.up (row_newc _ 16 _ rfl) hw2)) ?_
    refine ⟨fun h => by simp at h, ?_⟩
    try simp only [Act.put, List.setIfInBounds_toArray, List.set_cons_zero, List.set_cons_succ]
    refine wpAnyU_pure (i := 9) (d := (some 11)) (v := ?_) rfl rfl (by kernel_rfl) (fun _ _ _ h => h) (fun _ _ h hu => ⟨(h.1).up hu, below_up (h.2) hu⟩) (Or.inl ⟨by rfl, fun w' _ => yu_value ?_⟩) ?_
    rotate_left
    · (go_simp; (try exact rfl))
    try simp only [Act.put, List.setIfInBounds_toArray, List.set_cons_zero, List.set_cons_succ]
    refine wpAnyU_done (by kernel_rfl) (fun wF huE => ?_) _
    have m1 := hS1.lt
    have m3 := (below_up hSB hw1).size
    have g1 := (((row_newc (w := w1) 27 16 (fun _ => 0) rfl).up hw2).setRow (fun _ => 0)).up huE
    have gB : Below w.heap.size w wF := below_up (below_setRow (below_up ((below_up hSB hw1).alloc m3 _) hw2) m3 _) huE
    clear hS1 hSB hSS hw1 hw2 huE
    generalize w1.heap.size = b1 at *
    go_wp2
    go_ret2
    exact ⟨rfl, (by repeat (first | assumption | (with_reducible apply Up.of) | (with_reducible exact Below.refl _ _) | (with_reducible exact Up.refl _) | ((with_reducible apply bl_setRow); (focus (first | exact Nat.le_refl _ | (simp; done) | (simp; omega) | omega))) | (with_reducible apply below_drewN) | (with_reducible apply Below.drew) | ((with_reducible apply bl_alloc); (focus (first | exact Nat.le_refl _ | (simp; done) | (simp; omega) | omega))) | ((with_reducible apply bl_setCell); (focus (first | exact Nat.le_refl _ | (simp; done) | (simp; omega) | omega))) | ((with_reducible apply up_tr); assumption)))⟩
end Go.Proofs.Ytiocolbaencbkaa
