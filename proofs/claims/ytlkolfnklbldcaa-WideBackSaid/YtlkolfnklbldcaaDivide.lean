/-
  wide.divide: amounts' quotients and rests, by a divisor that is above the dividend, or of one limb.
-/
import Derived.Test.YtlkolfnklbldcaaShort
namespace Go.Proofs.Ytlkolfnklbldcaa
open Go Go.RowKit
set_option maxRecDepth 100000

theorem wp_st_rowZ {P : Program} {t : TypeId} {o : Oper} {a : Act} {w : World} {K : Act → World → Prop} {Q : Exit → Act → World → Prop} (hi : (P.info? t).map (·.size) = some 16) (hd : o.dst = none) (x y : Operand) (ho : o.op = .store t x y) (g : Nat)
    (hx : a.eval x = .pointer (some ⟨g, 0, none⟩)) {f : Nat → Nat} (hy : a.eval y = .agg #[.int .u64 0, .int .u64 0, .int .u64 0, .int .u64 0, .int .u64 0, .int .u64 0, .int .u64 0, .int .u64 0, .int .u64 0, .int .u64 0, .int .u64 0, .int .u64 0, .int .u64 0, .int .u64 0, .int .u64 0, .int .u64 0])
    (hC : Row w g t 16 f) (h : K a (w.setRow g (cells 16 (fun _ => 0)))) : o.wp P a w K Q :=
  wp_st_rowN hi hd x y ho g hx (by rw [hy, zeros16]) hC h
/-- What a division of amounts tells. -/
def divV (x y : Nat) : Value := .tuple #[wideV (x / y), wideV (x % y)]
theorem ordZ_lt {x y : Nat} (h : x < y) : ordZ x y = -1 := by simp [ordZ, h]
theorem ordZ_ge {x y : Nat} (h : ¬ x < y) : 0 ≤ ordZ x y := by
  unfold ordZ
  rw [if_neg h]
  split <;> omega
set_option maxHeartbeats 1000000 in
theorem divide_less (x y : Nat) (hx : x < bp 16) (hy : y < bp 16) (h : x < y) (w : World) :
    Calls Try.prog 53 #[wideV x, wideV y] w fun e w' => e = .returned (divV x y) ∧ Up w w' := by
  have hO := fun w => order_any x y hx hy w
  rw [ordZ_lt h] at hO
  have HO := hid hO
  unfold divV
  rw [Nat.div_eq_of_lt h, Nat.mod_eq_of_lt h, zeroW]
  clear hO
  unfold wideV at *
  go_enter Try.func53, Try.ntmps53
  go_wp2_with (first | ((with_reducible apply ld_rowP undW infoW); exact rfl; exact rfl; focus (repeat (first | assumption | ((with_reducible apply row_newc); (focus (first | rfl | (simp; done)))) | ((with_reducible apply row_newz); (focus (first | rfl | (simp; done)))) | (with_reducible apply row_same) | ((with_reducible apply row_else); (focus (first | (simp; done) | (simp; omega) | omega))) | (with_reducible apply row_alloc) | (with_reducible apply row_drew) | (with_reducible apply row_drewN) | ((with_reducible apply row_up); assumption)))) | (go_at_call 50; refine (HO.out _).mono ?_; rintro e w' ⟨rfl, hu⟩))
  refine wp_region_upS (S := (fun wq => Row wq w.heap.size 27 16 (limb x) ∧ ExRow wq (w.heap.size + 1 + 1) 27 16 ∧ ExRow wq (w.heap.size + 1 + 1 + 1) 27 16 ∧ Below w.heap.size w wq)) (req := (fun j => j != 3)) (by kernel_rfl) (fun _ _ h hu => ⟨(h.1).up hu, (h.2.1).up hu, (h.2.2.1).up hu, below_up (h.2.2.2) hu⟩) ⟨(by (repeat (first | assumption | ((with_reducible apply row_newc); (focus (first | rfl | (simp; done)))) | ((with_reducible apply row_newz); (focus (first | rfl | (simp; done)))) | (with_reducible apply row_same) | ((with_reducible apply row_else); (focus (first | (simp; done) | (simp; omega) | omega))) | (with_reducible apply row_alloc) | (with_reducible apply row_drew) | (with_reducible apply row_drewN) | ((with_reducible apply row_up); assumption)))), ⟨_, (by (repeat (first | assumption | ((with_reducible apply row_newc); (focus (first | rfl | (simp; done)))) | ((with_reducible apply row_newz); (focus (first | rfl | (simp; done)))) | (with_reducible apply row_same) | ((with_reducible apply row_else); (focus (first | (simp; done) | (simp; omega) | omega))) | (with_reducible apply row_alloc) | (with_reducible apply row_drew) | (with_reducible apply row_drewN) | ((with_reducible apply row_up); assumption))))⟩, ⟨_, (by (repeat (first | assumption | ((with_reducible apply row_newc); (focus (first | rfl | (simp; done)))) | ((with_reducible apply row_newz); (focus (first | rfl | (simp; done)))) | (with_reducible apply row_same) | ((with_reducible apply row_else); (focus (first | (simp; done) | (simp; omega) | omega))) | (with_reducible apply row_alloc) | (with_reducible apply row_drew) | (with_reducible apply row_drewN) | ((with_reducible apply row_up); assumption))))⟩, (by repeat (first | assumption | (with_reducible apply Up.of) | (with_reducible exact Below.refl _ _) | (with_reducible exact Up.refl _) | ((with_reducible apply bl_setRow); (focus (first | exact Nat.le_refl _ | (simp; done) | (simp; omega) | omega))) | (with_reducible apply below_drewN) | (with_reducible apply Below.drew) | ((with_reducible apply bl_alloc); (focus (first | exact Nat.le_refl _ | (simp; done) | (simp; omega) | omega))) | ((with_reducible apply bl_setCell); (focus (first | exact Nat.le_refl _ | (simp; done) | (simp; omega) | omega))) | ((with_reducible apply up_tr); assumption)))⟩ (fun wS hSS => ?_)
  have ⟨hS1, hS2, hS3, hSB⟩ := hSS
  clear hu
  refine wpAnyU_pure (i := 0) (d := (some 10)) (v := ?_) rfl rfl (by kernel_rfl) (fun _ _ _ h => h) (fun _ _ h hu => ⟨(h.1).up hu, (h.2.1).up hu, (h.2.2.1).up hu, below_up (h.2.2.2) hu⟩) (Or.inl ⟨by rfl, fun w' _ => yu_value ?_⟩) ?_
  rotate_left
  · (go_simp; (try exact rfl))
  try simp only [Act.put, List.setIfInBounds_toArray, List.set_cons_zero, List.set_cons_succ]
  refine wpAnyU_take (i := 1) (d := (some 11)) (v := _) rfl rfl (by kernel_rfl) (fun _ _ _ h => h) (fun _ _ h hu => ⟨(h.1).up hu, (h.2.1).up hu, (h.2.2.1).up hu, below_up (h.2.2.2) hu⟩) hSS (Or.inl ⟨by rfl, fun w' hSw => yu_value (run_ld undW infoW _ rfl _ rfl hSw.1)⟩) ?_
  try simp only [Act.put, List.setIfInBounds_toArray, List.set_cons_zero, List.set_cons_succ]
  obtain ⟨v3, hS2⟩ := hS2
  obtain ⟨v4, hS3⟩ := hS3
  refine wpAnyU_one (i := 2) rfl (by kernel_rfl) (by rfl) fun w2 hw2 => ?_
  refine wp_st_rowZ infoW rfl _ _ rfl _ rfl rfl (hS2.up hw2) ?_
  refine ⟨fun _ h => ⟨h.1.row_other _ (by omega), h.2.1.st _, h.2.2.1.st _, below_setRow h.2.2.2 (by omega) _⟩, ?_⟩
  refine wpAnyU_one (i := 3) rfl (by kernel_rfl) (by rfl) fun w3 hw3 => ?_
  refine wp_st_rowN infoW rfl _ _ rfl _ rfl rfl ((Row.up (((hS3.up hw2).row_other (cells 16 (fun _ => 0)) (show w.heap.size + 1 + 1 + 1 ≠ w.heap.size + 1 + 1 by omega))) hw3)) ?_
  refine ⟨fun h => by simp at h, ?_⟩
  try simp only [Act.put, List.setIfInBounds_toArray, List.set_cons_zero, List.set_cons_succ]
  refine wpAnyU_done (by kernel_rfl) (fun wF huE => ?_) _
  have gA := ((((hS2.up hw2).setRow (fun _ => 0)).up hw3).row_other (cells 16 (limb x)) (show w.heap.size + 1 + 1 ≠ w.heap.size + 1 + 1 + 1 by omega)).up huE
  have gC := (((hS3.up hw2).row_other (cells 16 (fun _ => 0)) (show w.heap.size + 1 + 1 + 1 ≠ w.heap.size + 1 + 1 by omega)).up hw3).setRow (limb x)
  replace gC := gC.up huE
  have gB := below_up (below_setRow (below_up (below_setRow (below_up hSB hw2) (show w.heap.size ≤ w.heap.size + 1 + 1 by omega) (cells 16 (fun _ => 0))) hw3) (show w.heap.size ≤ w.heap.size + 1 + 1 + 1 by omega) (cells 16 (limb x))) huE
  clear hS1 hS2 hS3 hSB hSS hw2 hw3 huE
  go_wp2
  exact bodyPost_ret (resCC rfl undW infoW _ _ _ rfl rfl gA gC) rfl ⟨rfl, gB⟩
set_option maxHeartbeats 1000000 in
theorem divide_one (x y : Nat) (hx : x < bp 16) (hy : y < bp 16) (h : ¬ x < y) (h1 : lenL (limb y) 16 = 1) (w : World) :
    Calls Try.prog 53 #[wideV x, wideV y] w fun e w' => e = .returned (divV x y) ∧ Up w w' := by
  have hO := fun w => order_any x y hx hy w
  have ho := ordZ_ge h
  have hL := fun w => length_any y w
  rw [h1] at hL
  have hy1 : limb y 0 = y := by
    have e := limb_len y hy
    rw [h1, sumL_succ, sumL_zero, bp_zero] at e
    omega
  have hyl := limb_lt y 0
  rw [hy1] at hyl
  have hy0 : 0 < y := by
    have := lenL_top (limb y) 16 (by omega)
    rw [h1] at this
    have e : limb y (1 - 1) = limb y 0 := rfl
    rw [e, hy1] at this
    omega
  have HS := hid (fun w => short_any x y hx hyl hy0 w)
  have HO := hid hO
  have HL := hid hL
  have Hy1 := hid hy1
  unfold divV
  clear hO hL hy1 h h1
  generalize ordZ x y = oz at *
  have hoz : ¬ oz < 0 := by omega
  obtain ⟨q, eq⟩ : ∃ q, x / y = q := ⟨_, rfl⟩
  obtain ⟨r, er⟩ : ∃ r, x % y = r := ⟨_, rfl⟩
  rw [eq, er] at HS ⊢
  clear eq er
  unfold wideV at *
  go_enter Try.func53, Try.ntmps53
  go_wp2_with (first | ((with_reducible apply ld_rowP undW infoW); exact rfl; exact rfl; focus (repeat (first | assumption | ((with_reducible apply row_newc); (focus (first | rfl | (simp; done)))) | ((with_reducible apply row_newz); (focus (first | rfl | (simp; done)))) | (with_reducible apply row_same) | ((with_reducible apply row_else); (focus (first | (simp; done) | (simp; omega) | omega))) | (with_reducible apply row_alloc) | (with_reducible apply row_drew) | (with_reducible apply row_drewN) | ((with_reducible apply row_up); assumption)))) | ((with_reducible apply st_rowP infoW); exact rfl; exact rfl; focus (repeat (first | assumption | ((with_reducible apply row_newc); (focus (first | rfl | (simp; done)))) | ((with_reducible apply row_newz); (focus (first | rfl | (simp; done)))) | (with_reducible apply row_same) | ((with_reducible apply row_else); (focus (first | (simp; done) | (simp; omega) | omega))) | (with_reducible apply row_alloc) | (with_reducible apply row_drew) | (with_reducible apply row_drewN) | ((with_reducible apply row_up); assumption)))) | ((with_reducible apply st_rowZ infoW); exact rfl; exact rfl; focus (repeat (first | assumption | ((with_reducible apply row_newc); (focus (first | rfl | (simp; done)))) | ((with_reducible apply row_newz); (focus (first | rfl | (simp; done)))) | (with_reducible apply row_same) | ((with_reducible apply row_else); (focus (first | (simp; done) | (simp; omega) | omega))) | (with_reducible apply row_alloc) | (with_reducible apply row_drew) | (with_reducible apply row_drewN) | ((with_reducible apply row_up); assumption)))) | (go_at_call 50; refine (HO.out _).mono ?_; rintro e w' ⟨rfl, hu⟩) | (go_at_call 57; refine (HL.out _).mono ?_; rintro e w' ⟨rfl, hu⟩; have hcl := Row.cell (w := w') (b := w.heap.size + 1) (t := 27) (n := 16) (f := limb y) (by (repeat (first | assumption | ((with_reducible apply row_newc); (focus (first | rfl | (simp; done)))) | ((with_reducible apply row_newz); (focus (first | rfl | (simp; done)))) | (with_reducible apply row_same) | ((with_reducible apply row_else); (focus (first | (simp; done) | (simp; omega) | omega))) | (with_reducible apply row_alloc) | (with_reducible apply row_drew) | (with_reducible apply row_drewN) | ((with_reducible apply row_up); assumption)))) 0 (by omega); rw [Hy1.out] at hcl) | (go_at_call 62; refine (HS.out _).mono ?_; rintro e w' ⟨rfl, hu⟩))
  exact bodyPost_ret (resCC rfl undW infoW _ _ _ rfl rfl (by (repeat (first | assumption | ((with_reducible apply row_newc); (focus (first | rfl | (simp; done)))) | ((with_reducible apply row_newz); (focus (first | rfl | (simp; done)))) | (with_reducible apply row_same) | ((with_reducible apply row_else); (focus (first | (simp; done) | (simp; omega) | omega))) | (with_reducible apply row_alloc) | (with_reducible apply row_drew) | (with_reducible apply row_drewN) | ((with_reducible apply row_up); assumption)))) (by (repeat (first | assumption | ((with_reducible apply row_newc); (focus (first | rfl | (simp; done)))) | ((with_reducible apply row_newz); (focus (first | rfl | (simp; done)))) | (with_reducible apply row_same) | ((with_reducible apply row_else); (focus (first | (simp; done) | (simp; omega) | omega))) | (with_reducible apply row_alloc) | (with_reducible apply row_drew) | (with_reducible apply row_drewN) | ((with_reducible apply row_up); assumption))))) rfl ⟨rfl, (by repeat (first | assumption | (with_reducible apply Up.of) | (with_reducible exact Below.refl _ _) | (with_reducible exact Up.refl _) | ((with_reducible apply bl_setRow); (focus (first | exact Nat.le_refl _ | (simp; done) | (simp; omega) | omega))) | (with_reducible apply below_drewN) | (with_reducible apply Below.drew) | ((with_reducible apply bl_alloc); (focus (first | exact Nat.le_refl _ | (simp; done) | (simp; omega) | omega))) | ((with_reducible apply bl_setCell); (focus (first | exact Nat.le_refl _ | (simp; done) | (simp; omega) | omega))) | ((with_reducible apply up_tr); assumption)))⟩
end Go.Proofs.Ytlkolfnklbldcaa
