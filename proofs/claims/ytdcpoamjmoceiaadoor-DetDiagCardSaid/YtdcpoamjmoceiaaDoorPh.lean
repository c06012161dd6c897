/-
  What the claim's law is built of: RefM, To, HelpW, ElK, Sy16, SyRow, Ed2, Law4.
-/
import Derived.Test.YtdcpoamjmoceiaaDoorPg
import Derived.DataShut
import Derived.Test.YtdcpoamjmoceiaaDoorRows
import Derived.Test.YtdcpoamjmoceiaaDoorTie
import Derived.ChangeSame
import Derived.ChangeVars
import Derived.JoinedOf
import Derived.RowKit
import Derived.RowKitTokens
import Derived.LaidLaws
import Derived.LaidHandle
import Derived.Stop.Joined
import Derived.ChangeMaps5
import Derived.SevenTiedAt
/-
  The reference's wide numbers out of whole ones.
-/
namespace Go.Proofs.YtdcpoamjmoceiaaDoor
open Go Go.RowKit
set_option maxRecDepth 100000

theorem Row.belowU {w w' : World} {B b n : Nat} {t : TypeId} {f : Nat → Nat} (hb : Below B w w') (hB : b < B) (h : Row w b t n f) : Row w' b t n f := by
  unfold Row Blk at *; rw [hb.block b hB]; exact h
theorem Blk.belowU {w w' : World} {B b : Nat} {t : TypeId} {C : Array Value} (hb : Below B w w') (hB : b < B) (h : Blk w b t C) : Blk w' b t C := by
  unfold Blk at *; rw [hb.block b hB]; exact h
set_option maxRecDepth 100000 in
set_option maxHeartbeats 4000000 in
theorem to_small {z : Int} {v : Value} {w : World} (h : Big w v z) (hlt : z.natAbs < hb) :
    Calls Tryd.prog 61 #[v] w fun e w' => e = .returned (opt z) ∧ Up w w' := by
  have hbp := hb_pos
  have hb16 := bp16
  have hz : InR z := InR.mk' (by omega)
  rw [opt_yes hz]
  obtain ⟨a, c, rfl, hA⟩ := h
  have hn16 : nl z.natAbs ≤ 16 := nl_le (by omega)
  have hsz := fun w' (h : Up w w') => size_am (hA.up h) (by omega)
  have hbl := blen_small hlt
  have hen := enc_neg hz
  have hep := enc_nn hz
  obtain ⟨p, hp⟩ : ∃ p, decide (z < 0) = p := ⟨_, rfl⟩
  obtain ⟨x, hx⟩ : ∃ x, z.natAbs = x := ⟨_, rfl⟩
  rw [hp, hx]
  rw [hx] at hlt hn16 hsz hbl hA
  have d1 : decide ((1024 : Int) < (blen x : Nat)) = false := decide_eq_false (by omega)
  have d2 : (((blen x : Nat) : Int) == 1024) = false := by simp; omega
  have HSZ := hid hsz
  clear hsz
  generalize blen x = n at *
  cases p with
  | false =>
    have HE := hid (show x = enc z by have := of_decide_eq_false hp; have := (hep (by omega)).1; omega)
    clear hen hep hp hx hz hb16 hbp hlt
    unfold wideV
    go_enter Tryd.func61, Tryd.ntmps61
    go_wp2_with (first | (go_at_call 79; (with_reducible refine (HSZ.out _ (by repeat (first | assumption | (with_reducible apply Up.of) | (with_reducible exact Below.refl _ _) | (with_reducible exact Up.refl _) | ((with_reducible apply bl_setRow); (focus (first | exact Nat.le_refl _ | (simp; done) | (simp; omega) | omega))) | (with_reducible apply below_drewN) | (with_reducible apply Below.drew) | ((with_reducible apply bl_alloc); (focus (first | exact Nat.le_refl _ | (simp; done) | (simp; omega) | omega))) | ((with_reducible apply bl_setCell); (focus (first | exact Nat.le_refl _ | (simp; done) | (simp; omega) | omega))) | ((with_reducible apply up_tr); assumption)))).mono ?_); rintro e wQ ⟨rfl, huS⟩))
    have hszS := huS.size
    have hgt : w.heap.size + 1 < wQ.heap.size := by simp at hszS; omega
    refine wp_region_upS (S := (fun wq => Row wq (w.heap.size + 1) 64 16 (fun _ => 0) ∧ Row wq wQ.heap.size 64 16 (fun _ => 0) ∧ Blk wq w.heap.size 59 #[.bool false, .slice a (nl x) c] ∧ wq.cell? ⟨w.heap.size, 0, none⟩ = some (.bool false) ∧ wq.cell? ⟨w.heap.size, 1, none⟩ = some (.slice a (nl x) c) ∧ Below w.heap.size w wq)) (req := (fun _ => true)) (by kernel_rfl) (fun _ _ h hu => ⟨(h.1).up hu, (h.2.1).up hu, (h.2.2.1).up hu, hu.cell (h.2.2.2.1), hu.cell (h.2.2.2.2.1), below_up (h.2.2.2.2.2) hu⟩) ⟨(by (repeat (first | assumption | ((with_reducible apply row_newc); (focus (first | rfl | (simp; done)))) | ((with_reducible apply row_newz); (focus (first | rfl | (simp; done)))) | (with_reducible apply row_same) | ((with_reducible apply row_else); (focus (first | (simp; done) | (simp; omega) | omega))) | (with_reducible apply row_alloc) | (with_reducible apply row_drew) | (with_reducible apply row_drewN) | ((with_reducible apply row_up); assumption)))), (by (repeat (first | assumption | ((with_reducible apply row_newc); (focus (first | rfl | (simp; done)))) | ((with_reducible apply row_newz); (focus (first | rfl | (simp; done)))) | (with_reducible apply row_same) | ((with_reducible apply row_else); (focus (first | (simp; done) | (simp; omega) | omega))) | (with_reducible apply row_alloc) | (with_reducible apply row_drew) | (with_reducible apply row_drewN) | ((with_reducible apply row_up); assumption)))), (by (repeat (first | assumption | ((with_reducible apply blk_new); (focus (first | rfl | (simp; done)))) | (with_reducible apply blk_alloc) | (with_reducible apply blk_drew) | (with_reducible apply blk_drewN) | ((with_reducible apply blk_up); assumption) | (with_reducible apply blk_same) | ((with_reducible apply blk_else); (focus (first | (simp; done) | (simp; omega) | omega)))))), (by first | assumption | (apply Blk.cell; (focus (repeat (first | assumption | ((with_reducible apply blk_new); (focus (first | rfl | (simp; done)))) | (with_reducible apply blk_alloc) | (with_reducible apply blk_drew) | (with_reducible apply blk_drewN) | ((with_reducible apply blk_up); assumption) | (with_reducible apply blk_same) | ((with_reducible apply blk_else); (focus (first | (simp; done) | (simp; omega) | omega)))))); exact rfl)), (by first | assumption | (apply Blk.cell; (focus (repeat (first | assumption | ((with_reducible apply blk_new); (focus (first | rfl | (simp; done)))) | (with_reducible apply blk_alloc) | (with_reducible apply blk_drew) | (with_reducible apply blk_drewN) | ((with_reducible apply blk_up); assumption) | (with_reducible apply blk_same) | ((with_reducible apply blk_else); (focus (first | (simp; done) | (simp; omega) | omega)))))); exact rfl)), (by repeat (first | assumption | (with_reducible apply Up.of) | (with_reducible exact Below.refl _ _) | (with_reducible exact Up.refl _) | ((with_reducible apply bl_setRow); (focus (first | exact Nat.le_refl _ | (simp; done) | (simp; omega) | omega))) | (with_reducible apply below_drewN) | (with_reducible apply Below.drew) | ((with_reducible apply bl_alloc); (focus (first | exact Nat.le_refl _ | (simp; done) | (simp; omega) | omega))) | ((with_reducible apply bl_setCell); (focus (first | exact Nat.le_refl _ | (simp; done) | (simp; omega) | omega))) | ((with_reducible apply up_tr); assumption)))⟩ (fun wS hSS => ?_)
    have ⟨hS1, hS2, hS3, hS4, hS5, hSB⟩ := hSS
    refine wpAnyU_pure (i := 0) (d := (some 11)) (v := ?_) rfl rfl (by kernel_rfl) (fun _ _ _ h => h) (fun _ _ h hu => ⟨(h.1).up hu, (h.2.1).up hu, (h.2.2.1).up hu, hu.cell (h.2.2.2.1), hu.cell (h.2.2.2.2.1), below_up (h.2.2.2.2.2) hu⟩) (Or.inl ⟨by rfl, fun w' _ => yu_value ?_⟩) ?_
    rotate_left
    · (go_simp; (try exact rfl))
    try simp only [Act.put, List.setIfInBounds_toArray, List.set_cons_zero, List.set_cons_succ]
    refine wpAnyU_pure (i := 1) (d := (some 12)) (v := ?_) rfl rfl (by kernel_rfl) (fun _ _ _ h => h) (fun _ _ h hu => ⟨(h.1).up hu, (h.2.1).up hu, (h.2.2.1).up hu, hu.cell (h.2.2.2.1), hu.cell (h.2.2.2.2.1), below_up (h.2.2.2.2.2) hu⟩) (Or.inl ⟨by rfl, fun w' _ => yu_value ?_⟩) ?_
    rotate_left
    · (go_simp; (try exact rfl))
    try simp only [Act.put, List.setIfInBounds_toArray, List.set_cons_zero, List.set_cons_succ]
    refine wpAnyU_pure (i := 2) (d := (some 13)) (v := ?_) rfl rfl (by kernel_rfl) (fun _ _ _ h => h) (fun _ _ h hu => ⟨(h.1).up hu, (h.2.1).up hu, (h.2.2.1).up hu, hu.cell (h.2.2.2.1), hu.cell (h.2.2.2.2.1), below_up (h.2.2.2.2.2) hu⟩) (Or.inl ⟨by rfl, fun w' _ => yu_value ?_⟩) ?_
    rotate_left
    · (go_simp; (try exact rfl))
    try simp only [Act.put, List.setIfInBounds_toArray, List.set_cons_zero, List.set_cons_succ]
    refine wpAnyU_pure (i := 3) (d := (some 14)) (v := ?_) rfl rfl (by kernel_rfl) (fun _ _ _ h => h) (fun _ _ h hu => ⟨(h.1).up hu, (h.2.1).up hu, (h.2.2.1).up hu, hu.cell (h.2.2.2.1), hu.cell (h.2.2.2.2.1), below_up (h.2.2.2.2.2) hu⟩) (Or.inl ⟨by rfl, fun w' _ => yu_value ?_⟩) ?_
    rotate_left
    · (go_simp; (try exact rfl))
    try simp only [Act.put, List.setIfInBounds_toArray, List.set_cons_zero, List.set_cons_succ]
    refine wpAnyU_pure (i := 4) (d := (some 15)) (v := ?_) rfl rfl (by kernel_rfl) (fun _ _ _ h => h) (fun _ _ h hu => ⟨(h.1).up hu, (h.2.1).up hu, (h.2.2.1).up hu, hu.cell (h.2.2.2.1), hu.cell (h.2.2.2.2.1), below_up (h.2.2.2.2.2) hu⟩) (Or.inl ⟨by rfl, fun w' _ => yu_value ?_⟩) ?_
    rotate_left
    · (go_simp; (try exact rfl))
    try simp only [Act.put, List.setIfInBounds_toArray, List.set_cons_zero, List.set_cons_succ]
    refine wpAnyU_pure (i := 5) (d := (some 16)) (v := ?_) rfl rfl (by kernel_rfl) (fun _ _ _ h => h) (fun _ _ h hu => ⟨(h.1).up hu, (h.2.1).up hu, (h.2.2.1).up hu, hu.cell (h.2.2.2.1), hu.cell (h.2.2.2.2.1), below_up (h.2.2.2.2.2) hu⟩) (Or.inl ⟨by rfl, fun w' _ => yu_value ?_⟩) ?_
    rotate_left
    · (go_simp; (try exact rfl))
    try simp only [Act.put, List.setIfInBounds_toArray, List.set_cons_zero, List.set_cons_succ]
    refine wpAnyU_pure (i := 6) (d := (some 17)) (v := undef) rfl rfl (by kernel_rfl) (fun _ _ _ h => h) (fun _ _ h hu => ⟨(h.1).up hu, (h.2.1).up hu, (h.2.2.1).up hu, hu.cell (h.2.2.2.1), hu.cell (h.2.2.2.2.1), below_up (h.2.2.2.2.2) hu⟩) (Or.inr ⟨by rfl, rfl⟩) ?_
    try simp only [Act.put, List.setIfInBounds_toArray, List.set_cons_zero, List.set_cons_succ]
    refine wpAnyU_pure (i := 7) (d := (some 18)) (v := undef) rfl rfl (by kernel_rfl) (fun _ _ _ h => h) (fun _ _ h hu => ⟨(h.1).up hu, (h.2.1).up hu, (h.2.2.1).up hu, hu.cell (h.2.2.2.1), hu.cell (h.2.2.2.2.1), below_up (h.2.2.2.2.2) hu⟩) (Or.inr ⟨by rfl, rfl⟩) ?_
    try simp only [Act.put, List.setIfInBounds_toArray, List.set_cons_zero, List.set_cons_succ]
    refine wpAnyU_pure (i := 8) (d := (some 19)) (v := undef) rfl rfl (by kernel_rfl) (fun _ _ _ h => h) (fun _ _ h hu => ⟨(h.1).up hu, (h.2.1).up hu, (h.2.2.1).up hu, hu.cell (h.2.2.2.1), hu.cell (h.2.2.2.2.1), below_up (h.2.2.2.2.2) hu⟩) (Or.inr ⟨by rfl, rfl⟩) ?_
    try simp only [Act.put, List.setIfInBounds_toArray, List.set_cons_zero, List.set_cons_succ]
    refine wpAnyU_pure (i := 9) (d := (some 20)) (v := undef) rfl rfl (by kernel_rfl) (fun _ _ _ h => h) (fun _ _ h hu => ⟨(h.1).up hu, (h.2.1).up hu, (h.2.2.1).up hu, hu.cell (h.2.2.2.1), hu.cell (h.2.2.2.2.1), below_up (h.2.2.2.2.2) hu⟩) (Or.inr ⟨by rfl, rfl⟩) ?_
    try simp only [Act.put, List.setIfInBounds_toArray, List.set_cons_zero, List.set_cons_succ]
    refine wpAnyU_pure (i := 10) (d := (some 21)) (v := undef) rfl rfl (by kernel_rfl) (fun _ _ _ h => h) (fun _ _ h hu => ⟨(h.1).up hu, (h.2.1).up hu, (h.2.2.1).up hu, hu.cell (h.2.2.2.1), hu.cell (h.2.2.2.2.1), below_up (h.2.2.2.2.2) hu⟩) (Or.inr ⟨by rfl, rfl⟩) ?_
    try simp only [Act.put, List.setIfInBounds_toArray, List.set_cons_zero, List.set_cons_succ]
    refine wpAnyU_pure (i := 11) (d := (some 22)) (v := undef) rfl rfl (by kernel_rfl) (fun _ _ _ h => h) (fun _ _ h hu => ⟨(h.1).up hu, (h.2.1).up hu, (h.2.2.1).up hu, hu.cell (h.2.2.2.1), hu.cell (h.2.2.2.2.1), below_up (h.2.2.2.2.2) hu⟩) (Or.inr ⟨by rfl, rfl⟩) ?_
    try simp only [Act.put, List.setIfInBounds_toArray, List.set_cons_zero, List.set_cons_succ]
    refine wpAnyU_pure (i := 12) (d := (some 23)) (v := undef) rfl rfl (by kernel_rfl) (fun _ _ _ h => h) (fun _ _ h hu => ⟨(h.1).up hu, (h.2.1).up hu, (h.2.2.1).up hu, hu.cell (h.2.2.2.1), hu.cell (h.2.2.2.2.1), below_up (h.2.2.2.2.2) hu⟩) (Or.inr ⟨by rfl, rfl⟩) ?_
    try simp only [Act.put, List.setIfInBounds_toArray, List.set_cons_zero, List.set_cons_succ]
    refine wpAnyU_pure (i := 13) (d := (some 24)) (v := undef) rfl rfl (by kernel_rfl) (fun _ _ _ h => h) (fun _ _ h hu => ⟨(h.1).up hu, (h.2.1).up hu, (h.2.2.1).up hu, hu.cell (h.2.2.2.1), hu.cell (h.2.2.2.2.1), below_up (h.2.2.2.2.2) hu⟩) (Or.inr ⟨by rfl, rfl⟩) ?_
    try simp only [Act.put, List.setIfInBounds_toArray, List.set_cons_zero, List.set_cons_succ]
    refine wpAnyU_pure (i := 14) (d := (some 25)) (v := undef) rfl rfl (by kernel_rfl) (fun _ _ _ h => h) (fun _ _ h hu => ⟨(h.1).up hu, (h.2.1).up hu, (h.2.2.1).up hu, hu.cell (h.2.2.2.1), hu.cell (h.2.2.2.2.1), below_up (h.2.2.2.2.2) hu⟩) (Or.inr ⟨by rfl, rfl⟩) ?_
    try simp only [Act.put, List.setIfInBounds_toArray, List.set_cons_zero, List.set_cons_succ]
    refine wpAnyU_pure (i := 15) (d := (some 26)) (v := undef) rfl rfl (by kernel_rfl) (fun _ _ _ h => h) (fun _ _ h hu => ⟨(h.1).up hu, (h.2.1).up hu, (h.2.2.1).up hu, hu.cell (h.2.2.2.1), hu.cell (h.2.2.2.2.1), below_up (h.2.2.2.2.2) hu⟩) (Or.inr ⟨by rfl, rfl⟩) ?_
    try simp only [Act.put, List.setIfInBounds_toArray, List.set_cons_zero, List.set_cons_succ]
    refine wpAnyU_pure (i := 16) (d := (some 27)) (v := undef) rfl rfl (by kernel_rfl) (fun _ _ _ h => h) (fun _ _ h hu => ⟨(h.1).up hu, (h.2.1).up hu, (h.2.2.1).up hu, hu.cell (h.2.2.2.1), hu.cell (h.2.2.2.2.1), below_up (h.2.2.2.2.2) hu⟩) (Or.inr ⟨by rfl, rfl⟩) ?_
    try simp only [Act.put, List.setIfInBounds_toArray, List.set_cons_zero, List.set_cons_succ]
    refine wpAnyU_pure (i := 17) (d := (some 28)) (v := ?_) rfl rfl (by kernel_rfl) (fun _ _ _ h => h) (fun _ _ h hu => ⟨(h.1).up hu, (h.2.1).up hu, (h.2.2.1).up hu, hu.cell (h.2.2.2.1), hu.cell (h.2.2.2.2.1), below_up (h.2.2.2.2.2) hu⟩) (Or.inl ⟨by rfl, fun w' _ => yu_value ?_⟩) ?_
    rotate_left
    · (go_simp; (try exact rfl))
    try simp only [Act.put, List.setIfInBounds_toArray, List.set_cons_zero, List.set_cons_succ]
    refine wpAnyU_pure (i := 18) (d := (some 29)) (v := ?_) rfl rfl (by kernel_rfl) (fun _ _ _ h => h) (fun _ _ h hu => ⟨(h.1).up hu, (h.2.1).up hu, (h.2.2.1).up hu, hu.cell (h.2.2.2.1), hu.cell (h.2.2.2.2.1), below_up (h.2.2.2.2.2) hu⟩) (Or.inl ⟨by rfl, fun w' _ => yu_value ?_⟩) ?_
    rotate_left
    · (go_simp; (try exact rfl))
    try simp only [Act.put, List.setIfInBounds_toArray, List.set_cons_zero, List.set_cons_succ]
    refine wpAnyU_done (by kernel_rfl) (fun wE huE => ?_) _
    have ⟨hS1, hS2, hS3, hS4, hS5, hSB⟩ := ((fun _ _ h hu => ⟨(h.1).up hu, (h.2.1).up hu, (h.2.2.1).up hu, hu.cell (h.2.2.2.1), hu.cell (h.2.2.2.2.1), below_up (h.2.2.2.2.2) hu⟩) : ∀ w1 w2 : World, (fun wq => Row wq (w.heap.size + 1) 64 16 (fun _ => 0) ∧ Row wq wQ.heap.size 64 16 (fun _ => 0) ∧ Blk wq w.heap.size 59 #[.bool false, .slice a (nl x) c] ∧ wq.cell? ⟨w.heap.size, 0, none⟩ = some (.bool false) ∧ wq.cell? ⟨w.heap.size, 1, none⟩ = some (.slice a (nl x) c) ∧ Below w.heap.size w wq) w1 → Up w1 w2 → (fun wq => Row wq (w.heap.size + 1) 64 16 (fun _ => 0) ∧ Row wq wQ.heap.size 64 16 (fun _ => 0) ∧ Blk wq w.heap.size 59 #[.bool false, .slice a (nl x) c] ∧ wq.cell? ⟨w.heap.size, 0, none⟩ = some (.bool false) ∧ wq.cell? ⟨w.heap.size, 1, none⟩ = some (.slice a (nl x) c) ∧ Below w.heap.size w wq) w2) _ _ hSS huE
    clear huE hSS
    have gZ := hS1
    have gW := hS2
    have gBx := hS3
    have gB := hSB
    clear huS
    go_wp2
    refine wp_region_upS (S := (fun wq => Row wq (w.heap.size + 1) 64 16 (fun _ => 0) ∧ Row wq wQ.heap.size 64 16 (fun _ => 0) ∧ Blk wq w.heap.size 59 #[.bool false, .slice a (nl x) c] ∧ wq.cell? ⟨w.heap.size, 0, none⟩ = some (.bool false) ∧ wq.cell? ⟨w.heap.size, 1, none⟩ = some (.slice a (nl x) c) ∧ Below w.heap.size w wq)) (req := (fun j => j != 3)) (by kernel_rfl) (fun _ _ h hu => ⟨(h.1).up hu, (h.2.1).up hu, (h.2.2.1).up hu, hu.cell (h.2.2.2.1), hu.cell (h.2.2.2.2.1), below_up (h.2.2.2.2.2) hu⟩) ⟨(by (repeat (first | assumption | ((with_reducible apply row_newc); (focus (first | rfl | (simp; done)))) | ((with_reducible apply row_newz); (focus (first | rfl | (simp; done)))) | (with_reducible apply row_same) | ((with_reducible apply row_else); (focus (first | (simp; done) | (simp; omega) | omega))) | (with_reducible apply row_alloc) | (with_reducible apply row_drew) | (with_reducible apply row_drewN) | ((with_reducible apply row_up); assumption)))), (by (repeat (first | assumption | ((with_reducible apply row_newc); (focus (first | rfl | (simp; done)))) | ((with_reducible apply row_newz); (focus (first | rfl | (simp; done)))) | (with_reducible apply row_same) | ((with_reducible apply row_else); (focus (first | (simp; done) | (simp; omega) | omega))) | (with_reducible apply row_alloc) | (with_reducible apply row_drew) | (with_reducible apply row_drewN) | ((with_reducible apply row_up); assumption)))), (by (repeat (first | assumption | ((with_reducible apply blk_new); (focus (first | rfl | (simp; done)))) | (with_reducible apply blk_alloc) | (with_reducible apply blk_drew) | (with_reducible apply blk_drewN) | ((with_reducible apply blk_up); assumption) | (with_reducible apply blk_same) | ((with_reducible apply blk_else); (focus (first | (simp; done) | (simp; omega) | omega)))))), (by first | assumption | (apply Blk.cell; (focus (repeat (first | assumption | ((with_reducible apply blk_new); (focus (first | rfl | (simp; done)))) | (with_reducible apply blk_alloc) | (with_reducible apply blk_drew) | (with_reducible apply blk_drewN) | ((with_reducible apply blk_up); assumption) | (with_reducible apply blk_same) | ((with_reducible apply blk_else); (focus (first | (simp; done) | (simp; omega) | omega)))))); exact rfl)), (by first | assumption | (apply Blk.cell; (focus (repeat (first | assumption | ((with_reducible apply blk_new); (focus (first | rfl | (simp; done)))) | (with_reducible apply blk_alloc) | (with_reducible apply blk_drew) | (with_reducible apply blk_drewN) | ((with_reducible apply blk_up); assumption) | (with_reducible apply blk_same) | ((with_reducible apply blk_else); (focus (first | (simp; done) | (simp; omega) | omega)))))); exact rfl)), (by repeat (first | assumption | (with_reducible apply Up.of) | (with_reducible exact Below.refl _ _) | (with_reducible exact Up.refl _) | ((with_reducible apply bl_setRow); (focus (first | exact Nat.le_refl _ | (simp; done) | (simp; omega) | omega))) | (with_reducible apply below_drewN) | (with_reducible apply Below.drew) | ((with_reducible apply bl_alloc); (focus (first | exact Nat.le_refl _ | (simp; done) | (simp; omega) | omega))) | ((with_reducible apply bl_setCell); (focus (first | exact Nat.le_refl _ | (simp; done) | (simp; omega) | omega))) | ((with_reducible apply up_tr); assumption)))⟩ (fun wS hSS => ?_)
    have ⟨hS1, hS2, hS3, hS4, hS5, hSB⟩ := hSS
    refine wpAnyU_pure (i := 0) (d := (some 31)) (v := ?_) rfl rfl (by kernel_rfl) (fun _ _ _ h => h) (fun _ _ h hu => ⟨(h.1).up hu, (h.2.1).up hu, (h.2.2.1).up hu, hu.cell (h.2.2.2.1), hu.cell (h.2.2.2.2.1), below_up (h.2.2.2.2.2) hu⟩) (Or.inl ⟨by rfl, fun w' _ => yu_value ?_⟩) ?_
    rotate_left
    · (go_simp; (try exact rfl))
    try simp only [Act.put, List.setIfInBounds_toArray, List.set_cons_zero, List.set_cons_succ]
    refine wpAnyU_pure (i := 1) (d := (some 32)) (v := ?_) rfl rfl (by kernel_rfl) (fun _ _ _ h => h) (fun _ _ h hu => ⟨(h.1).up hu, (h.2.1).up hu, (h.2.2.1).up hu, hu.cell (h.2.2.2.1), hu.cell (h.2.2.2.2.1), below_up (h.2.2.2.2.2) hu⟩) (Or.inl ⟨by rfl, fun w' _ => yu_value ?_⟩) ?_
    rotate_left
    · (go_simp; (try exact rfl))
    try simp only [Act.put, List.setIfInBounds_toArray, List.set_cons_zero, List.set_cons_succ]
    refine wpAnyU_take (i := 2) (d := (some 33)) (v := ?_) rfl rfl (by kernel_rfl) (fun _ _ _ h => h) (fun _ _ h hu => ⟨(h.1).up hu, (h.2.1).up hu, (h.2.2.1).up hu, hu.cell (h.2.2.2.1), hu.cell (h.2.2.2.2.1), below_up (h.2.2.2.2.2) hu⟩) hSS (Or.inl ⟨by rfl, fun w' hSw => yu_value ?_⟩) ?_
    rotate_left
    · ((try dsimp only at hSw); (try obtain ⟨_, _, _, _, _, _⟩ := hSw); go_simp; (try exact rfl))
    try simp only [Act.put, List.setIfInBounds_toArray, List.set_cons_zero, List.set_cons_succ]
    refine wpAnyU_one (i := 3) rfl (by kernel_rfl) (by rfl) fun w1 hw1 => ?_
    refine wp_copy rfl rfl rfl rfl (hA.up (below_up hSB hw1)) hn16 (hS2.up hw1) fun w2 hR2 hb2 => ?_
    refine ⟨fun h => by simp at h, ?_⟩
    try simp only [Act.put, List.setIfInBounds_toArray]
    refine wpAnyU_done (by kernel_rfl) (fun wF huE => ?_) _
    have hle := hS2.lt
    have hsw := hw1.size
    have gR := hR2.up huE
    have gZ := (Row.belowU hb2 hgt (hS1.up hw1)).up huE
    have gK := (Blk.belowU hb2 (by omega) (hS3.up hw1)).up huE
    have gB : Below w.heap.size w wF := below_up (Below.trans (below_up hSB hw1) (Below.mono hb2 (by omega))) huE
    clear hS1 hS2 hS3 hS4 hS5 hSB hSS hw1 huE hR2 hb2
    have hc0 := gK.cell 0 rfl
    rw [HE.out] at gR
    clear gK
    go_wp2_with (first | ((with_reducible apply ld_rowP undW infoW); exact rfl; exact rfl; focus (repeat (first | assumption | ((with_reducible apply row_newc); (focus (first | rfl | (simp; done)))) | ((with_reducible apply row_newz); (focus (first | rfl | (simp; done)))) | (with_reducible apply row_same) | ((with_reducible apply row_else); (focus (first | (simp; done) | (simp; omega) | omega))) | (with_reducible apply row_alloc) | (with_reducible apply row_drew) | (with_reducible apply row_drewN) | ((with_reducible apply row_up); assumption)))) | ((with_reducible apply st_rowP infoW); exact rfl; exact rfl; focus (repeat (first | assumption | ((with_reducible apply row_newc); (focus (first | rfl | (simp; done)))) | ((with_reducible apply row_newz); (focus (first | rfl | (simp; done)))) | (with_reducible apply row_same) | ((with_reducible apply row_else); (focus (first | (simp; done) | (simp; omega) | omega))) | (with_reducible apply row_alloc) | (with_reducible apply row_drew) | (with_reducible apply row_drewN) | ((with_reducible apply row_up); assumption)))) | ((with_reducible apply st_rowZ infoW); exact rfl; exact rfl; focus (repeat (first | assumption | ((with_reducible apply row_newc); (focus (first | rfl | (simp; done)))) | ((with_reducible apply row_newz); (focus (first | rfl | (simp; done)))) | (with_reducible apply row_same) | ((with_reducible apply row_else); (focus (first | (simp; done) | (simp; omega) | omega))) | (with_reducible apply row_alloc) | (with_reducible apply row_drew) | (with_reducible apply row_drewN) | ((with_reducible apply row_up); assumption)))))
    exact bodyPost_ret (res2 rfl undW infoW _ _ rfl (by (repeat (first | assumption | ((with_reducible apply row_newc); (focus (first | rfl | (simp; done)))) | ((with_reducible apply row_newz); (focus (first | rfl | (simp; done)))) | (with_reducible apply row_same) | ((with_reducible apply row_else); (focus (first | (simp; done) | (simp; omega) | omega))) | (with_reducible apply row_alloc) | (with_reducible apply row_drew) | (with_reducible apply row_drewN) | ((with_reducible apply row_up); assumption))))) rfl ⟨rfl, (by repeat (first | assumption | (with_reducible apply Up.of) | (with_reducible exact Below.refl _ _) | (with_reducible exact Up.refl _) | ((with_reducible apply bl_setRow); (focus (first | exact Nat.le_refl _ | (simp; done) | (simp; omega) | omega))) | (with_reducible apply below_drewN) | (with_reducible apply Below.drew) | ((with_reducible apply bl_alloc); (focus (first | exact Nat.le_refl _ | (simp; done) | (simp; omega) | omega))) | ((with_reducible apply bl_setCell); (focus (first | exact Nat.le_refl _ | (simp; done) | (simp; omega) | omega))) | ((with_reducible apply up_tr); assumption)))⟩
  | true =>
    have HE := hid (show enc z = bp 16 - x ∧ 0 < x by have := of_decide_eq_true hp; have := (hen (by omega)).1; omega)
    have HR := hid (show x < bp 16 by omega)
    clear hen hep hp hx hz hb16 hbp hlt
    unfold wideV
    go_enter Tryd.func61, Tryd.ntmps61
    go_wp2_with (first | (go_at_call 79; (with_reducible refine (HSZ.out _ (by repeat (first | assumption | (with_reducible apply Up.of) | (with_reducible exact Below.refl _ _) | (with_reducible exact Up.refl _) | ((with_reducible apply bl_setRow); (focus (first | exact Nat.le_refl _ | (simp; done) | (simp; omega) | omega))) | (with_reducible apply below_drewN) | (with_reducible apply Below.drew) | ((with_reducible apply bl_alloc); (focus (first | exact Nat.le_refl _ | (simp; done) | (simp; omega) | omega))) | ((with_reducible apply bl_setCell); (focus (first | exact Nat.le_refl _ | (simp; done) | (simp; omega) | omega))) | ((with_reducible apply up_tr); assumption)))).mono ?_); rintro e wQ ⟨rfl, huS⟩))
    have hszS := huS.size
    have hgt : w.heap.size + 1 < wQ.heap.size := by simp at hszS; omega
    refine wp_region_upS (S := (fun wq => Row wq (w.heap.size + 1) 64 16 (fun _ => 0) ∧ Row wq wQ.heap.size 64 16 (fun _ => 0) ∧ Blk wq w.heap.size 59 #[.bool true, .slice a (nl x) c] ∧ wq.cell? ⟨w.heap.size, 0, none⟩ = some (.bool true) ∧ wq.cell? ⟨w.heap.size, 1, none⟩ = some (.slice a (nl x) c) ∧ Below w.heap.size w wq)) (req := (fun _ => true)) (by kernel_rfl) (fun _ _ h hu => ⟨(h.1).up hu, (h.2.1).up hu, (h.2.2.1).up hu, hu.cell (h.2.2.2.1), hu.cell (h.2.2.2.2.1), below_up (h.2.2.2.2.2) hu⟩) ⟨(by (repeat (first | assumption | ((with_reducible apply row_newc); (focus (first | rfl | (simp; done)))) | ((with_reducible apply row_newz); (focus (first | rfl | (simp; done)))) | (with_reducible apply row_same) | ((with_reducible apply row_else); (focus (first | (simp; done) | (simp; omega) | omega))) | (with_reducible apply row_alloc) | (with_reducible apply row_drew) | (with_reducible apply row_drewN) | ((with_reducible apply row_up); assumption)))), (by (repeat (first | assumption | ((with_reducible apply row_newc); (focus (first | rfl | (simp; done)))) | ((with_reducible apply row_newz); (focus (first | rfl | (simp; done)))) | (with_reducible apply row_same) | ((with_reducible apply row_else); (focus (first | (simp; done) | (simp; omega) | omega))) | (with_reducible apply row_alloc) | (with_reducible apply row_drew) | (with_reducible apply row_drewN) | ((with_reducible apply row_up); assumption)))), (by (repeat (first | assumption | ((with_reducible apply blk_new); (focus (first | rfl | (simp; done)))) | (with_reducible apply blk_alloc) | (with_reducible apply blk_drew) | (with_reducible apply blk_drewN) | ((with_reducible apply blk_up); assumption) | (with_reducible apply blk_same) | ((with_reducible apply blk_else); (focus (first | (simp; done) | (simp; omega) | omega)))))), (by first | assumption | (apply Blk.cell; (focus (repeat (first | assumption | ((with_reducible apply blk_new); (focus (first | rfl | (simp; done)))) | (with_reducible apply blk_alloc) | (with_reducible apply blk_drew) | (with_reducible apply blk_drewN) | ((with_reducible apply blk_up); assumption) | (with_reducible apply blk_same) | ((with_reducible apply blk_else); (focus (first | (simp; done) | (simp; omega) | omega)))))); exact rfl)), (by first | assumption | (apply Blk.cell; (focus (repeat (first | assumption | ((with_reducible apply blk_new); (focus (first | rfl | (simp; done)))) | (with_reducible apply blk_alloc) | (with_reducible apply blk_drew) | (with_reducible apply blk_drewN) | ((with_reducible apply blk_up); assumption) | (with_reducible apply blk_same) | ((with_reducible apply blk_else); (focus (first | (simp; done) | (simp; omega) | omega)))))); exact rfl)), (by repeat (first | assumption | (with_reducible apply Up.of) | (with_reducible exact Below.refl _ _) | (with_reducible exact Up.refl _) | ((with_reducible apply bl_setRow); (focus (first | exact Nat.le_refl _ | (simp; done) | (simp; omega) | omega))) | (with_reducible apply below_drewN) | (with_reducible apply Below.drew) | ((with_reducible apply bl_alloc); (focus (first | exact Nat.le_refl _ | (simp; done) | (simp; omega) | omega))) | ((with_reducible apply bl_setCell); (focus (first | exact Nat.le_refl _ | (simp; done) | (simp; omega) | omega))) | ((with_reducible apply up_tr); assumption)))⟩ (fun wS hSS => ?_)
    have ⟨hS1, hS2, hS3, hS4, hS5, hSB⟩ := hSS
    refine wpAnyU_pure (i := 0) (d := (some 11)) (v := ?_) rfl rfl (by kernel_rfl) (fun _ _ _ h => h) (fun _ _ h hu => ⟨(h.1).up hu, (h.2.1).up hu, (h.2.2.1).up hu, hu.cell (h.2.2.2.1), hu.cell (h.2.2.2.2.1), below_up (h.2.2.2.2.2) hu⟩) (Or.inl ⟨by rfl, fun w' _ => yu_value ?_⟩) ?_
    rotate_left
    · (go_simp; (try exact rfl))
    try simp only [Act.put, List.setIfInBounds_toArray, List.set_cons_zero, List.set_cons_succ]
    refine wpAnyU_pure (i := 1) (d := (some 12)) (v := ?_) rfl rfl (by kernel_rfl) (fun _ _ _ h => h) (fun _ _ h hu => ⟨(h.1).up hu, (h.2.1).up hu, (h.2.2.1).up hu, hu.cell (h.2.2.2.1), hu.cell (h.2.2.2.2.1), below_up (h.2.2.2.2.2) hu⟩) (Or.inl ⟨by rfl, fun w' _ => yu_value ?_⟩) ?_
    rotate_left
    · (go_simp; (try exact rfl))
    try simp only [Act.put, List.setIfInBounds_toArray, List.set_cons_zero, List.set_cons_succ]
    refine wpAnyU_pure (i := 2) (d := (some 13)) (v := ?_) rfl rfl (by kernel_rfl) (fun _ _ _ h => h) (fun _ _ h hu => ⟨(h.1).up hu, (h.2.1).up hu, (h.2.2.1).up hu, hu.cell (h.2.2.2.1), hu.cell (h.2.2.2.2.1), below_up (h.2.2.2.2.2) hu⟩) (Or.inl ⟨by rfl, fun w' _ => yu_value ?_⟩) ?_
    rotate_left
    · (go_simp; (try exact rfl))
    try simp only [Act.put, List.setIfInBounds_toArray, List.set_cons_zero, List.set_cons_succ]
    refine wpAnyU_pure (i := 3) (d := (some 14)) (v := ?_) rfl rfl (by kernel_rfl) (fun _ _ _ h => h) (fun _ _ h hu => ⟨(h.1).up hu, (h.2.1).up hu, (h.2.2.1).up hu, hu.cell (h.2.2.2.1), hu.cell (h.2.2.2.2.1), below_up (h.2.2.2.2.2) hu⟩) (Or.inl ⟨by rfl, fun w' _ => yu_value ?_⟩) ?_
    rotate_left
    · (go_simp; (try exact rfl))
    try simp only [Act.put, List.setIfInBounds_toArray, List.set_cons_zero, List.set_cons_succ]
    refine wpAnyU_pure (i := 4) (d := (some 15)) (v := ?_) rfl rfl (by kernel_rfl) (fun _ _ _ h => h) (fun _ _ h hu => ⟨(h.1).up hu, (h.2.1).up hu, (h.2.2.1).up hu, hu.cell (h.2.2.2.1), hu.cell (h.2.2.2.2.1), below_up (h.2.2.2.2.2) hu⟩) (Or.inl ⟨by rfl, fun w' _ => yu_value ?_⟩) ?_
    rotate_left
    · (go_simp; (try exact rfl))
    try simp only [Act.put, List.setIfInBounds_toArray, List.set_cons_zero, List.set_cons_succ]
    refine wpAnyU_pure (i := 5) (d := (some 16)) (v := ?_) rfl rfl (by kernel_rfl) (fun _ _ _ h => h) (fun _ _ h hu => ⟨(h.1).up hu, (h.2.1).up hu, (h.2.2.1).up hu, hu.cell (h.2.2.2.1), hu.cell (h.2.2.2.2.1), below_up (h.2.2.2.2.2) hu⟩) (Or.inl ⟨by rfl, fun w' _ => yu_value ?_⟩) ?_
    rotate_left
    · (go_simp; (try exact rfl))
    try simp only [Act.put, List.setIfInBounds_toArray, List.set_cons_zero, List.set_cons_succ]
    refine wpAnyU_pure (i := 6) (d := (some 17)) (v := undef) rfl rfl (by kernel_rfl) (fun _ _ _ h => h) (fun _ _ h hu => ⟨(h.1).up hu, (h.2.1).up hu, (h.2.2.1).up hu, hu.cell (h.2.2.2.1), hu.cell (h.2.2.2.2.1), below_up (h.2.2.2.2.2) hu⟩) (Or.inr ⟨by rfl, rfl⟩) ?_
    try simp only [Act.put, List.setIfInBounds_toArray, List.set_cons_zero, List.set_cons_succ]
    refine wpAnyU_pure (i := 7) (d := (some 18)) (v := undef) rfl rfl (by kernel_rfl) (fun _ _ _ h => h) (fun _ _ h hu => ⟨(h.1).up hu, (h.2.1).up hu, (h.2.2.1).up hu, hu.cell (h.2.2.2.1), hu.cell (h.2.2.2.2.1), below_up (h.2.2.2.2.2) hu⟩) (Or.inr ⟨by rfl, rfl⟩) ?_
    try simp only [Act.put, List.setIfInBounds_toArray, List.set_cons_zero, List.set_cons_succ]
    refine wpAnyU_pure (i := 8) (d := (some 19)) (v := undef) rfl rfl (by kernel_rfl) (fun _ _ _ h => h) (fun _ _ h hu => ⟨(h.1).up hu, (h.2.1).up hu, (h.2.2.1).up hu, hu.cell (h.2.2.2.1), hu.cell (h.2.2.2.2.1), below_up (h.2.2.2.2.2) hu⟩) (Or.inr ⟨by rfl, rfl⟩) ?_
    try simp only [Act.put, List.setIfInBounds_toArray, List.set_cons_zero, List.set_cons_succ]
    refine wpAnyU_pure (i := 9) (d := (some 20)) (v := undef) rfl rfl (by kernel_rfl) (fun _ _ _ h => h) (fun _ _ h hu => ⟨(h.1).up hu, (h.2.1).up hu, (h.2.2.1).up hu, hu.cell (h.2.2.2.1), hu.cell (h.2.2.2.2.1), below_up (h.2.2.2.2.2) hu⟩) (Or.inr ⟨by rfl, rfl⟩) ?_
    try simp only [Act.put, List.setIfInBounds_toArray, List.set_cons_zero, List.set_cons_succ]
    refine wpAnyU_pure (i := 10) (d := (some 21)) (v := undef) rfl rfl (by kernel_rfl) (fun _ _ _ h => h) (fun _ _ h hu => ⟨(h.1).up hu, (h.2.1).up hu, (h.2.2.1).up hu, hu.cell (h.2.2.2.1), hu.cell (h.2.2.2.2.1), below_up (h.2.2.2.2.2) hu⟩) (Or.inr ⟨by rfl, rfl⟩) ?_
    try simp only [Act.put, List.setIfInBounds_toArray, List.set_cons_zero, List.set_cons_succ]
    refine wpAnyU_pure (i := 11) (d := (some 22)) (v := undef) rfl rfl (by kernel_rfl) (fun _ _ _ h => h) (fun _ _ h hu => ⟨(h.1).up hu, (h.2.1).up hu, (h.2.2.1).up hu, hu.cell (h.2.2.2.1), hu.cell (h.2.2.2.2.1), below_up (h.2.2.2.2.2) hu⟩) (Or.inr ⟨by rfl, rfl⟩) ?_
    try simp only [Act.put, List.setIfInBounds_toArray, List.set_cons_zero, List.set_cons_succ]
    refine wpAnyU_pure (i := 12) (d := (some 23)) (v := undef) rfl rfl (by kernel_rfl) (fun _ _ _ h => h) (fun _ _ h hu => ⟨(h.1).up hu, (h.2.1).up hu, (h.2.2.1).up hu, hu.cell (h.2.2.2.1), hu.cell (h.2.2.2.2.1), below_up (h.2.2.2.2.2) hu⟩) (Or.inr ⟨by rfl, rfl⟩) ?_
    try simp only [Act.put, List.setIfInBounds_toArray, List.set_cons_zero, List.set_cons_succ]
    refine wpAnyU_pure (i := 13) (d := (some 24)) (v := undef) rfl rfl (by kernel_rfl) (fun _ _ _ h => h) (fun _ _ h hu => ⟨(h.1).up hu, (h.2.1).up hu, (h.2.2.1).up hu, hu.cell (h.2.2.2.1), hu.cell (h.2.2.2.2.1), below_up (h.2.2.2.2.2) hu⟩) (Or.inr ⟨by rfl, rfl⟩) ?_
    try simp only [Act.put, List.setIfInBounds_toArray, List.set_cons_zero, List.set_cons_succ]
    refine wpAnyU_pure (i := 14) (d := (some 25)) (v := undef) rfl rfl (by kernel_rfl) (fun _ _ _ h => h) (fun _ _ h hu => ⟨(h.1).up hu, (h.2.1).up hu, (h.2.2.1).up hu, hu.cell (h.2.2.2.1), hu.cell (h.2.2.2.2.1), below_up (h.2.2.2.2.2) hu⟩) (Or.inr ⟨by rfl, rfl⟩) ?_
    try simp only [Act.put, List.setIfInBounds_toArray, List.set_cons_zero, List.set_cons_succ]
    refine wpAnyU_pure (i := 15) (d := (some 26)) (v := undef) rfl rfl (by kernel_rfl) (fun _ _ _ h => h) (fun _ _ h hu => ⟨(h.1).up hu, (h.2.1).up hu, (h.2.2.1).up hu, hu.cell (h.2.2.2.1), hu.cell (h.2.2.2.2.1), below_up (h.2.2.2.2.2) hu⟩) (Or.inr ⟨by rfl, rfl⟩) ?_
    try simp only [Act.put, List.setIfInBounds_toArray, List.set_cons_zero, List.set_cons_succ]
    refine wpAnyU_pure (i := 16) (d := (some 27)) (v := undef) rfl rfl (by kernel_rfl) (fun _ _ _ h => h) (fun _ _ h hu => ⟨(h.1).up hu, (h.2.1).up hu, (h.2.2.1).up hu, hu.cell (h.2.2.2.1), hu.cell (h.2.2.2.2.1), below_up (h.2.2.2.2.2) hu⟩) (Or.inr ⟨by rfl, rfl⟩) ?_
    try simp only [Act.put, List.setIfInBounds_toArray, List.set_cons_zero, List.set_cons_succ]
    refine wpAnyU_pure (i := 17) (d := (some 28)) (v := ?_) rfl rfl (by kernel_rfl) (fun _ _ _ h => h) (fun _ _ h hu => ⟨(h.1).up hu, (h.2.1).up hu, (h.2.2.1).up hu, hu.cell (h.2.2.2.1), hu.cell (h.2.2.2.2.1), below_up (h.2.2.2.2.2) hu⟩) (Or.inl ⟨by rfl, fun w' _ => yu_value ?_⟩) ?_
    rotate_left
    · (go_simp; (try exact rfl))
    try simp only [Act.put, List.setIfInBounds_toArray, List.set_cons_zero, List.set_cons_succ]
    refine wpAnyU_pure (i := 18) (d := (some 29)) (v := ?_) rfl rfl (by kernel_rfl) (fun _ _ _ h => h) (fun _ _ h hu => ⟨(h.1).up hu, (h.2.1).up hu, (h.2.2.1).up hu, hu.cell (h.2.2.2.1), hu.cell (h.2.2.2.2.1), below_up (h.2.2.2.2.2) hu⟩) (Or.inl ⟨by rfl, fun w' _ => yu_value ?_⟩) ?_
    rotate_left
    · (go_simp; (try exact rfl))
    try simp only [Act.put, List.setIfInBounds_toArray, List.set_cons_zero, List.set_cons_succ]
    refine wpAnyU_done (by kernel_rfl) (fun wE huE => ?_) _
    have ⟨hS1, hS2, hS3, hS4, hS5, hSB⟩ := ((fun _ _ h hu => ⟨(h.1).up hu, (h.2.1).up hu, (h.2.2.1).up hu, hu.cell (h.2.2.2.1), hu.cell (h.2.2.2.2.1), below_up (h.2.2.2.2.2) hu⟩) : ∀ w1 w2 : World, (fun wq => Row wq (w.heap.size + 1) 64 16 (fun _ => 0) ∧ Row wq wQ.heap.size 64 16 (fun _ => 0) ∧ Blk wq w.heap.size 59 #[.bool true, .slice a (nl x) c] ∧ wq.cell? ⟨w.heap.size, 0, none⟩ = some (.bool true) ∧ wq.cell? ⟨w.heap.size, 1, none⟩ = some (.slice a (nl x) c) ∧ Below w.heap.size w wq) w1 → Up w1 w2 → (fun wq => Row wq (w.heap.size + 1) 64 16 (fun _ => 0) ∧ Row wq wQ.heap.size 64 16 (fun _ => 0) ∧ Blk wq w.heap.size 59 #[.bool true, .slice a (nl x) c] ∧ wq.cell? ⟨w.heap.size, 0, none⟩ = some (.bool true) ∧ wq.cell? ⟨w.heap.size, 1, none⟩ = some (.slice a (nl x) c) ∧ Below w.heap.size w wq) w2) _ _ hSS huE
    clear huE hSS
    have gZ := hS1
    have gW := hS2
    have gBx := hS3
    have gB := hSB
    clear huS
    go_wp2
    refine wp_region_upS (S := (fun wq => Row wq (w.heap.size + 1) 64 16 (fun _ => 0) ∧ Row wq wQ.heap.size 64 16 (fun _ => 0) ∧ Blk wq w.heap.size 59 #[.bool true, .slice a (nl x) c] ∧ wq.cell? ⟨w.heap.size, 0, none⟩ = some (.bool true) ∧ wq.cell? ⟨w.heap.size, 1, none⟩ = some (.slice a (nl x) c) ∧ Below w.heap.size w wq)) (req := (fun j => j != 3)) (by kernel_rfl) (fun _ _ h hu => ⟨(h.1).up hu, (h.2.1).up hu, (h.2.2.1).up hu, hu.cell (h.2.2.2.1), hu.cell (h.2.2.2.2.1), below_up (h.2.2.2.2.2) hu⟩) ⟨(by (repeat (first | assumption | ((with_reducible apply row_newc); (focus (first | rfl | (simp; done)))) | ((with_reducible apply row_newz); (focus (first | rfl | (simp; done)))) | (with_reducible apply row_same) | ((with_reducible apply row_else); (focus (first | (simp; done) | (simp; omega) | omega))) | (with_reducible apply row_alloc) | (with_reducible apply row_drew) | (with_reducible apply row_drewN) | ((with_reducible apply row_up); assumption)))), (by (repeat (first | assumption | ((with_reducible apply row_newc); (focus (first | rfl | (simp; done)))) | ((with_reducible apply row_newz); (focus (first | rfl | (simp; done)))) | (with_reducible apply row_same) | ((with_reducible apply row_else); (focus (first | (simp; done) | (simp; omega) | omega))) | (with_reducible apply row_alloc) | (with_reducible apply row_drew) | (with_reducible apply row_drewN) | ((with_reducible apply row_up); assumption)))), (by (repeat (first | assumption | ((with_reducible apply blk_new); (focus (first | rfl | (simp; done)))) | (with_reducible apply blk_alloc) | (with_reducible apply blk_drew) | (with_reducible apply blk_drewN) | ((with_reducible apply blk_up); assumption) | (with_reducible apply blk_same) | ((with_reducible apply blk_else); (focus (first | (simp; done) | (simp; omega) | omega)))))), (by first | assumption | (apply Blk.cell; (focus (repeat (first | assumption | ((with_reducible apply blk_new); (focus (first | rfl | (simp; done)))) | (with_reducible apply blk_alloc) | (with_reducible apply blk_drew) | (with_reducible apply blk_drewN) | ((with_reducible apply blk_up); assumption) | (with_reducible apply blk_same) | ((with_reducible apply blk_else); (focus (first | (simp; done) | (simp; omega) | omega)))))); exact rfl)), (by first | assumption | (apply Blk.cell; (focus (repeat (first | assumption | ((with_reducible apply blk_new); (focus (first | rfl | (simp; done)))) | (with_reducible apply blk_alloc) | (with_reducible apply blk_drew) | (with_reducible apply blk_drewN) | ((with_reducible apply blk_up); assumption) | (with_reducible apply blk_same) | ((with_reducible apply blk_else); (focus (first | (simp; done) | (simp; omega) | omega)))))); exact rfl)), (by repeat (first | assumption | (with_reducible apply Up.of) | (with_reducible exact Below.refl _ _) | (with_reducible exact Up.refl _) | ((with_reducible apply bl_setRow); (focus (first | exact Nat.le_refl _ | (simp; done) | (simp; omega) | omega))) | (with_reducible apply below_drewN) | (with_reducible apply Below.drew) | ((with_reducible apply bl_alloc); (focus (first | exact Nat.le_refl _ | (simp; done) | (simp; omega) | omega))) | ((with_reducible apply bl_setCell); (focus (first | exact Nat.le_refl _ | (simp; done) | (simp; omega) | omega))) | ((with_reducible apply up_tr); assumption)))⟩ (fun wS hSS => ?_)
    have ⟨hS1, hS2, hS3, hS4, hS5, hSB⟩ := hSS
    refine wpAnyU_pure (i := 0) (d := (some 31)) (v := ?_) rfl rfl (by kernel_rfl) (fun _ _ _ h => h) (fun _ _ h hu => ⟨(h.1).up hu, (h.2.1).up hu, (h.2.2.1).up hu, hu.cell (h.2.2.2.1), hu.cell (h.2.2.2.2.1), below_up (h.2.2.2.2.2) hu⟩) (Or.inl ⟨by rfl, fun w' _ => yu_value ?_⟩) ?_
    rotate_left
    · (go_simp; (try exact rfl))
    try simp only [Act.put, List.setIfInBounds_toArray, List.set_cons_zero, List.set_cons_succ]
    refine wpAnyU_pure (i := 1) (d := (some 32)) (v := ?_) rfl rfl (by kernel_rfl) (fun _ _ _ h => h) (fun _ _ h hu => ⟨(h.1).up hu, (h.2.1).up hu, (h.2.2.1).up hu, hu.cell (h.2.2.2.1), hu.cell (h.2.2.2.2.1), below_up (h.2.2.2.2.2) hu⟩) (Or.inl ⟨by rfl, fun w' _ => yu_value ?_⟩) ?_
    rotate_left
    · (go_simp; (try exact rfl))
    try simp only [Act.put, List.setIfInBounds_toArray, List.set_cons_zero, List.set_cons_succ]
    refine wpAnyU_take (i := 2) (d := (some 33)) (v := ?_) rfl rfl (by kernel_rfl) (fun _ _ _ h => h) (fun _ _ h hu => ⟨(h.1).up hu, (h.2.1).up hu, (h.2.2.1).up hu, hu.cell (h.2.2.2.1), hu.cell (h.2.2.2.2.1), below_up (h.2.2.2.2.2) hu⟩) hSS (Or.inl ⟨by rfl, fun w' hSw => yu_value ?_⟩) ?_
    rotate_left
    · ((try dsimp only at hSw); (try obtain ⟨_, _, _, _, _, _⟩ := hSw); go_simp; (try exact rfl))
    try simp only [Act.put, List.setIfInBounds_toArray, List.set_cons_zero, List.set_cons_succ]
    refine wpAnyU_one (i := 3) rfl (by kernel_rfl) (by rfl) fun w1 hw1 => ?_
    refine wp_copy rfl rfl rfl rfl (hA.up (below_up hSB hw1)) hn16 (hS2.up hw1) fun w2 hR2 hb2 => ?_
    refine ⟨fun h => by simp at h, ?_⟩
    try simp only [Act.put, List.setIfInBounds_toArray]
    refine wpAnyU_done (by kernel_rfl) (fun wF huE => ?_) _
    have hle := hS2.lt
    have hsw := hw1.size
    have gR := hR2.up huE
    have gZ := (Row.belowU hb2 hgt (hS1.up hw1)).up huE
    have gK := (Blk.belowU hb2 (by omega) (hS3.up hw1)).up huE
    have gB : Below w.heap.size w wF := below_up (Below.trans (below_up hSB hw1) (Below.mono hb2 (by omega))) huE
    clear hS1 hS2 hS3 hS4 hS5 hSB hSS hw1 huE hR2 hb2
    have hc0 := gK.cell 0 rfl
    clear gK
    generalize wQ.heap.size = G at *
    go_wp2
    go_loopw [6, 7] (fun tc ti wr => ∃ (i cc : Nat) (S : Nat → Nat), i ≤ 16 ∧ tc = .int .u64 (cc : Nat) ∧ ti = .int .i64 (i : Nat) ∧ cc ≤ 1 ∧ (∀ j, j < 16 → S j < 18446744073709551616) ∧ sumL S i + cc * bp i + sumL (limb x) i = bp i ∧ (∀ j, i ≤ j → j < 16 → S j = limb x j) ∧
        Row wr (w.heap.size + 1) 64 16 (fun _ => 0) ∧ Row wr G 64 16 S ∧ Below w.heap.size w wr)
      (fun _ ti _ => 16 - (intOf ti).toNat)
    case atStart => exact ⟨0, 1, limb x, by omega, rfl, rfl, by omega, fun j _ => limb_lt x j, by simp [sumL_zero, bp_zero], fun _ _ _ => rfl, gZ, gR, gB⟩
    case round =>
      clear gZ gR gB
      obtain ⟨i, cc, S, hi, rfl, rfl, hcc, hSb, hsum, hrest, hZ, hS, hB⟩ := hrel
      have HSb := hid hSb
      have Hsum := hid hsum
      have Hrest := hid hrest
      clear hSb hsum hrest
      by_cases hlt : i < 16
      · have hcx := hS.cell i hlt
        rw [Hrest.out i (Nat.le_refl _) hlt] at hcx
        have hfi := limb_lt x i
        obtain ⟨r, c', hadd, hrc, hrl, hc1⟩ : ∃ r c' : Nat, (∀ w, (callFunc 76 #[.int .u64 (18446744073709551615 - limb x i : Nat), .int .u64 0, .int .u64 (cc : Nat)]).run Tryd.prog w = .ok (.value (.tuple #[.int .u64 (r : Nat), .int .u64 (c' : Nat)])) w) ∧ Hid (r + c' * 18446744073709551616 + limb x i = 18446744073709551615 + cc) ∧ r < 18446744073709551616 ∧ c' ≤ 1 := by
          have h := run_add (18446744073709551615 - limb x i) 0 cc hcc
          simp only [show ((0 : Nat) : Int) = 0 from rfl] at h
          exact ⟨_, _, h, hid (by omega), Nat.mod_lt _ (by decide), by omega⟩
        have hxor := bits_not hfi
        obtain ⟨Y, hY⟩ : ∃ Y, 18446744073709551615 - limb x i = Y := ⟨_, rfl⟩
        rw [hY] at hadd hxor
        clear hY
        have hfs := hS.frozen i
        have gZ := hZ.other ⟨G, i, none⟩ (.int .u64 (r : Nat)) (show w.heap.size + 1 ≠ G by omega)
        have gS := hS.set i r
        have gB := hB.setCell (p := ⟨G, i, none⟩) (show w.heap.size ≤ G by omega) (.int .u64 (r : Nat))
        clear hZ hS hB
        go_wp2
        go_roundw
        case rel =>
          refine ⟨i + 1, c', upd S i r, by omega, rfl, by go_num, hc1, upd_lt HSb.out hrl, ?_, fun j h1 h2 => by rw [upd_other _ _ _ (by omega)]; exact Hrest.out j (by omega) h2, gZ, gS, gB⟩
          rw [sumL_succ (limb x) i]
          exact comp_step Hsum.out rfl hrc.out
        case measure => simp [intOf] <;> omega
      · obtain rfl : i = 16 := by omega
        have he : sumL S 16 = enc z := by
          have h1 := Hsum.out
          have h3 := HE.out
          have h4 := HR.out
          have h5 := sumL_lt HSb.out
          rw [sumL_limb, Nat.mod_eq_of_lt (by omega)] at h1
          rcases Nat.eq_zero_or_pos cc with h0 | h0
          · subst h0; omega
          · have : 1 * bp 16 ≤ cc * bp 16 := Nat.mul_le_mul_right _ h0
            omega
        have gS : Row wr G 64 16 (limb (enc z)) := hS.congr fun j hj => by rw [← he]; exact (limb_sumL HSb.out hj).symm
        clear hS he HSb Hsum Hrest
        go_wp2_with (first | ((with_reducible apply ld_rowP undW infoW); exact rfl; exact rfl; focus (repeat (first | assumption | ((with_reducible apply row_newc); (focus (first | rfl | (simp; done)))) | ((with_reducible apply row_newz); (focus (first | rfl | (simp; done)))) | (with_reducible apply row_same) | ((with_reducible apply row_else); (focus (first | (simp; done) | (simp; omega) | omega))) | (with_reducible apply row_alloc) | (with_reducible apply row_drew) | (with_reducible apply row_drewN) | ((with_reducible apply row_up); assumption)))) | ((with_reducible apply st_rowP infoW); exact rfl; exact rfl; focus (repeat (first | assumption | ((with_reducible apply row_newc); (focus (first | rfl | (simp; done)))) | ((with_reducible apply row_newz); (focus (first | rfl | (simp; done)))) | (with_reducible apply row_same) | ((with_reducible apply row_else); (focus (first | (simp; done) | (simp; omega) | omega))) | (with_reducible apply row_alloc) | (with_reducible apply row_drew) | (with_reducible apply row_drewN) | ((with_reducible apply row_up); assumption)))) | ((with_reducible apply st_rowZ infoW); exact rfl; exact rfl; focus (repeat (first | assumption | ((with_reducible apply row_newc); (focus (first | rfl | (simp; done)))) | ((with_reducible apply row_newz); (focus (first | rfl | (simp; done)))) | (with_reducible apply row_same) | ((with_reducible apply row_else); (focus (first | (simp; done) | (simp; omega) | omega))) | (with_reducible apply row_alloc) | (with_reducible apply row_drew) | (with_reducible apply row_drewN) | ((with_reducible apply row_up); assumption)))))
        exact bodyPost_ret (res2 rfl undW infoW _ _ rfl (by (repeat (first | assumption | ((with_reducible apply row_newc); (focus (first | rfl | (simp; done)))) | ((with_reducible apply row_newz); (focus (first | rfl | (simp; done)))) | (with_reducible apply row_same) | ((with_reducible apply row_else); (focus (first | (simp; done) | (simp; omega) | omega))) | (with_reducible apply row_alloc) | (with_reducible apply row_drew) | (with_reducible apply row_drewN) | ((with_reducible apply row_up); assumption))))) rfl ⟨rfl, (by repeat (first | assumption | (with_reducible apply Up.of) | (with_reducible exact Below.refl _ _) | (with_reducible exact Up.refl _) | ((with_reducible apply bl_setRow); (focus (first | exact Nat.le_refl _ | (simp; done) | (simp; omega) | omega))) | (with_reducible apply below_drewN) | (with_reducible apply Below.drew) | ((with_reducible apply bl_alloc); (focus (first | exact Nat.le_refl _ | (simp; done) | (simp; omega) | omega))) | ((with_reducible apply bl_setCell); (focus (first | exact Nat.le_refl _ | (simp; done) | (simp; omega) | omega))) | ((with_reducible apply up_tr); assumption)))⟩
end Go.Proofs.YtdcpoamjmoceiaaDoor
/-
  The reference's wide numbers out of any whole ones: also of those that don't fit, and of the least.
-/
namespace Go.Proofs.YtdcpoamjmoceiaaDoor
open Go Go.RowKit
set_option maxRecDepth 100000

set_option maxHeartbeats 4000000 in
theorem to_over {z : Int} {v : Value} {w : World} (h : Big w v z) (hlt : bp 16 ≤ z.natAbs) (hn : nl z.natAbs < 50000) :
    Calls Tryd.prog 61 #[v] w fun e w' => e = .returned (opt z) ∧ Up w w' := by
  have hbp := hb_pos
  have hb16 := bp16
  have hz : ¬ InR z := fun hr => by have := hr.out; omega
  rw [opt_no hz]
  obtain ⟨a, c, rfl, hA⟩ := h
  have hsz := fun w' (h : Up w w') => size_am (hA.up h) hn
  have hbl := blen_over hlt
  generalize decide (z < 0) = p at *
  generalize z.natAbs = x at *
  have d1 : decide ((1024 : Int) < (blen x : Nat)) = true := decide_eq_true (by omega)
  have HSZ := hid hsz
  clear hsz
  generalize blen x = n at *
  clear hz hb16 hbp hlt hbl
  go_enter Tryd.func61, Tryd.ntmps61
  go_wp2_with (first | (go_at_call 79; (with_reducible refine (HSZ.out _ (by repeat (first | assumption | (with_reducible apply Up.of) | (with_reducible exact Below.refl _ _) | (with_reducible exact Up.refl _) | ((with_reducible apply bl_setRow); (focus (first | exact Nat.le_refl _ | (simp; done) | (simp; omega) | omega))) | (with_reducible apply below_drewN) | (with_reducible apply Below.drew) | ((with_reducible apply bl_alloc); (focus (first | exact Nat.le_refl _ | (simp; done) | (simp; omega) | omega))) | ((with_reducible apply bl_setCell); (focus (first | exact Nat.le_refl _ | (simp; done) | (simp; omega) | omega))) | ((with_reducible apply up_tr); assumption)))).mono ?_); rintro e wQ ⟨rfl, huS⟩))
  have hszS := huS.size
  have hgt : w.heap.size + 1 < wQ.heap.size := by simp at hszS; omega
  refine wp_region_upS (S := (fun wq => Row wq (w.heap.size + 1) 64 16 (fun _ => 0) ∧ Row wq wQ.heap.size 64 16 (fun _ => 0) ∧ Below w.heap.size w wq)) (req := (fun _ => true)) (by kernel_rfl) (fun _ _ h hu => ⟨(h.1).up hu, (h.2.1).up hu, below_up (h.2.2) hu⟩) ⟨(by (repeat (first | assumption | ((with_reducible apply row_newc); (focus (first | rfl | (simp; done)))) | ((with_reducible apply row_newz); (focus (first | rfl | (simp; done)))) | (with_reducible apply row_same) | ((with_reducible apply row_else); (focus (first | (simp; done) | (simp; omega) | omega))) | (with_reducible apply row_alloc) | (with_reducible apply row_drew) | (with_reducible apply row_drewN) | ((with_reducible apply row_up); assumption)))), (by (repeat (first | assumption | ((with_reducible apply row_newc); (focus (first | rfl | (simp; done)))) | ((with_reducible apply row_newz); (focus (first | rfl | (simp; done)))) | (with_reducible apply row_same) | ((with_reducible apply row_else); (focus (first | (simp; done) | (simp; omega) | omega))) | (with_reducible apply row_alloc) | (with_reducible apply row_drew) | (with_reducible apply row_drewN) | ((with_reducible apply row_up); assumption)))), (by repeat (first | assumption | (with_reducible apply Up.of) | (with_reducible exact Below.refl _ _) | (with_reducible exact Up.refl _) | ((with_reducible apply bl_setRow); (focus (first | exact Nat.le_refl _ | (simp; done) | (simp; omega) | omega))) | (with_reducible apply below_drewN) | (with_reducible apply Below.drew) | ((with_reducible apply bl_alloc); (focus (first | exact Nat.le_refl _ | (simp; done) | (simp; omega) | omega))) | ((with_reducible apply bl_setCell); (focus (first | exact Nat.le_refl _ | (simp; done) | (simp; omega) | omega))) | ((with_reducible apply up_tr); assumption)))⟩ (fun wS hSS => ?_)
  have ⟨hS1, hS2, hSB⟩ := hSS
  refine wpAnyU_pure (i := 0) (d := (some 11)) (v := ?_) rfl rfl (by kernel_rfl) (fun _ _ _ h => h) (fun _ _ h hu => ⟨(h.1).up hu, (h.2.1).up hu, below_up (h.2.2) hu⟩) (Or.inl ⟨by rfl, fun w' _ => yu_value ?_⟩) ?_
  rotate_left
  · (go_simp; (try exact rfl))
  try simp only [Act.put, List.setIfInBounds_toArray, List.set_cons_zero, List.set_cons_succ]
  refine wpAnyU_pure (i := 1) (d := (some 12)) (v := ?_) rfl rfl (by kernel_rfl) (fun _ _ _ h => h) (fun _ _ h hu => ⟨(h.1).up hu, (h.2.1).up hu, below_up (h.2.2) hu⟩) (Or.inl ⟨by rfl, fun w' _ => yu_value ?_⟩) ?_
  rotate_left
  · (go_simp; (try exact rfl))
  try simp only [Act.put, List.setIfInBounds_toArray, List.set_cons_zero, List.set_cons_succ]
  refine wpAnyU_pure (i := 2) (d := (some 13)) (v := ?_) rfl rfl (by kernel_rfl) (fun _ _ _ h => h) (fun _ _ h hu => ⟨(h.1).up hu, (h.2.1).up hu, below_up (h.2.2) hu⟩) (Or.inl ⟨by rfl, fun w' _ => yu_value ?_⟩) ?_
  rotate_left
  · (go_simp; (try exact rfl))
  try simp only [Act.put, List.setIfInBounds_toArray, List.set_cons_zero, List.set_cons_succ]
  refine wpAnyU_pure (i := 3) (d := (some 14)) (v := undef) rfl rfl (by kernel_rfl) (fun _ _ _ h => h) (fun _ _ h hu => ⟨(h.1).up hu, (h.2.1).up hu, below_up (h.2.2) hu⟩) (Or.inr ⟨by rfl, rfl⟩) ?_
  try simp only [Act.put, List.setIfInBounds_toArray, List.set_cons_zero, List.set_cons_succ]
  refine wpAnyU_pure (i := 4) (d := (some 15)) (v := undef) rfl rfl (by kernel_rfl) (fun _ _ _ h => h) (fun _ _ h hu => ⟨(h.1).up hu, (h.2.1).up hu, below_up (h.2.2) hu⟩) (Or.inr ⟨by rfl, rfl⟩) ?_
  try simp only [Act.put, List.setIfInBounds_toArray, List.set_cons_zero, List.set_cons_succ]
  refine wpAnyU_pure (i := 5) (d := (some 16)) (v := undef) rfl rfl (by kernel_rfl) (fun _ _ _ h => h) (fun _ _ h hu => ⟨(h.1).up hu, (h.2.1).up hu, below_up (h.2.2) hu⟩) (Or.inr ⟨by rfl, rfl⟩) ?_
  try simp only [Act.put, List.setIfInBounds_toArray, List.set_cons_zero, List.set_cons_succ]
  refine wpAnyU_pure (i := 6) (d := (some 17)) (v := undef) rfl rfl (by kernel_rfl) (fun _ _ _ h => h) (fun _ _ h hu => ⟨(h.1).up hu, (h.2.1).up hu, below_up (h.2.2) hu⟩) (Or.inr ⟨by rfl, rfl⟩) ?_
  try simp only [Act.put, List.setIfInBounds_toArray, List.set_cons_zero, List.set_cons_succ]
  refine wpAnyU_pure (i := 7) (d := (some 18)) (v := undef) rfl rfl (by kernel_rfl) (fun _ _ _ h => h) (fun _ _ h hu => ⟨(h.1).up hu, (h.2.1).up hu, below_up (h.2.2) hu⟩) (Or.inr ⟨by rfl, rfl⟩) ?_
  try simp only [Act.put, List.setIfInBounds_toArray, List.set_cons_zero, List.set_cons_succ]
  refine wpAnyU_pure (i := 8) (d := (some 19)) (v := undef) rfl rfl (by kernel_rfl) (fun _ _ _ h => h) (fun _ _ h hu => ⟨(h.1).up hu, (h.2.1).up hu, below_up (h.2.2) hu⟩) (Or.inr ⟨by rfl, rfl⟩) ?_
  try simp only [Act.put, List.setIfInBounds_toArray, List.set_cons_zero, List.set_cons_succ]
  refine wpAnyU_pure (i := 9) (d := (some 20)) (v := undef) rfl rfl (by kernel_rfl) (fun _ _ _ h => h) (fun _ _ h hu => ⟨(h.1).up hu, (h.2.1).up hu, below_up (h.2.2) hu⟩) (Or.inr ⟨by rfl, rfl⟩) ?_
  try simp only [Act.put, List.setIfInBounds_toArray, List.set_cons_zero, List.set_cons_succ]
  refine wpAnyU_pure (i := 10) (d := (some 21)) (v := undef) rfl rfl (by kernel_rfl) (fun _ _ _ h => h) (fun _ _ h hu => ⟨(h.1).up hu, (h.2.1).up hu, below_up (h.2.2) hu⟩) (Or.inr ⟨by rfl, rfl⟩) ?_
  try simp only [Act.put, List.setIfInBounds_toArray, List.set_cons_zero, List.set_cons_succ]
  refine wpAnyU_pure (i := 11) (d := (some 22)) (v := undef) rfl rfl (by kernel_rfl) (fun _ _ _ h => h) (fun _ _ h hu => ⟨(h.1).up hu, (h.2.1).up hu, below_up (h.2.2) hu⟩) (Or.inr ⟨by rfl, rfl⟩) ?_
  try simp only [Act.put, List.setIfInBounds_toArray, List.set_cons_zero, List.set_cons_succ]
  refine wpAnyU_pure (i := 12) (d := (some 23)) (v := undef) rfl rfl (by kernel_rfl) (fun _ _ _ h => h) (fun _ _ h hu => ⟨(h.1).up hu, (h.2.1).up hu, below_up (h.2.2) hu⟩) (Or.inr ⟨by rfl, rfl⟩) ?_
  try simp only [Act.put, List.setIfInBounds_toArray, List.set_cons_zero, List.set_cons_succ]
  refine wpAnyU_pure (i := 13) (d := (some 24)) (v := undef) rfl rfl (by kernel_rfl) (fun _ _ _ h => h) (fun _ _ h hu => ⟨(h.1).up hu, (h.2.1).up hu, below_up (h.2.2) hu⟩) (Or.inr ⟨by rfl, rfl⟩) ?_
  try simp only [Act.put, List.setIfInBounds_toArray, List.set_cons_zero, List.set_cons_succ]
  refine wpAnyU_pure (i := 14) (d := (some 25)) (v := undef) rfl rfl (by kernel_rfl) (fun _ _ _ h => h) (fun _ _ h hu => ⟨(h.1).up hu, (h.2.1).up hu, below_up (h.2.2) hu⟩) (Or.inr ⟨by rfl, rfl⟩) ?_
  try simp only [Act.put, List.setIfInBounds_toArray, List.set_cons_zero, List.set_cons_succ]
  refine wpAnyU_pure (i := 15) (d := (some 26)) (v := undef) rfl rfl (by kernel_rfl) (fun _ _ _ h => h) (fun _ _ h hu => ⟨(h.1).up hu, (h.2.1).up hu, below_up (h.2.2) hu⟩) (Or.inr ⟨by rfl, rfl⟩) ?_
  try simp only [Act.put, List.setIfInBounds_toArray, List.set_cons_zero, List.set_cons_succ]
  refine wpAnyU_pure (i := 16) (d := (some 27)) (v := undef) rfl rfl (by kernel_rfl) (fun _ _ _ h => h) (fun _ _ h hu => ⟨(h.1).up hu, (h.2.1).up hu, below_up (h.2.2) hu⟩) (Or.inr ⟨by rfl, rfl⟩) ?_
  try simp only [Act.put, List.setIfInBounds_toArray, List.set_cons_zero, List.set_cons_succ]
  refine wpAnyU_pure (i := 17) (d := (some 28)) (v := undef) rfl rfl (by kernel_rfl) (fun _ _ _ h => h) (fun _ _ h hu => ⟨(h.1).up hu, (h.2.1).up hu, below_up (h.2.2) hu⟩) (Or.inr ⟨by rfl, rfl⟩) ?_
  try simp only [Act.put, List.setIfInBounds_toArray, List.set_cons_zero, List.set_cons_succ]
  refine wpAnyU_pure (i := 18) (d := (some 29)) (v := ?_) rfl rfl (by kernel_rfl) (fun _ _ _ h => h) (fun _ _ h hu => ⟨(h.1).up hu, (h.2.1).up hu, below_up (h.2.2) hu⟩) (Or.inl ⟨by rfl, fun w' _ => yu_value ?_⟩) ?_
  rotate_left
  · (go_simp; (try exact rfl))
  try simp only [Act.put, List.setIfInBounds_toArray, List.set_cons_zero, List.set_cons_succ]
  refine wpAnyU_done (by kernel_rfl) (fun wE huE => ?_) _
  have ⟨hS1, hS2, hSB⟩ := ((fun _ _ h hu => ⟨(h.1).up hu, (h.2.1).up hu, below_up (h.2.2) hu⟩) : ∀ w1 w2 : World, (fun wq => Row wq (w.heap.size + 1) 64 16 (fun _ => 0) ∧ Row wq wQ.heap.size 64 16 (fun _ => 0) ∧ Below w.heap.size w wq) w1 → Up w1 w2 → (fun wq => Row wq (w.heap.size + 1) 64 16 (fun _ => 0) ∧ Row wq wQ.heap.size 64 16 (fun _ => 0) ∧ Below w.heap.size w wq) w2) _ _ hSS huE
  clear huE hSS
  have gZ := hS1
  have gW := hS2
  have gB := hSB
  clear huS
  go_wp2_with (first | ((with_reducible apply ld_rowP undW infoW); exact rfl; exact rfl; focus (repeat (first | assumption | ((with_reducible apply row_newc); (focus (first | rfl | (simp; done)))) | ((with_reducible apply row_newz); (focus (first | rfl | (simp; done)))) | (with_reducible apply row_same) | ((with_reducible apply row_else); (focus (first | (simp; done) | (simp; omega) | omega))) | (with_reducible apply row_alloc) | (with_reducible apply row_drew) | (with_reducible apply row_drewN) | ((with_reducible apply row_up); assumption)))) | ((with_reducible apply st_rowP infoW); exact rfl; exact rfl; focus (repeat (first | assumption | ((with_reducible apply row_newc); (focus (first | rfl | (simp; done)))) | ((with_reducible apply row_newz); (focus (first | rfl | (simp; done)))) | (with_reducible apply row_same) | ((with_reducible apply row_else); (focus (first | (simp; done) | (simp; omega) | omega))) | (with_reducible apply row_alloc) | (with_reducible apply row_drew) | (with_reducible apply row_drewN) | ((with_reducible apply row_up); assumption)))) | ((with_reducible apply st_rowZ infoW); exact rfl; exact rfl; focus (repeat (first | assumption | ((with_reducible apply row_newc); (focus (first | rfl | (simp; done)))) | ((with_reducible apply row_newz); (focus (first | rfl | (simp; done)))) | (with_reducible apply row_same) | ((with_reducible apply row_else); (focus (first | (simp; done) | (simp; omega) | omega))) | (with_reducible apply row_alloc) | (with_reducible apply row_drew) | (with_reducible apply row_drewN) | ((with_reducible apply row_up); assumption)))))
  exact bodyPost_ret (res2 rfl undW infoW _ _ rfl (by (repeat (first | assumption | ((with_reducible apply row_newc); (focus (first | rfl | (simp; done)))) | ((with_reducible apply row_newz); (focus (first | rfl | (simp; done)))) | (with_reducible apply row_same) | ((with_reducible apply row_else); (focus (first | (simp; done) | (simp; omega) | omega))) | (with_reducible apply row_alloc) | (with_reducible apply row_drew) | (with_reducible apply row_drewN) | ((with_reducible apply row_up); assumption))))) rfl ⟨rfl, (by repeat (first | assumption | (with_reducible apply Up.of) | (with_reducible exact Below.refl _ _) | (with_reducible exact Up.refl _) | ((with_reducible apply bl_setRow); (focus (first | exact Nat.le_refl _ | (simp; done) | (simp; omega) | omega))) | (with_reducible apply below_drewN) | (with_reducible apply Below.drew) | ((with_reducible apply bl_alloc); (focus (first | exact Nat.le_refl _ | (simp; done) | (simp; omega) | omega))) | ((with_reducible apply bl_setCell); (focus (first | exact Nat.le_refl _ | (simp; done) | (simp; omega) | omega))) | ((with_reducible apply up_tr); assumption)))⟩

set_option maxHeartbeats 4000000 in
theorem to_mid {z : Int} {v : Value} {w : World} (h : Big w v z) (h1 : hb ≤ z) (h2 : z.natAbs < bp 16) :
    Calls Tryd.prog 61 #[v] w fun e w' => e = .returned (opt z) ∧ Up w w' := by
  have hbp := hb_pos
  have hz : ¬ InR z := fun hr => by have := hr.out; omega
  rw [opt_no hz]
  obtain ⟨a, c, rfl, hA⟩ := h
  have hn16 : nl z.natAbs ≤ 16 := nl_le h2
  have hsz := fun w' (h : Up w w') => size_am (hA.up h) (by omega)
  have hbl := blen_mid (x := z.natAbs) (by omega) h2
  have hp : decide (z < 0) = false := decide_eq_false (by omega)
  rw [hp] at *
  generalize z.natAbs = x at *
  rw [hbl] at hsz
  have d1 : decide ((1024 : Int) < (1024 : Nat)) = false := decide_eq_false (by omega)
  have d2 : (((1024 : Nat) : Int) == 1024) = true := by simp
  have HSZ := hid hsz
  clear hsz
  generalize 1024 = n at HSZ d1 d2
  clear hz hbp h1 h2 hbl
  go_enter Tryd.func61, Tryd.ntmps61
  go_wp2_with (first | (go_at_call 79; (with_reducible refine (HSZ.out _ (by repeat (first | assumption | (with_reducible apply Up.of) | (with_reducible exact Below.refl _ _) | (with_reducible exact Up.refl _) | ((with_reducible apply bl_setRow); (focus (first | exact Nat.le_refl _ | (simp; done) | (simp; omega) | omega))) | (with_reducible apply below_drewN) | (with_reducible apply Below.drew) | ((with_reducible apply bl_alloc); (focus (first | exact Nat.le_refl _ | (simp; done) | (simp; omega) | omega))) | ((with_reducible apply bl_setCell); (focus (first | exact Nat.le_refl _ | (simp; done) | (simp; omega) | omega))) | ((with_reducible apply up_tr); assumption)))).mono ?_); rintro e wQ ⟨rfl, huS⟩))
  have hszS := huS.size
  have hgt : w.heap.size + 1 < wQ.heap.size := by simp at hszS; omega
  refine wp_region_upS (S := (fun wq => Row wq (w.heap.size + 1) 64 16 (fun _ => 0) ∧ Row wq wQ.heap.size 64 16 (fun _ => 0) ∧ Blk wq w.heap.size 59 #[.bool false, .slice a (nl x) c] ∧ wq.cell? ⟨w.heap.size, 0, none⟩ = some (.bool false) ∧ Below w.heap.size w wq)) (req := (fun _ => true)) (by kernel_rfl) (fun _ _ h hu => ⟨(h.1).up hu, (h.2.1).up hu, (h.2.2.1).up hu, hu.cell (h.2.2.2.1), below_up (h.2.2.2.2) hu⟩) ⟨(by (repeat (first | assumption | ((with_reducible apply row_newc); (focus (first | rfl | (simp; done)))) | ((with_reducible apply row_newz); (focus (first | rfl | (simp; done)))) | (with_reducible apply row_same) | ((with_reducible apply row_else); (focus (first | (simp; done) | (simp; omega) | omega))) | (with_reducible apply row_alloc) | (with_reducible apply row_drew) | (with_reducible apply row_drewN) | ((with_reducible apply row_up); assumption)))), (by (repeat (first | assumption | ((with_reducible apply row_newc); (focus (first | rfl | (simp; done)))) | ((with_reducible apply row_newz); (focus (first | rfl | (simp; done)))) | (with_reducible apply row_same) | ((with_reducible apply row_else); (focus (first | (simp; done) | (simp; omega) | omega))) | (with_reducible apply row_alloc) | (with_reducible apply row_drew) | (with_reducible apply row_drewN) | ((with_reducible apply row_up); assumption)))), (by (repeat (first | assumption | ((with_reducible apply blk_new); (focus (first | rfl | (simp; done)))) | (with_reducible apply blk_alloc) | (with_reducible apply blk_drew) | (with_reducible apply blk_drewN) | ((with_reducible apply blk_up); assumption) | (with_reducible apply blk_same) | ((with_reducible apply blk_else); (focus (first | (simp; done) | (simp; omega) | omega)))))), (by first | assumption | (apply Blk.cell; (focus (repeat (first | assumption | ((with_reducible apply blk_new); (focus (first | rfl | (simp; done)))) | (with_reducible apply blk_alloc) | (with_reducible apply blk_drew) | (with_reducible apply blk_drewN) | ((with_reducible apply blk_up); assumption) | (with_reducible apply blk_same) | ((with_reducible apply blk_else); (focus (first | (simp; done) | (simp; omega) | omega)))))); exact rfl)), (by repeat (first | assumption | (with_reducible apply Up.of) | (with_reducible exact Below.refl _ _) | (with_reducible exact Up.refl _) | ((with_reducible apply bl_setRow); (focus (first | exact Nat.le_refl _ | (simp; done) | (simp; omega) | omega))) | (with_reducible apply below_drewN) | (with_reducible apply Below.drew) | ((with_reducible apply bl_alloc); (focus (first | exact Nat.le_refl _ | (simp; done) | (simp; omega) | omega))) | ((with_reducible apply bl_setCell); (focus (first | exact Nat.le_refl _ | (simp; done) | (simp; omega) | omega))) | ((with_reducible apply up_tr); assumption)))⟩ (fun wS hSS => ?_)
  have ⟨hS1, hS2, hS3, hS4, hSB⟩ := hSS
  refine wpAnyU_pure (i := 0) (d := (some 11)) (v := ?_) rfl rfl (by kernel_rfl) (fun _ _ _ h => h) (fun _ _ h hu => ⟨(h.1).up hu, (h.2.1).up hu, (h.2.2.1).up hu, hu.cell (h.2.2.2.1), below_up (h.2.2.2.2) hu⟩) (Or.inl ⟨by rfl, fun w' _ => yu_value ?_⟩) ?_
  rotate_left
  · (go_simp; (try exact rfl))
  try simp only [Act.put, List.setIfInBounds_toArray, List.set_cons_zero, List.set_cons_succ]
  refine wpAnyU_pure (i := 1) (d := (some 12)) (v := ?_) rfl rfl (by kernel_rfl) (fun _ _ _ h => h) (fun _ _ h hu => ⟨(h.1).up hu, (h.2.1).up hu, (h.2.2.1).up hu, hu.cell (h.2.2.2.1), below_up (h.2.2.2.2) hu⟩) (Or.inl ⟨by rfl, fun w' _ => yu_value ?_⟩) ?_
  rotate_left
  · (go_simp; (try exact rfl))
  try simp only [Act.put, List.setIfInBounds_toArray, List.set_cons_zero, List.set_cons_succ]
  refine wpAnyU_pure (i := 2) (d := (some 13)) (v := ?_) rfl rfl (by kernel_rfl) (fun _ _ _ h => h) (fun _ _ h hu => ⟨(h.1).up hu, (h.2.1).up hu, (h.2.2.1).up hu, hu.cell (h.2.2.2.1), below_up (h.2.2.2.2) hu⟩) (Or.inl ⟨by rfl, fun w' _ => yu_value ?_⟩) ?_
  rotate_left
  · (go_simp; (try exact rfl))
  try simp only [Act.put, List.setIfInBounds_toArray, List.set_cons_zero, List.set_cons_succ]
  refine wpAnyU_pure (i := 3) (d := (some 14)) (v := ?_) rfl rfl (by kernel_rfl) (fun _ _ _ h => h) (fun _ _ h hu => ⟨(h.1).up hu, (h.2.1).up hu, (h.2.2.1).up hu, hu.cell (h.2.2.2.1), below_up (h.2.2.2.2) hu⟩) (Or.inl ⟨by rfl, fun w' _ => yu_value ?_⟩) ?_
  rotate_left
  · (go_simp; (try exact rfl))
  try simp only [Act.put, List.setIfInBounds_toArray, List.set_cons_zero, List.set_cons_succ]
  refine wpAnyU_pure (i := 4) (d := (some 15)) (v := ?_) rfl rfl (by kernel_rfl) (fun _ _ _ h => h) (fun _ _ h hu => ⟨(h.1).up hu, (h.2.1).up hu, (h.2.2.1).up hu, hu.cell (h.2.2.2.1), below_up (h.2.2.2.2) hu⟩) (Or.inl ⟨by rfl, fun w' _ => yu_value ?_⟩) ?_
  rotate_left
  · (go_simp; (try exact rfl))
  try simp only [Act.put, List.setIfInBounds_toArray, List.set_cons_zero, List.set_cons_succ]
  refine wpAnyU_pure (i := 5) (d := (some 16)) (v := ?_) rfl rfl (by kernel_rfl) (fun _ _ _ h => h) (fun _ _ h hu => ⟨(h.1).up hu, (h.2.1).up hu, (h.2.2.1).up hu, hu.cell (h.2.2.2.1), below_up (h.2.2.2.2) hu⟩) (Or.inl ⟨by rfl, fun w' _ => yu_value ?_⟩) ?_
  rotate_left
  · (go_simp; (try exact rfl))
  try simp only [Act.put, List.setIfInBounds_toArray, List.set_cons_zero, List.set_cons_succ]
  refine wpAnyU_pure (i := 6) (d := (some 17)) (v := ?_) rfl rfl (by kernel_rfl) (fun _ _ _ h => h) (fun _ _ h hu => ⟨(h.1).up hu, (h.2.1).up hu, (h.2.2.1).up hu, hu.cell (h.2.2.2.1), below_up (h.2.2.2.2) hu⟩) (Or.inl ⟨by rfl, fun w' _ => yu_value ?_⟩) ?_
  rotate_left
  · (go_simp; (try exact rfl))
  try simp only [Act.put, List.setIfInBounds_toArray, List.set_cons_zero, List.set_cons_succ]
  refine wpAnyU_take (i := 7) (d := (some 18)) (v := ?_) rfl rfl (by kernel_rfl) (fun _ _ _ h => h) (fun _ _ h hu => ⟨(h.1).up hu, (h.2.1).up hu, (h.2.2.1).up hu, hu.cell (h.2.2.2.1), below_up (h.2.2.2.2) hu⟩) hSS (Or.inl ⟨by rfl, fun w' hSw => yu_value ?_⟩) ?_
  rotate_left
  · ((try dsimp only at hSw); (try obtain ⟨_, _, _, _, _⟩ := hSw); go_simp; (try exact rfl))
  try simp only [Act.put, List.setIfInBounds_toArray, List.set_cons_zero, List.set_cons_succ]
  refine wpAnyU_pure (i := 8) (d := (some 19)) (v := ?_) rfl rfl (by kernel_rfl) (fun _ _ _ h => h) (fun _ _ h hu => ⟨(h.1).up hu, (h.2.1).up hu, (h.2.2.1).up hu, hu.cell (h.2.2.2.1), below_up (h.2.2.2.2) hu⟩) (Or.inl ⟨by rfl, fun w' _ => yu_value ?_⟩) ?_
  rotate_left
  · (go_simp; (try exact rfl))
  try simp only [Act.put, List.setIfInBounds_toArray, List.set_cons_zero, List.set_cons_succ]
  refine wpAnyU_pure (i := 9) (d := (some 20)) (v := ?_) rfl rfl (by kernel_rfl) (fun _ _ _ h => h) (fun _ _ h hu => ⟨(h.1).up hu, (h.2.1).up hu, (h.2.2.1).up hu, hu.cell (h.2.2.2.1), below_up (h.2.2.2.2) hu⟩) (Or.inl ⟨by rfl, fun w' _ => yu_value ?_⟩) ?_
  rotate_left
  · (go_simp; (try exact rfl))
  try simp only [Act.put, List.setIfInBounds_toArray, List.set_cons_zero, List.set_cons_succ]
  refine wpAnyU_pure (i := 10) (d := (some 21)) (v := undef) rfl rfl (by kernel_rfl) (fun _ _ _ h => h) (fun _ _ h hu => ⟨(h.1).up hu, (h.2.1).up hu, (h.2.2.1).up hu, hu.cell (h.2.2.2.1), below_up (h.2.2.2.2) hu⟩) (Or.inr ⟨by rfl, rfl⟩) ?_
  try simp only [Act.put, List.setIfInBounds_toArray, List.set_cons_zero, List.set_cons_succ]
  refine wpAnyU_pure (i := 11) (d := (some 22)) (v := undef) rfl rfl (by kernel_rfl) (fun _ _ _ h => h) (fun _ _ h hu => ⟨(h.1).up hu, (h.2.1).up hu, (h.2.2.1).up hu, hu.cell (h.2.2.2.1), below_up (h.2.2.2.2) hu⟩) (Or.inr ⟨by rfl, rfl⟩) ?_
  try simp only [Act.put, List.setIfInBounds_toArray, List.set_cons_zero, List.set_cons_succ]
  refine wpAnyU_pure (i := 12) (d := (some 23)) (v := undef) rfl rfl (by kernel_rfl) (fun _ _ _ h => h) (fun _ _ h hu => ⟨(h.1).up hu, (h.2.1).up hu, (h.2.2.1).up hu, hu.cell (h.2.2.2.1), below_up (h.2.2.2.2) hu⟩) (Or.inr ⟨by rfl, rfl⟩) ?_
  try simp only [Act.put, List.setIfInBounds_toArray, List.set_cons_zero, List.set_cons_succ]
  refine wpAnyU_pure (i := 13) (d := (some 24)) (v := undef) rfl rfl (by kernel_rfl) (fun _ _ _ h => h) (fun _ _ h hu => ⟨(h.1).up hu, (h.2.1).up hu, (h.2.2.1).up hu, hu.cell (h.2.2.2.1), below_up (h.2.2.2.2) hu⟩) (Or.inr ⟨by rfl, rfl⟩) ?_
  try simp only [Act.put, List.setIfInBounds_toArray, List.set_cons_zero, List.set_cons_succ]
  refine wpAnyU_pure (i := 14) (d := (some 25)) (v := undef) rfl rfl (by kernel_rfl) (fun _ _ _ h => h) (fun _ _ h hu => ⟨(h.1).up hu, (h.2.1).up hu, (h.2.2.1).up hu, hu.cell (h.2.2.2.1), below_up (h.2.2.2.2) hu⟩) (Or.inr ⟨by rfl, rfl⟩) ?_
  try simp only [Act.put, List.setIfInBounds_toArray, List.set_cons_zero, List.set_cons_succ]
  refine wpAnyU_pure (i := 15) (d := (some 26)) (v := undef) rfl rfl (by kernel_rfl) (fun _ _ _ h => h) (fun _ _ h hu => ⟨(h.1).up hu, (h.2.1).up hu, (h.2.2.1).up hu, hu.cell (h.2.2.2.1), below_up (h.2.2.2.2) hu⟩) (Or.inr ⟨by rfl, rfl⟩) ?_
  try simp only [Act.put, List.setIfInBounds_toArray, List.set_cons_zero, List.set_cons_succ]
  refine wpAnyU_pure (i := 16) (d := (some 27)) (v := ?_) rfl rfl (by kernel_rfl) (fun _ _ _ h => h) (fun _ _ h hu => ⟨(h.1).up hu, (h.2.1).up hu, (h.2.2.1).up hu, hu.cell (h.2.2.2.1), below_up (h.2.2.2.2) hu⟩) (Or.inl ⟨by rfl, fun w' _ => yu_value ?_⟩) ?_
  rotate_left
  · (go_simp; (try exact rfl))
  try simp only [Act.put, List.setIfInBounds_toArray, List.set_cons_zero, List.set_cons_succ]
  refine wpAnyU_pure (i := 17) (d := (some 28)) (v := ?_) rfl rfl (by kernel_rfl) (fun _ _ _ h => h) (fun _ _ h hu => ⟨(h.1).up hu, (h.2.1).up hu, (h.2.2.1).up hu, hu.cell (h.2.2.2.1), below_up (h.2.2.2.2) hu⟩) (Or.inl ⟨by rfl, fun w' _ => yu_value ?_⟩) ?_
  rotate_left
  · (go_simp; (try exact rfl))
  try simp only [Act.put, List.setIfInBounds_toArray, List.set_cons_zero, List.set_cons_succ]
  refine wpAnyU_pure (i := 18) (d := (some 29)) (v := ?_) rfl rfl (by kernel_rfl) (fun _ _ _ h => h) (fun _ _ h hu => ⟨(h.1).up hu, (h.2.1).up hu, (h.2.2.1).up hu, hu.cell (h.2.2.2.1), below_up (h.2.2.2.2) hu⟩) (Or.inl ⟨by rfl, fun w' _ => yu_value ?_⟩) ?_
  rotate_left
  · (go_simp; (try exact rfl))
  try simp only [Act.put, List.setIfInBounds_toArray, List.set_cons_zero, List.set_cons_succ]
  refine wpAnyU_done (by kernel_rfl) (fun wE huE => ?_) _
  have ⟨hS1, hS2, hS3, hS4, hSB⟩ := ((fun _ _ h hu => ⟨(h.1).up hu, (h.2.1).up hu, (h.2.2.1).up hu, hu.cell (h.2.2.2.1), below_up (h.2.2.2.2) hu⟩) : ∀ w1 w2 : World, (fun wq => Row wq (w.heap.size + 1) 64 16 (fun _ => 0) ∧ Row wq wQ.heap.size 64 16 (fun _ => 0) ∧ Blk wq w.heap.size 59 #[.bool false, .slice a (nl x) c] ∧ wq.cell? ⟨w.heap.size, 0, none⟩ = some (.bool false) ∧ Below w.heap.size w wq) w1 → Up w1 w2 → (fun wq => Row wq (w.heap.size + 1) 64 16 (fun _ => 0) ∧ Row wq wQ.heap.size 64 16 (fun _ => 0) ∧ Blk wq w.heap.size 59 #[.bool false, .slice a (nl x) c] ∧ wq.cell? ⟨w.heap.size, 0, none⟩ = some (.bool false) ∧ Below w.heap.size w wq) w2) _ _ hSS huE
  clear huE hSS
  have gZ := hS1
  have gW := hS2
  have gB := hSB
  clear huS
  go_wp2_with (first | ((with_reducible apply ld_rowP undW infoW); exact rfl; exact rfl; focus (repeat (first | assumption | ((with_reducible apply row_newc); (focus (first | rfl | (simp; done)))) | ((with_reducible apply row_newz); (focus (first | rfl | (simp; done)))) | (with_reducible apply row_same) | ((with_reducible apply row_else); (focus (first | (simp; done) | (simp; omega) | omega))) | (with_reducible apply row_alloc) | (with_reducible apply row_drew) | (with_reducible apply row_drewN) | ((with_reducible apply row_up); assumption)))) | ((with_reducible apply st_rowP infoW); exact rfl; exact rfl; focus (repeat (first | assumption | ((with_reducible apply row_newc); (focus (first | rfl | (simp; done)))) | ((with_reducible apply row_newz); (focus (first | rfl | (simp; done)))) | (with_reducible apply row_same) | ((with_reducible apply row_else); (focus (first | (simp; done) | (simp; omega) | omega))) | (with_reducible apply row_alloc) | (with_reducible apply row_drew) | (with_reducible apply row_drewN) | ((with_reducible apply row_up); assumption)))) | ((with_reducible apply st_rowZ infoW); exact rfl; exact rfl; focus (repeat (first | assumption | ((with_reducible apply row_newc); (focus (first | rfl | (simp; done)))) | ((with_reducible apply row_newz); (focus (first | rfl | (simp; done)))) | (with_reducible apply row_same) | ((with_reducible apply row_else); (focus (first | (simp; done) | (simp; omega) | omega))) | (with_reducible apply row_alloc) | (with_reducible apply row_drew) | (with_reducible apply row_drewN) | ((with_reducible apply row_up); assumption)))))
  exact bodyPost_ret (res2 rfl undW infoW _ _ rfl (by (repeat (first | assumption | ((with_reducible apply row_newc); (focus (first | rfl | (simp; done)))) | ((with_reducible apply row_newz); (focus (first | rfl | (simp; done)))) | (with_reducible apply row_same) | ((with_reducible apply row_else); (focus (first | (simp; done) | (simp; omega) | omega))) | (with_reducible apply row_alloc) | (with_reducible apply row_drew) | (with_reducible apply row_drewN) | ((with_reducible apply row_up); assumption))))) rfl ⟨rfl, (by repeat (first | assumption | (with_reducible apply Up.of) | (with_reducible exact Below.refl _ _) | (with_reducible exact Up.refl _) | ((with_reducible apply bl_setRow); (focus (first | exact Nat.le_refl _ | (simp; done) | (simp; omega) | omega))) | (with_reducible apply below_drewN) | (with_reducible apply Below.drew) | ((with_reducible apply bl_alloc); (focus (first | exact Nat.le_refl _ | (simp; done) | (simp; omega) | omega))) | ((with_reducible apply bl_setCell); (focus (first | exact Nat.le_refl _ | (simp; done) | (simp; omega) | omega))) | ((with_reducible apply up_tr); assumption)))⟩

theorem ord_iff {x y : Nat} : (((ordZ x y : Int) != 0) = true) ↔ x ≠ y := by
  unfold ordZ
  by_cases h1 : x < y
  · simp [h1]; omega
  · by_cases h2 : y < x
    · simp [h1, h2]; omega
    · simp [h1, h2]; omega
set_option maxHeartbeats 4000000 in
theorem to_below {z : Int} {v : Value} {w : World} (h : Big w v z) (h1 : z < -(hb : Int)) (h2 : z.natAbs < bp 16) :
    Calls Tryd.prog 61 #[v] w fun e w' => e = .returned (opt z) ∧ Up w w' := by
  have hbp := hb_pos
  have hz : ¬ InR z := fun hr => by have := hr.out; omega
  rw [opt_no hz]
  obtain ⟨a, c, rfl, hA⟩ := h
  have hn16 : nl z.natAbs ≤ 16 := nl_le h2
  have hnh : nl hb ≤ 16 := nl_le (by have := bp16; omega)
  have hsz := fun w' (h : Up w w') => size_am (hA.up h) (by omega)
  have hbl := blen_mid (x := z.natAbs) (by omega) h2
  have hp : decide (z < 0) = true := decide_eq_true (by omega)
  have ho : ((ordZ z.natAbs hb : Int) != 0) = true := ord_iff.2 (by omega)
  rw [hp] at *
  generalize z.natAbs = x at *
  rw [hbl] at hsz
  have d1 : decide ((1024 : Int) < (1024 : Nat)) = false := decide_eq_false (by omega)
  have d2 : (((1024 : Nat) : Int) == 1024) = true := by simp
  have HSZ := hid hsz
  have HO := hid ho
  have HA := hid hA
  clear hsz ho hA
  generalize 1024 = n at HSZ d1 d2
  clear hz hbp h1 h2 hbl
  go_enter Tryd.func61, Tryd.ntmps61
  go_wp2_with (first | (go_at_call 79; (with_reducible refine (HSZ.out _ (by repeat (first | assumption | (with_reducible apply Up.of) | (with_reducible exact Below.refl _ _) | (with_reducible exact Up.refl _) | ((with_reducible apply bl_setRow); (focus (first | exact Nat.le_refl _ | (simp; done) | (simp; omega) | omega))) | (with_reducible apply below_drewN) | (with_reducible apply Below.drew) | ((with_reducible apply bl_alloc); (focus (first | exact Nat.le_refl _ | (simp; done) | (simp; omega) | omega))) | ((with_reducible apply bl_setCell); (focus (first | exact Nat.le_refl _ | (simp; done) | (simp; omega) | omega))) | ((with_reducible apply up_tr); assumption)))).mono ?_); rintro e wQ ⟨rfl, huS⟩))
  have hszS := huS.size
  have hgt : w.heap.size + 1 < wQ.heap.size := by simp at hszS; omega
  refine wp_region_upS (S := (fun wq => Row wq (w.heap.size + 1) 64 16 (fun _ => 0) ∧ Row wq wQ.heap.size 64 16 (fun _ => 0) ∧ Blk wq w.heap.size 59 #[.bool true, .slice a (nl x) c] ∧ wq.cell? ⟨w.heap.size, 0, none⟩ = some (.bool true) ∧ wq.cell? ⟨w.heap.size, 1, none⟩ = some (.slice a (nl x) c) ∧ Below w.heap.size w wq)) (req := (fun _ => true)) (by kernel_rfl) (fun _ _ h hu => ⟨(h.1).up hu, (h.2.1).up hu, (h.2.2.1).up hu, hu.cell (h.2.2.2.1), hu.cell (h.2.2.2.2.1), below_up (h.2.2.2.2.2) hu⟩) ⟨(by (repeat (first | assumption | ((with_reducible apply row_newc); (focus (first | rfl | (simp; done)))) | ((with_reducible apply row_newz); (focus (first | rfl | (simp; done)))) | (with_reducible apply row_same) | ((with_reducible apply row_else); (focus (first | (simp; done) | (simp; omega) | omega))) | (with_reducible apply row_alloc) | (with_reducible apply row_drew) | (with_reducible apply row_drewN) | ((with_reducible apply row_up); assumption)))), (by (repeat (first | assumption | ((with_reducible apply row_newc); (focus (first | rfl | (simp; done)))) | ((with_reducible apply row_newz); (focus (first | rfl | (simp; done)))) | (with_reducible apply row_same) | ((with_reducible apply row_else); (focus (first | (simp; done) | (simp; omega) | omega))) | (with_reducible apply row_alloc) | (with_reducible apply row_drew) | (with_reducible apply row_drewN) | ((with_reducible apply row_up); assumption)))), (by (repeat (first | assumption | ((with_reducible apply blk_new); (focus (first | rfl | (simp; done)))) | (with_reducible apply blk_alloc) | (with_reducible apply blk_drew) | (with_reducible apply blk_drewN) | ((with_reducible apply blk_up); assumption) | (with_reducible apply blk_same) | ((with_reducible apply blk_else); (focus (first | (simp; done) | (simp; omega) | omega)))))), (by first | assumption | (apply Blk.cell; (focus (repeat (first | assumption | ((with_reducible apply blk_new); (focus (first | rfl | (simp; done)))) | (with_reducible apply blk_alloc) | (with_reducible apply blk_drew) | (with_reducible apply blk_drewN) | ((with_reducible apply blk_up); assumption) | (with_reducible apply blk_same) | ((with_reducible apply blk_else); (focus (first | (simp; done) | (simp; omega) | omega)))))); exact rfl)), (by first | assumption | (apply Blk.cell; (focus (repeat (first | assumption | ((with_reducible apply blk_new); (focus (first | rfl | (simp; done)))) | (with_reducible apply blk_alloc) | (with_reducible apply blk_drew) | (with_reducible apply blk_drewN) | ((with_reducible apply blk_up); assumption) | (with_reducible apply blk_same) | ((with_reducible apply blk_else); (focus (first | (simp; done) | (simp; omega) | omega)))))); exact rfl)), (by repeat (first | assumption | (with_reducible apply Up.of) | (with_reducible exact Below.refl _ _) | (with_reducible exact Up.refl _) | ((with_reducible apply bl_setRow); (focus (first | exact Nat.le_refl _ | (simp; done) | (simp; omega) | omega))) | (with_reducible apply below_drewN) | (with_reducible apply Below.drew) | ((with_reducible apply bl_alloc); (focus (first | exact Nat.le_refl _ | (simp; done) | (simp; omega) | omega))) | ((with_reducible apply bl_setCell); (focus (first | exact Nat.le_refl _ | (simp; done) | (simp; omega) | omega))) | ((with_reducible apply up_tr); assumption)))⟩ (fun wS hSS => ?_)
  have ⟨hS1, hS2, hS3, hS4, hS5, hSB⟩ := hSS
  refine wpAnyU_pure (i := 0) (d := (some 11)) (v := ?_) rfl rfl (by kernel_rfl) (fun _ _ _ h => h) (fun _ _ h hu => ⟨(h.1).up hu, (h.2.1).up hu, (h.2.2.1).up hu, hu.cell (h.2.2.2.1), hu.cell (h.2.2.2.2.1), below_up (h.2.2.2.2.2) hu⟩) (Or.inl ⟨by rfl, fun w' _ => yu_value ?_⟩) ?_
  rotate_left
  · (go_simp; (try exact rfl))
  try simp only [Act.put, List.setIfInBounds_toArray, List.set_cons_zero, List.set_cons_succ]
  refine wpAnyU_pure (i := 1) (d := (some 12)) (v := ?_) rfl rfl (by kernel_rfl) (fun _ _ _ h => h) (fun _ _ h hu => ⟨(h.1).up hu, (h.2.1).up hu, (h.2.2.1).up hu, hu.cell (h.2.2.2.1), hu.cell (h.2.2.2.2.1), below_up (h.2.2.2.2.2) hu⟩) (Or.inl ⟨by rfl, fun w' _ => yu_value ?_⟩) ?_
  rotate_left
  · (go_simp; (try exact rfl))
  try simp only [Act.put, List.setIfInBounds_toArray, List.set_cons_zero, List.set_cons_succ]
  refine wpAnyU_pure (i := 2) (d := (some 13)) (v := ?_) rfl rfl (by kernel_rfl) (fun _ _ _ h => h) (fun _ _ h hu => ⟨(h.1).up hu, (h.2.1).up hu, (h.2.2.1).up hu, hu.cell (h.2.2.2.1), hu.cell (h.2.2.2.2.1), below_up (h.2.2.2.2.2) hu⟩) (Or.inl ⟨by rfl, fun w' _ => yu_value ?_⟩) ?_
  rotate_left
  · (go_simp; (try exact rfl))
  try simp only [Act.put, List.setIfInBounds_toArray, List.set_cons_zero, List.set_cons_succ]
  refine wpAnyU_pure (i := 3) (d := (some 14)) (v := ?_) rfl rfl (by kernel_rfl) (fun _ _ _ h => h) (fun _ _ h hu => ⟨(h.1).up hu, (h.2.1).up hu, (h.2.2.1).up hu, hu.cell (h.2.2.2.1), hu.cell (h.2.2.2.2.1), below_up (h.2.2.2.2.2) hu⟩) (Or.inl ⟨by rfl, fun w' _ => yu_value ?_⟩) ?_
  rotate_left
  · (go_simp; (try exact rfl))
  try simp only [Act.put, List.setIfInBounds_toArray, List.set_cons_zero, List.set_cons_succ]
  refine wpAnyU_pure (i := 4) (d := (some 15)) (v := ?_) rfl rfl (by kernel_rfl) (fun _ _ _ h => h) (fun _ _ h hu => ⟨(h.1).up hu, (h.2.1).up hu, (h.2.2.1).up hu, hu.cell (h.2.2.2.1), hu.cell (h.2.2.2.2.1), below_up (h.2.2.2.2.2) hu⟩) (Or.inl ⟨by rfl, fun w' _ => yu_value ?_⟩) ?_
  rotate_left
  · (go_simp; (try exact rfl))
  try simp only [Act.put, List.setIfInBounds_toArray, List.set_cons_zero, List.set_cons_succ]
  refine wpAnyU_pure (i := 5) (d := (some 16)) (v := ?_) rfl rfl (by kernel_rfl) (fun _ _ _ h => h) (fun _ _ h hu => ⟨(h.1).up hu, (h.2.1).up hu, (h.2.2.1).up hu, hu.cell (h.2.2.2.1), hu.cell (h.2.2.2.2.1), below_up (h.2.2.2.2.2) hu⟩) (Or.inl ⟨by rfl, fun w' _ => yu_value ?_⟩) ?_
  rotate_left
  · (go_simp; (try exact rfl))
  try simp only [Act.put, List.setIfInBounds_toArray, List.set_cons_zero, List.set_cons_succ]
  refine wpAnyU_pure (i := 6) (d := (some 17)) (v := ?_) rfl rfl (by kernel_rfl) (fun _ _ _ h => h) (fun _ _ h hu => ⟨(h.1).up hu, (h.2.1).up hu, (h.2.2.1).up hu, hu.cell (h.2.2.2.1), hu.cell (h.2.2.2.2.1), below_up (h.2.2.2.2.2) hu⟩) (Or.inl ⟨by rfl, fun w' _ => yu_value ?_⟩) ?_
  rotate_left
  · (go_simp; (try exact rfl))
  try simp only [Act.put, List.setIfInBounds_toArray, List.set_cons_zero, List.set_cons_succ]
  refine wpAnyU_take (i := 7) (d := (some 18)) (v := ?_) rfl rfl (by kernel_rfl) (fun _ _ _ h => h) (fun _ _ h hu => ⟨(h.1).up hu, (h.2.1).up hu, (h.2.2.1).up hu, hu.cell (h.2.2.2.1), hu.cell (h.2.2.2.2.1), below_up (h.2.2.2.2.2) hu⟩) hSS (Or.inl ⟨by rfl, fun w' hSw => yu_value ?_⟩) ?_
  rotate_left
  · ((try dsimp only at hSw); (try obtain ⟨_, _, _, _, _, _⟩ := hSw); go_simp; (try exact rfl))
  try simp only [Act.put, List.setIfInBounds_toArray, List.set_cons_zero, List.set_cons_succ]
  refine wpAnyU_pure (i := 8) (d := (some 19)) (v := ?_) rfl rfl (by kernel_rfl) (fun _ _ _ h => h) (fun _ _ h hu => ⟨(h.1).up hu, (h.2.1).up hu, (h.2.2.1).up hu, hu.cell (h.2.2.2.1), hu.cell (h.2.2.2.2.1), below_up (h.2.2.2.2.2) hu⟩) (Or.inl ⟨by rfl, fun w' _ => yu_value ?_⟩) ?_
  rotate_left
  · (go_simp; (try exact rfl))
  try simp only [Act.put, List.setIfInBounds_toArray, List.set_cons_zero, List.set_cons_succ]
  refine wpAnyU_pure (i := 9) (d := (some 20)) (v := ?_) rfl rfl (by kernel_rfl) (fun _ _ _ h => h) (fun _ _ h hu => ⟨(h.1).up hu, (h.2.1).up hu, (h.2.2.1).up hu, hu.cell (h.2.2.2.1), hu.cell (h.2.2.2.2.1), below_up (h.2.2.2.2.2) hu⟩) (Or.inl ⟨by rfl, fun w' _ => yu_value ?_⟩) ?_
  rotate_left
  · (go_simp; (try exact rfl))
  try simp only [Act.put, List.setIfInBounds_toArray, List.set_cons_zero, List.set_cons_succ]
  refine wpAnyU_pure (i := 10) (d := (some 21)) (v := ?_) rfl rfl (by kernel_rfl) (fun _ _ _ h => h) (fun _ _ h hu => ⟨(h.1).up hu, (h.2.1).up hu, (h.2.2.1).up hu, hu.cell (h.2.2.2.1), hu.cell (h.2.2.2.2.1), below_up (h.2.2.2.2.2) hu⟩) (Or.inl ⟨by rfl, fun w' _ => yu_value ?_⟩) ?_
  rotate_left
  · (go_simp; (try exact rfl))
  try simp only [Act.put, List.setIfInBounds_toArray, List.set_cons_zero, List.set_cons_succ]
  refine wpAnyU_take (i := 11) (d := (some 22)) (v := ?_) rfl rfl (by kernel_rfl) (fun _ _ _ h => h) (fun _ _ h hu => ⟨(h.1).up hu, (h.2.1).up hu, (h.2.2.1).up hu, hu.cell (h.2.2.2.1), hu.cell (h.2.2.2.2.1), below_up (h.2.2.2.2.2) hu⟩) hSS (Or.inl ⟨by rfl, fun w' hSw => yu_value ?_⟩) ?_
  rotate_left
  · ((try dsimp only at hSw); (try obtain ⟨_, _, _, _, _, _⟩ := hSw); go_simp; (try exact rfl))
  try simp only [Act.put, List.setIfInBounds_toArray, List.set_cons_zero, List.set_cons_succ]
  refine wpAnyU_one (i := 12) rfl (by kernel_rfl) (by rfl) fun w1 hw1 => ?_
  go_simp
  refine ⟨fun h1 h2 h3 h4 h5 h6 => ⟨h1.up (Up.alloc _ _), h2.up (Up.alloc _ _), h3.up (Up.alloc _ _), (Up.alloc _ _).cell h4, (Up.alloc _ _).cell h5, below_up h6 (Up.alloc _ _)⟩, ?_⟩
  have gO : Row (w1.alloc (.cells #[.int .u64 1] 62)) w1.heap.size 62 1 (fun _ => 1) := row_one (X := 1) rfl
  have gSO : Up wS (w1.alloc (.cells #[.int .u64 1] 62)) := hw1.trans (Up.alloc _ _)
  have gU : Up w (w1.alloc (.cells #[.int .u64 1] 62)) := below_up hSB gSO
  generalize w1.alloc (.cells #[.int .u64 1] 62) = wO at *
  generalize w1.heap.size = bO at *
  refine wpAnyU_callE (i := 13) (d := (some 24)) rfl rfl (by kernel_rfl) (by rfl) (fun _ _ h hu => ⟨(h.1).up hu, (h.2.1).up hu, (h.2.2.1).up hu, hu.cell (h.2.2.2.1), hu.cell (h.2.2.2.2.1), below_up (h.2.2.2.2.2) hu⟩) (fun w' => by go_simp) (fun w' hw' => (left_hb bO w' (fun w'' hu => ((gO.up hw').up hu).cell 0 (by decide)) (gO.up hw').lt)) fun vL wL hwL hRL => ?_
  try simp only [Act.put, List.setIfInBounds_toArray, List.set_cons_zero, List.set_cons_succ]
  refine wpAnyU_callE (i := 14) (d := (some 25)) rfl rfl (by kernel_rfl) (by rfl) (fun _ _ h hu => ⟨(h.1).up hu, (h.2.1).up hu, (h.2.2.1).up hu, hu.cell (h.2.2.2.1), hu.cell (h.2.2.2.2.1), below_up (h.2.2.2.2.2) hu⟩) (fun w' => by go_simp) (fun w' hw' => (callE_of (cmp_am (HA.out.up ((gU.trans hwL).trans hw')) (hRL.up hw') (by omega) (by omega)))) fun vC wC hwC hRC => ?_
  try simp only [Act.put, List.setIfInBounds_toArray, List.set_cons_zero, List.set_cons_succ]
  obtain rfl := hRC
  have d3 := HO.out
  generalize ordZ x hb = o at *
  refine wpAnyU_pure (i := 15) (d := (some 26)) (v := ?_) rfl rfl (by kernel_rfl) (fun _ _ _ h => h) (fun _ _ h hu => ⟨(h.1).up hu, (h.2.1).up hu, (h.2.2.1).up hu, hu.cell (h.2.2.2.1), hu.cell (h.2.2.2.2.1), below_up (h.2.2.2.2.2) hu⟩) (Or.inl ⟨by rfl, fun w' _ => yu_value ?_⟩) ?_
  rotate_left
  · (go_simp; (try exact rfl))
  try simp only [Act.put, List.setIfInBounds_toArray, List.set_cons_zero, List.set_cons_succ]
  refine wpAnyU_pure (i := 16) (d := (some 27)) (v := ?_) rfl rfl (by kernel_rfl) (fun _ _ _ h => h) (fun _ _ h hu => ⟨(h.1).up hu, (h.2.1).up hu, (h.2.2.1).up hu, hu.cell (h.2.2.2.1), hu.cell (h.2.2.2.2.1), below_up (h.2.2.2.2.2) hu⟩) (Or.inl ⟨by rfl, fun w' _ => yu_value ?_⟩) ?_
  rotate_left
  · (go_simp; (try exact rfl))
  try simp only [Act.put, List.setIfInBounds_toArray, List.set_cons_zero, List.set_cons_succ]
  refine wpAnyU_pure (i := 17) (d := (some 28)) (v := ?_) rfl rfl (by kernel_rfl) (fun _ _ _ h => h) (fun _ _ h hu => ⟨(h.1).up hu, (h.2.1).up hu, (h.2.2.1).up hu, hu.cell (h.2.2.2.1), hu.cell (h.2.2.2.2.1), below_up (h.2.2.2.2.2) hu⟩) (Or.inl ⟨by rfl, fun w' _ => yu_value ?_⟩) ?_
  rotate_left
  · (go_simp; (try exact rfl))
  try simp only [Act.put, List.setIfInBounds_toArray, List.set_cons_zero, List.set_cons_succ]
  refine wpAnyU_pure (i := 18) (d := (some 29)) (v := ?_) rfl rfl (by kernel_rfl) (fun _ _ _ h => h) (fun _ _ h hu => ⟨(h.1).up hu, (h.2.1).up hu, (h.2.2.1).up hu, hu.cell (h.2.2.2.1), hu.cell (h.2.2.2.2.1), below_up (h.2.2.2.2.2) hu⟩) (Or.inl ⟨by rfl, fun w' _ => yu_value ?_⟩) ?_
  rotate_left
  · (go_simp; (try exact rfl))
  try simp only [Act.put, List.setIfInBounds_toArray, List.set_cons_zero, List.set_cons_succ]
  refine wpAnyU_done (by kernel_rfl) (fun wF huE => ?_) _
  have hE := ((gSO.trans hwL).trans hwC).trans huE
  have gZ := hS1.up hE
  have gW := hS2.up hE
  have gB := below_up hSB hE
  clear huS hS1 hS2 hS3 hS4 hS5 hSB hSS hE gSO gU hwL hwC huE gO
  go_wp2_with (first | ((with_reducible apply ld_rowP undW infoW); exact rfl; exact rfl; focus (repeat (first | assumption | ((with_reducible apply row_newc); (focus (first | rfl | (simp; done)))) | ((with_reducible apply row_newz); (focus (first | rfl | (simp; done)))) | (with_reducible apply row_same) | ((with_reducible apply row_else); (focus (first | (simp; done) | (simp; omega) | omega))) | (with_reducible apply row_alloc) | (with_reducible apply row_drew) | (with_reducible apply row_drewN) | ((with_reducible apply row_up); assumption)))) | ((with_reducible apply st_rowP infoW); exact rfl; exact rfl; focus (repeat (first | assumption | ((with_reducible apply row_newc); (focus (first | rfl | (simp; done)))) | ((with_reducible apply row_newz); (focus (first | rfl | (simp; done)))) | (with_reducible apply row_same) | ((with_reducible apply row_else); (focus (first | (simp; done) | (simp; omega) | omega))) | (with_reducible apply row_alloc) | (with_reducible apply row_drew) | (with_reducible apply row_drewN) | ((with_reducible apply row_up); assumption)))) | ((with_reducible apply st_rowZ infoW); exact rfl; exact rfl; focus (repeat (first | assumption | ((with_reducible apply row_newc); (focus (first | rfl | (simp; done)))) | ((with_reducible apply row_newz); (focus (first | rfl | (simp; done)))) | (with_reducible apply row_same) | ((with_reducible apply row_else); (focus (first | (simp; done) | (simp; omega) | omega))) | (with_reducible apply row_alloc) | (with_reducible apply row_drew) | (with_reducible apply row_drewN) | ((with_reducible apply row_up); assumption)))))
  exact bodyPost_ret (res2 rfl undW infoW _ _ rfl (by (repeat (first | assumption | ((with_reducible apply row_newc); (focus (first | rfl | (simp; done)))) | ((with_reducible apply row_newz); (focus (first | rfl | (simp; done)))) | (with_reducible apply row_same) | ((with_reducible apply row_else); (focus (first | (simp; done) | (simp; omega) | omega))) | (with_reducible apply row_alloc) | (with_reducible apply row_drew) | (with_reducible apply row_drewN) | ((with_reducible apply row_up); assumption))))) rfl ⟨rfl, (by repeat (first | assumption | (with_reducible apply Up.of) | (with_reducible exact Below.refl _ _) | (with_reducible exact Up.refl _) | ((with_reducible apply bl_setRow); (focus (first | exact Nat.le_refl _ | (simp; done) | (simp; omega) | omega))) | (with_reducible apply below_drewN) | (with_reducible apply Below.drew) | ((with_reducible apply bl_alloc); (focus (first | exact Nat.le_refl _ | (simp; done) | (simp; omega) | omega))) | ((with_reducible apply bl_setCell); (focus (first | exact Nat.le_refl _ | (simp; done) | (simp; omega) | omega))) | ((with_reducible apply up_tr); assumption)))⟩

set_option maxHeartbeats 4000000 in
theorem to_least {z : Int} {v : Value} {w : World} (h : Big w v z) (h1 : z = -(hb : Int)) :
    Calls Tryd.prog 61 #[v] w fun e w' => e = .returned (opt z) ∧ Up w w' := by
  have hbp := hb_pos
  have hb16 := bp16
  have hz : InR z := InR.mk' (by omega)
  rw [opt_yes hz]
  obtain ⟨a, c, rfl, hA⟩ := h
  have hn16 : nl z.natAbs ≤ 16 := nl_le (by omega)
  have hnh : nl hb ≤ 16 := nl_le (by omega)
  have hsz := fun w' (h : Up w w') => size_am (hA.up h) (by omega)
  have hbl := blen_mid (x := z.natAbs) (by omega) (by omega)
  have hen := enc_neg hz
  have hp : decide (z < 0) = true := decide_eq_true (by omega)
  have ho : ((ordZ z.natAbs hb : Int) != 0) = false := by
    rw [show z.natAbs = hb by omega]
    unfold ordZ; simp
  obtain ⟨x, hx⟩ : ∃ x, z.natAbs = x := ⟨_, rfl⟩
  rw [hx] at hn16 hsz hbl hA ho hen
  rw [hp, hx]
  rw [hbl] at hsz
  have d1 : decide ((1024 : Int) < (1024 : Nat)) = false := decide_eq_false (by omega)
  have d2 : (((1024 : Nat) : Int) == 1024) = true := by simp
  have HSZ := hid hsz
  have HO := hid ho
  have HA := hid hA
  have HE := hid (show enc z = bp 16 - x ∧ 0 < x by have := (hen (by omega)).1; omega)
  have HR := hid (show x < bp 16 by omega)
  clear hsz ho hA hen
  generalize 1024 = n at HSZ d1 d2
  clear hbp h1 hbl hp hx hb16 hz
  unfold wideV
  go_enter Tryd.func61, Tryd.ntmps61
  go_wp2_with (first | (go_at_call 79; (with_reducible refine (HSZ.out _ (by repeat (first | assumption | (with_reducible apply Up.of) | (with_reducible exact Below.refl _ _) | (with_reducible exact Up.refl _) | ((with_reducible apply bl_setRow); (focus (first | exact Nat.le_refl _ | (simp; done) | (simp; omega) | omega))) | (with_reducible apply below_drewN) | (with_reducible apply Below.drew) | ((with_reducible apply bl_alloc); (focus (first | exact Nat.le_refl _ | (simp; done) | (simp; omega) | omega))) | ((with_reducible apply bl_setCell); (focus (first | exact Nat.le_refl _ | (simp; done) | (simp; omega) | omega))) | ((with_reducible apply up_tr); assumption)))).mono ?_); rintro e wQ ⟨rfl, huS⟩))
  have hszS := huS.size
  have hgt : w.heap.size + 1 < wQ.heap.size := by simp at hszS; omega
  refine wp_region_upS (S := (fun wq => Row wq (w.heap.size + 1) 64 16 (fun _ => 0) ∧ Row wq wQ.heap.size 64 16 (fun _ => 0) ∧ Blk wq w.heap.size 59 #[.bool true, .slice a (nl x) c] ∧ wq.cell? ⟨w.heap.size, 0, none⟩ = some (.bool true) ∧ wq.cell? ⟨w.heap.size, 1, none⟩ = some (.slice a (nl x) c) ∧ Below w.heap.size w wq)) (req := (fun _ => true)) (by kernel_rfl) (fun _ _ h hu => ⟨(h.1).up hu, (h.2.1).up hu, (h.2.2.1).up hu, hu.cell (h.2.2.2.1), hu.cell (h.2.2.2.2.1), below_up (h.2.2.2.2.2) hu⟩) ⟨(by (repeat (first | assumption | ((with_reducible apply row_newc); (focus (first | rfl | (simp; done)))) | ((with_reducible apply row_newz); (focus (first | rfl | (simp; done)))) | (with_reducible apply row_same) | ((with_reducible apply row_else); (focus (first | (simp; done) | (simp; omega) | omega))) | (with_reducible apply row_alloc) | (with_reducible apply row_drew) | (with_reducible apply row_drewN) | ((with_reducible apply row_up); assumption)))), (by (repeat (first | assumption | ((with_reducible apply row_newc); (focus (first | rfl | (simp; done)))) | ((with_reducible apply row_newz); (focus (first | rfl | (simp; done)))) | (with_reducible apply row_same) | ((with_reducible apply row_else); (focus (first | (simp; done) | (simp; omega) | omega))) | (with_reducible apply row_alloc) | (with_reducible apply row_drew) | (with_reducible apply row_drewN) | ((with_reducible apply row_up); assumption)))), (by (repeat (first | assumption | ((with_reducible apply blk_new); (focus (first | rfl | (simp; done)))) | (with_reducible apply blk_alloc) | (with_reducible apply blk_drew) | (with_reducible apply blk_drewN) | ((with_reducible apply blk_up); assumption) | (with_reducible apply blk_same) | ((with_reducible apply blk_else); (focus (first | (simp; done) | (simp; omega) | omega)))))), (by first | assumption | (apply Blk.cell; (focus (repeat (first | assumption | ((with_reducible apply blk_new); (focus (first | rfl | (simp; done)))) | (with_reducible apply blk_alloc) | (with_reducible apply blk_drew) | (with_reducible apply blk_drewN) | ((with_reducible apply blk_up); assumption) | (with_reducible apply blk_same) | ((with_reducible apply blk_else); (focus (first | (simp; done) | (simp; omega) | omega)))))); exact rfl)), (by first | assumption | (apply Blk.cell; (focus (repeat (first | assumption | ((with_reducible apply blk_new); (focus (first | rfl | (simp; done)))) | (with_reducible apply blk_alloc) | (with_reducible apply blk_drew) | (with_reducible apply blk_drewN) | ((with_reducible apply blk_up); assumption) | (with_reducible apply blk_same) | ((with_reducible apply blk_else); (focus (first | (simp; done) | (simp; omega) | omega)))))); exact rfl)), (by repeat (first | assumption | (with_reducible apply Up.of) | (with_reducible exact Below.refl _ _) | (with_reducible exact Up.refl _) | ((with_reducible apply bl_setRow); (focus (first | exact Nat.le_refl _ | (simp; done) | (simp; omega) | omega))) | (with_reducible apply below_drewN) | (with_reducible apply Below.drew) | ((with_reducible apply bl_alloc); (focus (first | exact Nat.le_refl _ | (simp; done) | (simp; omega) | omega))) | ((with_reducible apply bl_setCell); (focus (first | exact Nat.le_refl _ | (simp; done) | (simp; omega) | omega))) | ((with_reducible apply up_tr); assumption)))⟩ (fun wS hSS => ?_)
  have ⟨hS1, hS2, hS3, hS4, hS5, hSB⟩ := hSS
  refine wpAnyU_pure (i := 0) (d := (some 11)) (v := ?_) rfl rfl (by kernel_rfl) (fun _ _ _ h => h) (fun _ _ h hu => ⟨(h.1).up hu, (h.2.1).up hu, (h.2.2.1).up hu, hu.cell (h.2.2.2.1), hu.cell (h.2.2.2.2.1), below_up (h.2.2.2.2.2) hu⟩) (Or.inl ⟨by rfl, fun w' _ => yu_value ?_⟩) ?_
  rotate_left
  · (go_simp; (try exact rfl))
  try simp only [Act.put, List.setIfInBounds_toArray, List.set_cons_zero, List.set_cons_succ]
  refine wpAnyU_pure (i := 1) (d := (some 12)) (v := ?_) rfl rfl (by kernel_rfl) (fun _ _ _ h => h) (fun _ _ h hu => ⟨(h.1).up hu, (h.2.1).up hu, (h.2.2.1).up hu, hu.cell (h.2.2.2.1), hu.cell (h.2.2.2.2.1), below_up (h.2.2.2.2.2) hu⟩) (Or.inl ⟨by rfl, fun w' _ => yu_value ?_⟩) ?_
  rotate_left
  · (go_simp; (try exact rfl))
  try simp only [Act.put, List.setIfInBounds_toArray, List.set_cons_zero, List.set_cons_succ]
  refine wpAnyU_pure (i := 2) (d := (some 13)) (v := ?_) rfl rfl (by kernel_rfl) (fun _ _ _ h => h) (fun _ _ h hu => ⟨(h.1).up hu, (h.2.1).up hu, (h.2.2.1).up hu, hu.cell (h.2.2.2.1), hu.cell (h.2.2.2.2.1), below_up (h.2.2.2.2.2) hu⟩) (Or.inl ⟨by rfl, fun w' _ => yu_value ?_⟩) ?_
  rotate_left
  · (go_simp; (try exact rfl))
  try simp only [Act.put, List.setIfInBounds_toArray, List.set_cons_zero, List.set_cons_succ]
  refine wpAnyU_pure (i := 3) (d := (some 14)) (v := ?_) rfl rfl (by kernel_rfl) (fun _ _ _ h => h) (fun _ _ h hu => ⟨(h.1).up hu, (h.2.1).up hu, (h.2.2.1).up hu, hu.cell (h.2.2.2.1), hu.cell (h.2.2.2.2.1), below_up (h.2.2.2.2.2) hu⟩) (Or.inl ⟨by rfl, fun w' _ => yu_value ?_⟩) ?_
  rotate_left
  · (go_simp; (try exact rfl))
  try simp only [Act.put, List.setIfInBounds_toArray, List.set_cons_zero, List.set_cons_succ]
  refine wpAnyU_pure (i := 4) (d := (some 15)) (v := ?_) rfl rfl (by kernel_rfl) (fun _ _ _ h => h) (fun _ _ h hu => ⟨(h.1).up hu, (h.2.1).up hu, (h.2.2.1).up hu, hu.cell (h.2.2.2.1), hu.cell (h.2.2.2.2.1), below_up (h.2.2.2.2.2) hu⟩) (Or.inl ⟨by rfl, fun w' _ => yu_value ?_⟩) ?_
  rotate_left
  · (go_simp; (try exact rfl))
  try simp only [Act.put, List.setIfInBounds_toArray, List.set_cons_zero, List.set_cons_succ]
  refine wpAnyU_pure (i := 5) (d := (some 16)) (v := ?_) rfl rfl (by kernel_rfl) (fun _ _ _ h => h) (fun _ _ h hu => ⟨(h.1).up hu, (h.2.1).up hu, (h.2.2.1).up hu, hu.cell (h.2.2.2.1), hu.cell (h.2.2.2.2.1), below_up (h.2.2.2.2.2) hu⟩) (Or.inl ⟨by rfl, fun w' _ => yu_value ?_⟩) ?_
  rotate_left
  · (go_simp; (try exact rfl))
  try simp only [Act.put, List.setIfInBounds_toArray, List.set_cons_zero, List.set_cons_succ]
  refine wpAnyU_pure (i := 6) (d := (some 17)) (v := ?_) rfl rfl (by kernel_rfl) (fun _ _ _ h => h) (fun _ _ h hu => ⟨(h.1).up hu, (h.2.1).up hu, (h.2.2.1).up hu, hu.cell (h.2.2.2.1), hu.cell (h.2.2.2.2.1), below_up (h.2.2.2.2.2) hu⟩) (Or.inl ⟨by rfl, fun w' _ => yu_value ?_⟩) ?_
  rotate_left
  · (go_simp; (try exact rfl))
  try simp only [Act.put, List.setIfInBounds_toArray, List.set_cons_zero, List.set_cons_succ]
  refine wpAnyU_take (i := 7) (d := (some 18)) (v := ?_) rfl rfl (by kernel_rfl) (fun _ _ _ h => h) (fun _ _ h hu => ⟨(h.1).up hu, (h.2.1).up hu, (h.2.2.1).up hu, hu.cell (h.2.2.2.1), hu.cell (h.2.2.2.2.1), below_up (h.2.2.2.2.2) hu⟩) hSS (Or.inl ⟨by rfl, fun w' hSw => yu_value ?_⟩) ?_
  rotate_left
  · ((try dsimp only at hSw); (try obtain ⟨_, _, _, _, _, _⟩ := hSw); go_simp; (try exact rfl))
  try simp only [Act.put, List.setIfInBounds_toArray, List.set_cons_zero, List.set_cons_succ]
  refine wpAnyU_pure (i := 8) (d := (some 19)) (v := ?_) rfl rfl (by kernel_rfl) (fun _ _ _ h => h) (fun _ _ h hu => ⟨(h.1).up hu, (h.2.1).up hu, (h.2.2.1).up hu, hu.cell (h.2.2.2.1), hu.cell (h.2.2.2.2.1), below_up (h.2.2.2.2.2) hu⟩) (Or.inl ⟨by rfl, fun w' _ => yu_value ?_⟩) ?_
  rotate_left
  · (go_simp; (try exact rfl))
  try simp only [Act.put, List.setIfInBounds_toArray, List.set_cons_zero, List.set_cons_succ]
  refine wpAnyU_pure (i := 9) (d := (some 20)) (v := ?_) rfl rfl (by kernel_rfl) (fun _ _ _ h => h) (fun _ _ h hu => ⟨(h.1).up hu, (h.2.1).up hu, (h.2.2.1).up hu, hu.cell (h.2.2.2.1), hu.cell (h.2.2.2.2.1), below_up (h.2.2.2.2.2) hu⟩) (Or.inl ⟨by rfl, fun w' _ => yu_value ?_⟩) ?_
  rotate_left
  · (go_simp; (try exact rfl))
  try simp only [Act.put, List.setIfInBounds_toArray, List.set_cons_zero, List.set_cons_succ]
  refine wpAnyU_pure (i := 10) (d := (some 21)) (v := ?_) rfl rfl (by kernel_rfl) (fun _ _ _ h => h) (fun _ _ h hu => ⟨(h.1).up hu, (h.2.1).up hu, (h.2.2.1).up hu, hu.cell (h.2.2.2.1), hu.cell (h.2.2.2.2.1), below_up (h.2.2.2.2.2) hu⟩) (Or.inl ⟨by rfl, fun w' _ => yu_value ?_⟩) ?_
  rotate_left
  · (go_simp; (try exact rfl))
  try simp only [Act.put, List.setIfInBounds_toArray, List.set_cons_zero, List.set_cons_succ]
  refine wpAnyU_take (i := 11) (d := (some 22)) (v := ?_) rfl rfl (by kernel_rfl) (fun _ _ _ h => h) (fun _ _ h hu => ⟨(h.1).up hu, (h.2.1).up hu, (h.2.2.1).up hu, hu.cell (h.2.2.2.1), hu.cell (h.2.2.2.2.1), below_up (h.2.2.2.2.2) hu⟩) hSS (Or.inl ⟨by rfl, fun w' hSw => yu_value ?_⟩) ?_
  rotate_left
  · ((try dsimp only at hSw); (try obtain ⟨_, _, _, _, _, _⟩ := hSw); go_simp; (try exact rfl))
  try simp only [Act.put, List.setIfInBounds_toArray, List.set_cons_zero, List.set_cons_succ]
  refine wpAnyU_one (i := 12) rfl (by kernel_rfl) (by rfl) fun w1 hw1 => ?_
  go_simp
  refine ⟨fun h1 h2 h3 h4 h5 h6 => ⟨h1.up (Up.alloc _ _), h2.up (Up.alloc _ _), h3.up (Up.alloc _ _), (Up.alloc _ _).cell h4, (Up.alloc _ _).cell h5, below_up h6 (Up.alloc _ _)⟩, ?_⟩
  have gO : Row (w1.alloc (.cells #[.int .u64 1] 62)) w1.heap.size 62 1 (fun _ => 1) := row_one (X := 1) rfl
  have gSO : Up wS (w1.alloc (.cells #[.int .u64 1] 62)) := hw1.trans (Up.alloc _ _)
  have gU : Up w (w1.alloc (.cells #[.int .u64 1] 62)) := below_up hSB gSO
  generalize w1.alloc (.cells #[.int .u64 1] 62) = wO at *
  generalize w1.heap.size = bO at *
  refine wpAnyU_callE (i := 13) (d := (some 24)) rfl rfl (by kernel_rfl) (by rfl) (fun _ _ h hu => ⟨(h.1).up hu, (h.2.1).up hu, (h.2.2.1).up hu, hu.cell (h.2.2.2.1), hu.cell (h.2.2.2.2.1), below_up (h.2.2.2.2.2) hu⟩) (fun w' => by go_simp) (fun w' hw' => (left_hb bO w' (fun w'' hu => ((gO.up hw').up hu).cell 0 (by decide)) (gO.up hw').lt)) fun vL wL hwL hRL => ?_
  try simp only [Act.put, List.setIfInBounds_toArray, List.set_cons_zero, List.set_cons_succ]
  refine wpAnyU_callE (i := 14) (d := (some 25)) rfl rfl (by kernel_rfl) (by rfl) (fun _ _ h hu => ⟨(h.1).up hu, (h.2.1).up hu, (h.2.2.1).up hu, hu.cell (h.2.2.2.1), hu.cell (h.2.2.2.2.1), below_up (h.2.2.2.2.2) hu⟩) (fun w' => by go_simp) (fun w' hw' => (callE_of (cmp_am (HA.out.up ((gU.trans hwL).trans hw')) (hRL.up hw') (by omega) (by omega)))) fun vC wC hwC hRC => ?_
  try simp only [Act.put, List.setIfInBounds_toArray, List.set_cons_zero, List.set_cons_succ]
  obtain rfl := hRC
  have d3 := HO.out
  generalize ordZ x hb = o at *
  refine wpAnyU_pure (i := 15) (d := (some 26)) (v := ?_) rfl rfl (by kernel_rfl) (fun _ _ _ h => h) (fun _ _ h hu => ⟨(h.1).up hu, (h.2.1).up hu, (h.2.2.1).up hu, hu.cell (h.2.2.2.1), hu.cell (h.2.2.2.2.1), below_up (h.2.2.2.2.2) hu⟩) (Or.inl ⟨by rfl, fun w' _ => yu_value ?_⟩) ?_
  rotate_left
  · (go_simp; (try exact rfl))
  try simp only [Act.put, List.setIfInBounds_toArray, List.set_cons_zero, List.set_cons_succ]
  refine wpAnyU_pure (i := 16) (d := (some 27)) (v := ?_) rfl rfl (by kernel_rfl) (fun _ _ _ h => h) (fun _ _ h hu => ⟨(h.1).up hu, (h.2.1).up hu, (h.2.2.1).up hu, hu.cell (h.2.2.2.1), hu.cell (h.2.2.2.2.1), below_up (h.2.2.2.2.2) hu⟩) (Or.inl ⟨by rfl, fun w' _ => yu_value ?_⟩) ?_
  rotate_left
  · (go_simp; (try exact rfl))
  try simp only [Act.put, List.setIfInBounds_toArray, List.set_cons_zero, List.set_cons_succ]
  refine wpAnyU_pure (i := 17) (d := (some 28)) (v := ?_) rfl rfl (by kernel_rfl) (fun _ _ _ h => h) (fun _ _ h hu => ⟨(h.1).up hu, (h.2.1).up hu, (h.2.2.1).up hu, hu.cell (h.2.2.2.1), hu.cell (h.2.2.2.2.1), below_up (h.2.2.2.2.2) hu⟩) (Or.inl ⟨by rfl, fun w' _ => yu_value ?_⟩) ?_
  rotate_left
  · (go_simp; (try exact rfl))
  try simp only [Act.put, List.setIfInBounds_toArray, List.set_cons_zero, List.set_cons_succ]
  refine wpAnyU_pure (i := 18) (d := (some 29)) (v := ?_) rfl rfl (by kernel_rfl) (fun _ _ _ h => h) (fun _ _ h hu => ⟨(h.1).up hu, (h.2.1).up hu, (h.2.2.1).up hu, hu.cell (h.2.2.2.1), hu.cell (h.2.2.2.2.1), below_up (h.2.2.2.2.2) hu⟩) (Or.inl ⟨by rfl, fun w' _ => yu_value ?_⟩) ?_
  rotate_left
  · (go_simp; (try exact rfl))
  try simp only [Act.put, List.setIfInBounds_toArray, List.set_cons_zero, List.set_cons_succ]
  refine wpAnyU_done (by kernel_rfl) (fun wF huE => ?_) _
  have hE := ((gSO.trans hwL).trans hwC).trans huE
  have gZ := hS1.up hE
  have gW := hS2.up hE
  have gBx := hS3.up hE
  have gB := below_up hSB hE
  have hA := HA.out
  clear huS hS1 hS2 hS3 hS4 hS5 hSB hSS hE gSO gU hwL hwC huE gO
  go_wp2
  refine wp_region_upS (S := (fun wq => Row wq (w.heap.size + 1) 64 16 (fun _ => 0) ∧ Row wq wQ.heap.size 64 16 (fun _ => 0) ∧ Blk wq w.heap.size 59 #[.bool true, .slice a (nl x) c] ∧ wq.cell? ⟨w.heap.size, 0, none⟩ = some (.bool true) ∧ wq.cell? ⟨w.heap.size, 1, none⟩ = some (.slice a (nl x) c) ∧ Below w.heap.size w wq)) (req := (fun j => j != 3)) (by kernel_rfl) (fun _ _ h hu => ⟨(h.1).up hu, (h.2.1).up hu, (h.2.2.1).up hu, hu.cell (h.2.2.2.1), hu.cell (h.2.2.2.2.1), below_up (h.2.2.2.2.2) hu⟩) ⟨(by (repeat (first | assumption | ((with_reducible apply row_newc); (focus (first | rfl | (simp; done)))) | ((with_reducible apply row_newz); (focus (first | rfl | (simp; done)))) | (with_reducible apply row_same) | ((with_reducible apply row_else); (focus (first | (simp; done) | (simp; omega) | omega))) | (with_reducible apply row_alloc) | (with_reducible apply row_drew) | (with_reducible apply row_drewN) | ((with_reducible apply row_up); assumption)))), (by (repeat (first | assumption | ((with_reducible apply row_newc); (focus (first | rfl | (simp; done)))) | ((with_reducible apply row_newz); (focus (first | rfl | (simp; done)))) | (with_reducible apply row_same) | ((with_reducible apply row_else); (focus (first | (simp; done) | (simp; omega) | omega))) | (with_reducible apply row_alloc) | (with_reducible apply row_drew) | (with_reducible apply row_drewN) | ((with_reducible apply row_up); assumption)))), (by (repeat (first | assumption | ((with_reducible apply blk_new); (focus (first | rfl | (simp; done)))) | (with_reducible apply blk_alloc) | (with_reducible apply blk_drew) | (with_reducible apply blk_drewN) | ((with_reducible apply blk_up); assumption) | (with_reducible apply blk_same) | ((with_reducible apply blk_else); (focus (first | (simp; done) | (simp; omega) | omega)))))), (by first | assumption | (apply Blk.cell; (focus (repeat (first | assumption | ((with_reducible apply blk_new); (focus (first | rfl | (simp; done)))) | (with_reducible apply blk_alloc) | (with_reducible apply blk_drew) | (with_reducible apply blk_drewN) | ((with_reducible apply blk_up); assumption) | (with_reducible apply blk_same) | ((with_reducible apply blk_else); (focus (first | (simp; done) | (simp; omega) | omega)))))); exact rfl)), (by first | assumption | (apply Blk.cell; (focus (repeat (first | assumption | ((with_reducible apply blk_new); (focus (first | rfl | (simp; done)))) | (with_reducible apply blk_alloc) | (with_reducible apply blk_drew) | (with_reducible apply blk_drewN) | ((with_reducible apply blk_up); assumption) | (with_reducible apply blk_same) | ((with_reducible apply blk_else); (focus (first | (simp; done) | (simp; omega) | omega)))))); exact rfl)), (by repeat (first | assumption | (with_reducible apply Up.of) | (with_reducible exact Below.refl _ _) | (with_reducible exact Up.refl _) | ((with_reducible apply bl_setRow); (focus (first | exact Nat.le_refl _ | (simp; done) | (simp; omega) | omega))) | (with_reducible apply below_drewN) | (with_reducible apply Below.drew) | ((with_reducible apply bl_alloc); (focus (first | exact Nat.le_refl _ | (simp; done) | (simp; omega) | omega))) | ((with_reducible apply bl_setCell); (focus (first | exact Nat.le_refl _ | (simp; done) | (simp; omega) | omega))) | ((with_reducible apply up_tr); assumption)))⟩ (fun wS hSS => ?_)
  have ⟨hS1, hS2, hS3, hS4, hS5, hSB⟩ := hSS
  refine wpAnyU_pure (i := 0) (d := (some 31)) (v := ?_) rfl rfl (by kernel_rfl) (fun _ _ _ h => h) (fun _ _ h hu => ⟨(h.1).up hu, (h.2.1).up hu, (h.2.2.1).up hu, hu.cell (h.2.2.2.1), hu.cell (h.2.2.2.2.1), below_up (h.2.2.2.2.2) hu⟩) (Or.inl ⟨by rfl, fun w' _ => yu_value ?_⟩) ?_
  rotate_left
  · (go_simp; (try exact rfl))
  try simp only [Act.put, List.setIfInBounds_toArray, List.set_cons_zero, List.set_cons_succ]
  refine wpAnyU_pure (i := 1) (d := (some 32)) (v := ?_) rfl rfl (by kernel_rfl) (fun _ _ _ h => h) (fun _ _ h hu => ⟨(h.1).up hu, (h.2.1).up hu, (h.2.2.1).up hu, hu.cell (h.2.2.2.1), hu.cell (h.2.2.2.2.1), below_up (h.2.2.2.2.2) hu⟩) (Or.inl ⟨by rfl, fun w' _ => yu_value ?_⟩) ?_
  rotate_left
  · (go_simp; (try exact rfl))
  try simp only [Act.put, List.setIfInBounds_toArray, List.set_cons_zero, List.set_cons_succ]
  refine wpAnyU_take (i := 2) (d := (some 33)) (v := ?_) rfl rfl (by kernel_rfl) (fun _ _ _ h => h) (fun _ _ h hu => ⟨(h.1).up hu, (h.2.1).up hu, (h.2.2.1).up hu, hu.cell (h.2.2.2.1), hu.cell (h.2.2.2.2.1), below_up (h.2.2.2.2.2) hu⟩) hSS (Or.inl ⟨by rfl, fun w' hSw => yu_value ?_⟩) ?_
  rotate_left
  · ((try dsimp only at hSw); (try obtain ⟨_, _, _, _, _, _⟩ := hSw); go_simp; (try exact rfl))
  try simp only [Act.put, List.setIfInBounds_toArray, List.set_cons_zero, List.set_cons_succ]
  refine wpAnyU_one (i := 3) rfl (by kernel_rfl) (by rfl) fun w1 hw1 => ?_
  refine wp_copy rfl rfl rfl rfl (hA.up (below_up hSB hw1)) hn16 (hS2.up hw1) fun w2 hR2 hb2 => ?_
  refine ⟨fun h => by simp at h, ?_⟩
  try simp only [Act.put, List.setIfInBounds_toArray]
  refine wpAnyU_done (by kernel_rfl) (fun wF huE => ?_) _
  have hle := hS2.lt
  have hsw := hw1.size
  have gR := hR2.up huE
  have gZ := (Row.belowU hb2 hgt (hS1.up hw1)).up huE
  have gK := (Blk.belowU hb2 (by omega) (hS3.up hw1)).up huE
  have gB : Below w.heap.size w wF := below_up (Below.trans (below_up hSB hw1) (Below.mono hb2 (by omega))) huE
  clear hS1 hS2 hS3 hS4 hS5 hSB hSS hw1 huE hR2 hb2
  have hc0 := gK.cell 0 rfl
  clear gK
  generalize wQ.heap.size = G at *
  go_wp2
  go_loopw [6, 7] (fun tc ti wr => ∃ (i cc : Nat) (S : Nat → Nat), i ≤ 16 ∧ tc = .int .u64 (cc : Nat) ∧ ti = .int .i64 (i : Nat) ∧ cc ≤ 1 ∧ (∀ j, j < 16 → S j < 18446744073709551616) ∧ sumL S i + cc * bp i + sumL (limb x) i = bp i ∧ (∀ j, i ≤ j → j < 16 → S j = limb x j) ∧
      Row wr (w.heap.size + 1) 64 16 (fun _ => 0) ∧ Row wr G 64 16 S ∧ Below w.heap.size w wr)
    (fun _ ti _ => 16 - (intOf ti).toNat)
  case atStart => exact ⟨0, 1, limb x, by omega, rfl, rfl, by omega, fun j _ => limb_lt x j, by simp [sumL_zero, bp_zero], fun _ _ _ => rfl, gZ, gR, gB⟩
  case round =>
    clear gZ gR gB
    obtain ⟨i, cc, S, hi, rfl, rfl, hcc, hSb, hsum, hrest, hZ, hS, hB⟩ := hrel
    have HSb := hid hSb
    have Hsum := hid hsum
    have Hrest := hid hrest
    clear hSb hsum hrest
    by_cases hlt : i < 16
    · have hcx := hS.cell i hlt
      rw [Hrest.out i (Nat.le_refl _) hlt] at hcx
      have hfi := limb_lt x i
      obtain ⟨r, c', hadd, hrc, hrl, hc1⟩ : ∃ r c' : Nat, (∀ w, (callFunc 76 #[.int .u64 (18446744073709551615 - limb x i : Nat), .int .u64 0, .int .u64 (cc : Nat)]).run Tryd.prog w = .ok (.value (.tuple #[.int .u64 (r : Nat), .int .u64 (c' : Nat)])) w) ∧ Hid (r + c' * 18446744073709551616 + limb x i = 18446744073709551615 + cc) ∧ r < 18446744073709551616 ∧ c' ≤ 1 := by
        have h := run_add (18446744073709551615 - limb x i) 0 cc hcc
        simp only [show ((0 : Nat) : Int) = 0 from rfl] at h
        exact ⟨_, _, h, hid (by omega), Nat.mod_lt _ (by decide), by omega⟩
      have hxor := bits_not hfi
      obtain ⟨Y, hY⟩ : ∃ Y, 18446744073709551615 - limb x i = Y := ⟨_, rfl⟩
      rw [hY] at hadd hxor
      clear hY
      have hfs := hS.frozen i
      have gZ := hZ.other ⟨G, i, none⟩ (.int .u64 (r : Nat)) (show w.heap.size + 1 ≠ G by omega)
      have gS := hS.set i r
      have gB := hB.setCell (p := ⟨G, i, none⟩) (show w.heap.size ≤ G by omega) (.int .u64 (r : Nat))
      clear hZ hS hB
      go_wp2
      go_roundw
      case rel =>
        refine ⟨i + 1, c', upd S i r, by omega, rfl, by go_num, hc1, upd_lt HSb.out hrl, ?_, fun j h1 h2 => by rw [upd_other _ _ _ (by omega)]; exact Hrest.out j (by omega) h2, gZ, gS, gB⟩
        rw [sumL_succ (limb x) i]
        exact comp_step Hsum.out rfl hrc.out
      case measure => simp [intOf] <;> omega
    · obtain rfl : i = 16 := by omega
      have he : sumL S 16 = enc z := by
        have h1 := Hsum.out
        have h3 := HE.out
        have h4 := HR.out
        have h5 := sumL_lt HSb.out
        rw [sumL_limb, Nat.mod_eq_of_lt (by omega)] at h1
        rcases Nat.eq_zero_or_pos cc with h0 | h0
        · subst h0; omega
        · have : 1 * bp 16 ≤ cc * bp 16 := Nat.mul_le_mul_right _ h0
          omega
      have gS : Row wr G 64 16 (limb (enc z)) := hS.congr fun j hj => by rw [← he]; exact (limb_sumL HSb.out hj).symm
      clear hS he HSb Hsum Hrest
      go_wp2_with (first | ((with_reducible apply ld_rowP undW infoW); exact rfl; exact rfl; focus (repeat (first | assumption | ((with_reducible apply row_newc); (focus (first | rfl | (simp; done)))) | ((with_reducible apply row_newz); (focus (first | rfl | (simp; done)))) | (with_reducible apply row_same) | ((with_reducible apply row_else); (focus (first | (simp; done) | (simp; omega) | omega))) | (with_reducible apply row_alloc) | (with_reducible apply row_drew) | (with_reducible apply row_drewN) | ((with_reducible apply row_up); assumption)))) | ((with_reducible apply st_rowP infoW); exact rfl; exact rfl; focus (repeat (first | assumption | ((with_reducible apply row_newc); (focus (first | rfl | (simp; done)))) | ((with_reducible apply row_newz); (focus (first | rfl | (simp; done)))) | (with_reducible apply row_same) | ((with_reducible apply row_else); (focus (first | (simp; done) | (simp; omega) | omega))) | (with_reducible apply row_alloc) | (with_reducible apply row_drew) | (with_reducible apply row_drewN) | ((with_reducible apply row_up); assumption)))) | ((with_reducible apply st_rowZ infoW); exact rfl; exact rfl; focus (repeat (first | assumption | ((with_reducible apply row_newc); (focus (first | rfl | (simp; done)))) | ((with_reducible apply row_newz); (focus (first | rfl | (simp; done)))) | (with_reducible apply row_same) | ((with_reducible apply row_else); (focus (first | (simp; done) | (simp; omega) | omega))) | (with_reducible apply row_alloc) | (with_reducible apply row_drew) | (with_reducible apply row_drewN) | ((with_reducible apply row_up); assumption)))))
      exact bodyPost_ret (res2 rfl undW infoW _ _ rfl (by (repeat (first | assumption | ((with_reducible apply row_newc); (focus (first | rfl | (simp; done)))) | ((with_reducible apply row_newz); (focus (first | rfl | (simp; done)))) | (with_reducible apply row_same) | ((with_reducible apply row_else); (focus (first | (simp; done) | (simp; omega) | omega))) | (with_reducible apply row_alloc) | (with_reducible apply row_drew) | (with_reducible apply row_drewN) | ((with_reducible apply row_up); assumption))))) rfl ⟨rfl, (by repeat (first | assumption | (with_reducible apply Up.of) | (with_reducible exact Below.refl _ _) | (with_reducible exact Up.refl _) | ((with_reducible apply bl_setRow); (focus (first | exact Nat.le_refl _ | (simp; done) | (simp; omega) | omega))) | (with_reducible apply below_drewN) | (with_reducible apply Below.drew) | ((with_reducible apply bl_alloc); (focus (first | exact Nat.le_refl _ | (simp; done) | (simp; omega) | omega))) | ((with_reducible apply bl_setCell); (focus (first | exact Nat.le_refl _ | (simp; done) | (simp; omega) | omega))) | ((with_reducible apply up_tr); assumption)))⟩

theorem to_any {z : Int} {v : Value} {w : World} (h : Big w v z) (hn : nl z.natAbs < 50000) :
    Calls Tryd.prog 61 #[v] w fun e w' => e = .returned (opt z) ∧ Up w w' := by
  have hb16 := bp16
  by_cases h1 : z.natAbs < hb
  · exact to_small h h1
  by_cases h2 : bp 16 ≤ z.natAbs
  · exact to_over h h2 hn
  by_cases h3 : 0 ≤ z
  · exact to_mid h (by omega) (by omega)
  by_cases h4 : z = -(hb : Int)
  · exact to_least h h4
  · exact to_below h (by omega) (by omega)
end Go.Proofs.YtdcpoamjmoceiaaDoor
/-
  A wide number held against the reference's, beside the matrices' texts.
-/
namespace Go.Proofs.YtdcpoamjmoceiaaDoor
open Go Go.RowKit
set_option maxRecDepth 100000

theorem eqSP {ops : Array Oper} {rest : List Oper} {Q : Exit → Act → World → Prop} {a : Act} {w : World} {d : Option Tmp} {s r : Tmp} {u ty : TypeId} {pos : String} {af : Array Edge} {gd : Option (Nat × Bool)} {p : Nat}
    (hw : Region.wanted { dst := d, op := .binOp .eql 64 (.tmp s) (.tmp r) u, type := ty, pos := pos, after := af, guard := gd } (yielded ops a.tmps) = true) (hx : a.eval (.tmp s) = .agg (cells 16 (limb p))) (hy : a.eval (.tmp r) = .agg (cells 16 (limb p))) (hp : p < bp 16)
    (h : wpList Tryd.prog ops Q rest (a.put d (.bool true)) w) : wpList Tryd.prog ops Q ({ dst := d, op := .binOp .eql 64 (.tmp s) (.tmp r) u, type := ty, pos := pos, after := af, guard := gd } :: rest) a w := wpList_run hw (op_eqS rfl hx hy hp w) h
set_option maxHeartbeats 1000000 in
theorem help_wide {z : Int} {u : Value} {w : World} (hz : InR z) (h : Big w u z) (hn : nl z.natAbs < 50000) :
    Calls Tryd.prog 31 #[wideV (enc z), u] w fun e w' => e = .returned (.bool true) ∧ Up w w' := by
  obtain ⟨b, a, n, c, rfl⟩ := h.shape
  have hl := enc_lt z
  have hT := fun w' (hu : Up w w') => to_any (h.up hu) hn
  rw [opt_yes hz] at hT
  unfold wideV at *
  generalize enc z = y at *
  have HT := hid hT
  clear hT h hz
  go_enter Tryd.func31, Tryd.ntmps31
  go_wp2_with (first | go_skip | ((with_reducible apply ld_rowP undW infoW); exact rfl; exact rfl; focus (repeat (first | assumption | ((with_reducible apply row_newc); (focus (first | rfl | (simp; done)))) | ((with_reducible apply row_newz); (focus (first | rfl | (simp; done)))) | (with_reducible apply row_same) | ((with_reducible apply row_else); (focus (first | (simp; done) | (simp; omega) | omega))) | (with_reducible apply row_alloc) | (with_reducible apply row_drew) | (with_reducible apply row_drewN) | ((with_reducible apply row_up); assumption)))) | ((with_reducible apply st_rowP infoW); exact rfl; exact rfl; focus (repeat (first | assumption | ((with_reducible apply row_newc); (focus (first | rfl | (simp; done)))) | ((with_reducible apply row_newz); (focus (first | rfl | (simp; done)))) | (with_reducible apply row_same) | ((with_reducible apply row_else); (focus (first | (simp; done) | (simp; omega) | omega))) | (with_reducible apply row_alloc) | (with_reducible apply row_drew) | (with_reducible apply row_drewN) | ((with_reducible apply row_up); assumption)))) | ((with_reducible apply st_rowZ infoW); exact rfl; exact rfl; focus (repeat (first | assumption | ((with_reducible apply row_newc); (focus (first | rfl | (simp; done)))) | ((with_reducible apply row_newz); (focus (first | rfl | (simp; done)))) | (with_reducible apply row_same) | ((with_reducible apply row_else); (focus (first | (simp; done) | (simp; omega) | omega))) | (with_reducible apply row_alloc) | (with_reducible apply row_drew) | (with_reducible apply row_drewN) | ((with_reducible apply row_up); assumption)))) | ((with_reducible apply ldB_P); exact rfl; exact rfl; (focus (repeat (first | assumption | ((with_reducible apply blk_new); (focus (first | rfl | (simp; done)))) | (with_reducible apply blk_alloc) | (with_reducible apply blk_drew) | (with_reducible apply blk_drewN) | ((with_reducible apply blk_up); assumption) | (with_reducible apply blk_same) | ((with_reducible apply blk_else); (focus (first | (simp; done) | (simp; omega) | omega)))))); exact rfl) | ((with_reducible apply eqSP); exact rfl; exact rfl; exact rfl; assumption) | (go_at_call 61; (with_reducible refine (HT.out _ (by repeat (first | assumption | (with_reducible apply Up.of) | (with_reducible exact Below.refl _ _) | (with_reducible exact Up.refl _) | ((with_reducible apply bl_setRow); (focus (first | exact Nat.le_refl _ | (simp; done) | (simp; omega) | omega))) | (with_reducible apply below_drewN) | (with_reducible apply Below.drew) | ((with_reducible apply bl_alloc); (focus (first | exact Nat.le_refl _ | (simp; done) | (simp; omega) | omega))) | ((with_reducible apply bl_setCell); (focus (first | exact Nat.le_refl _ | (simp; done) | (simp; omega) | omega))) | ((with_reducible apply up_tr); assumption)))).mono ?_); rintro e wT ⟨rfl, huT⟩; have hsT := huT.size; (try simp at hsT)))
  go_ret
  exact ⟨rfl, (by repeat (first | assumption | (with_reducible apply Up.of) | (with_reducible exact Below.refl _ _) | (with_reducible exact Up.refl _) | ((with_reducible apply bl_setRow); (focus (first | exact Nat.le_refl _ | (simp; done) | (simp; omega) | omega))) | (with_reducible apply below_drewN) | (with_reducible apply Below.drew) | ((with_reducible apply bl_alloc); (focus (first | exact Nat.le_refl _ | (simp; done) | (simp; omega) | omega))) | ((with_reducible apply bl_setCell); (focus (first | exact Nat.le_refl _ | (simp; done) | (simp; omega) | omega))) | ((with_reducible apply up_tr); assumption)))⟩
end Go.Proofs.YtdcpoamjmoceiaaDoor
/-
  The chapter's example of determinants.
-/
namespace Go.Proofs.YtdcpoamjmoceiaaDoor
open Go Go.RowKit
set_option maxRecDepth 100000
set_option maxRecDepth 100000

theorem e_det : detV 2 [2, 1, 2] = 3 ∧ detC 2 [2, 1, 2] = 0 := by decide +kernel
theorem e_min : mnR 2 [2, 1, 2] = [2, 3] ∧ mnC 2 [2, 1, 2] = 0 := by decide +kernel
theorem e_bad : detV 1 [] = 0 ∧ detC 1 [] = 23 := by decide +kernel
theorem e_def : dfV 2 [2, 1, 2] = true ∧ dfV 1 [0] = false := by decide +kernel
theorem sm_ex {w : World} {v : Value} (h : Vw w v [2, 1, 2]) : Sm w (.agg #[.int .i64 2, v]) 2 [2, 1, 2] :=
  ⟨_, rfl, h, by unfold I64; omega, fun i hi => by
    rcases i with _ | _ | _ | i
    · unfold I64; decide
    · unfold I64; decide
    · unfold I64; decide
    · simp at hi; omega, by simp⟩
theorem sm_nought {w : World} {v : Value} (h : Vw w v [0]) : Sm w (.agg #[.int .i64 1, v]) 1 [0] :=
  ⟨_, rfl, h, by unfold I64; omega, fun i hi => by
    rcases i with _ | i
    · unfold I64; decide
    · simp at hi, by simp⟩
set_option maxHeartbeats 8000000 in
theorem eknown_true {w : World} (hg : Glob w) :
    Calls Tryd.prog 27 #[] w fun r w' => r = .returned (.bool true) ∧ Up w w' := by
  have HG := hid (fun w' (hu : Up w w') => hg.up hu)
  have hW := vw_three w 2 1 2
  obtain ⟨wA, hwA⟩ : ∃ y, w.alloc (.cells #[.int .i64 2, .int .i64 1, .int .i64 2] 2) = y := ⟨_, rfl⟩
  have hUA : Up w wA := by rw [← hwA]; exact Up.alloc _ _
  obtain ⟨bA, hbA⟩ : ∃ y, w.heap.size = y := ⟨_, rfl⟩
  rw [hwA, hbA] at hW
  obtain ⟨wB, hwB⟩ : ∃ y, wA.alloc (.cells #[.int .i64 2, .slice (some ⟨bA, 0, none⟩) 3 3] 24) = y := ⟨_, rfl⟩
  have hB : Blk wB wA.heap.size 24 #[.int .i64 2, .slice (some ⟨bA, 0, none⟩) 3 3] := by rw [← hwB]; exact Blk.new _ _ rfl
  have hUB : Up wA wB := by rw [← hwB]; exact Up.alloc _ _
  obtain ⟨bB, hbB⟩ : ∃ y, wA.heap.size = y := ⟨_, rfl⟩
  rw [hbB] at hB
  have HS := hid (fun w' (hu : Up wB w') => sm_ex (Vw.up (hUB.trans hu) hW))
  have HD := hid (fun w' (hu : Up wB w') => e_det.1 ▸ e_det.2 ▸ det_any (HS.out w' hu))
  have HM := hid (fun w' (hu : Up wB w') => e_min.1 ▸ e_min.2 ▸ minors_any (HS.out w' hu))
  have HX := hid (fun w' => e_bad.1 ▸ e_bad.2 ▸ det_any (sm_one w'))
  have HF1 := hid (fun w' (hu : Up wB w') => e_def.1 ▸ definite_any (HS.out w' hu))
  have HF0 := hid (fun v w' (h : Vw w' v [0]) => e_def.2 ▸ definite_any (sm_nought h))
  have hU := hUA.trans hUB
  clear hg hW hUA hUB
  go_enter Tryd.func27, Tryd.ntmps27
  go_upto_region 5 with (first
    | ((with_reducible apply ldM_P); exact rfl; exact rfl; (first | exact hB | exact hB2); exact rfl)
    | (go_at_call 30; first
        | ((with_reducible refine (HD.out _ (Up.refl _)).mono ?_); rintro r w1 ⟨u1, rfl, hu1, he1⟩; obtain rfl := he1.elim (fun h => h.2) (fun h => absurd rfl h.1))
        | ((with_reducible refine (HX.out _).mono ?_); rintro r w3 ⟨u3, rfl, hu3, he3⟩))
    | ((with_reducible apply st_rowP infoW); exact rfl; exact rfl; exact row_newz _ rfl
       first
         | (refine wpL_folded (fun wd => Up w3 wd ∧ ErrsE wd u3 23) ⟨(by repeat (first | assumption | (with_reducible apply Up.of) | (with_reducible exact Below.refl _ _) | (with_reducible exact Up.refl _) | ((with_reducible apply bl_setRow); (focus (first | exact Nat.le_refl _ | (simp; done) | (simp; omega) | omega))) | (with_reducible apply below_drewN) | (with_reducible apply Below.drew) | ((with_reducible apply bl_alloc); (focus (first | exact Nat.le_refl _ | (simp; done) | (simp; omega) | omega))) | ((with_reducible apply bl_setCell); (focus (first | exact Nat.le_refl _ | (simp; done) | (simp; omega) | omega))) | ((with_reducible apply up_tr); assumption))), (he3.up (Up.alloc _ _)).setRow (row_newz _ rfl)⟩ ?_
            rintro wE ⟨hXE, he3x⟩)
         | (refine wpL_folded (fun wd => Up w1 wd ∧ Row wd w1.heap.size 64 16 (limb (enc 3))) ⟨(by repeat (first | assumption | (with_reducible apply Up.of) | (with_reducible exact Below.refl _ _) | (with_reducible exact Up.refl _) | ((with_reducible apply bl_setRow); (focus (first | exact Nat.le_refl _ | (simp; done) | (simp; omega) | omega))) | (with_reducible apply below_drewN) | (with_reducible apply Below.drew) | ((with_reducible apply bl_alloc); (focus (first | exact Nat.le_refl _ | (simp; done) | (simp; omega) | omega))) | ((with_reducible apply bl_setCell); (focus (first | exact Nat.le_refl _ | (simp; done) | (simp; omega) | omega))) | ((with_reducible apply up_tr); assumption))), (by (repeat (first | assumption | ((with_reducible apply row_newc); (focus (first | rfl | (simp; done)))) | ((with_reducible apply row_newz); (focus (first | rfl | (simp; done)))) | (with_reducible apply row_same) | ((with_reducible apply row_else); (focus (first | (simp; done) | (simp; omega) | omega))) | (with_reducible apply row_alloc) | (with_reducible apply row_drew) | (with_reducible apply row_drewN) | ((with_reducible apply row_up); assumption))))⟩ ?_
            rintro wD ⟨hXD, hRD⟩
            have hU2 := hu1.trans hXD
            have hB2 := hB.up hU2
            obtain ⟨b2, hb2⟩ : ∃ y, w1.heap.size = y := ⟨_, rfl⟩
            rw [hb2] at hRD ⊢))
    | (go_at_call 52; (with_reducible refine (HM.out _ hU2).mono ?_); rintro r w2 ⟨z2, u2, rfl, hu2, hW2, he2⟩; obtain rfl := he2.elim (fun h => h.2) (fun h => absurd rfl h.1); obtain ⟨p2, c2, rfl⟩ := hW2.slice))
  have hUx := (hu2.trans hu3).trans hXE
  have hBx := hB2.up hUx
  have hRx := hRD.up hUx
  have hUw := hU2.trans hUx
  have hGx := hU.trans hUw
  clear hUx hB2 hRD hu1 hXD hU2 hu2 hu3 hXE hW2 he2 he1 he3 hwA hwB hbA hbB
  try simp only [Act.put]
  have hI3 : InR 3 := few_inR (k := 1) (by decide) (by decide +kernel)
  have hn3 : nl (3 : Int).natAbs < 50000 := Nat.lt_of_le_of_lt (nl_le (k := 1) (by decide +kernel)) (by decide)
  have HW3 := hid (fun w u (h : Big w u 3) => help_wide hI3 h hn3)
  unfold wideV at HW3
  refine wp_region_upS (S := (fun wq => Row wq b2 64 16 (limb (enc 3)) ∧ Blk wq bB 24 #[.int .i64 2, .slice (some ⟨bA, 0, none⟩) 3 3] ∧ ErrsE wq u3 23 ∧ Up wB wq ∧ Below w.heap.size w wq)) (req := (fun _ => true)) (by kernel_rfl) (fun _ _ h hu => ⟨(h.1).up hu, (h.2.1).up hu, (h.2.2.1).up hu, (h.2.2.2.1).trans hu, below_up (h.2.2.2.2) hu⟩) ⟨(by (repeat (first | assumption | ((with_reducible apply row_newc); (focus (first | rfl | (simp; done)))) | ((with_reducible apply row_newz); (focus (first | rfl | (simp; done)))) | (with_reducible apply row_same) | ((with_reducible apply row_else); (focus (first | (simp; done) | (simp; omega) | omega))) | (with_reducible apply row_alloc) | (with_reducible apply row_drew) | (with_reducible apply row_drewN) | ((with_reducible apply row_up); assumption)))), (by (repeat (first | assumption | ((with_reducible apply blk_new); (focus (first | rfl | (simp; done)))) | (with_reducible apply blk_alloc) | (with_reducible apply blk_drew) | (with_reducible apply blk_drewN) | ((with_reducible apply blk_up); assumption) | (with_reducible apply blk_same) | ((with_reducible apply blk_else); (focus (first | (simp; done) | (simp; omega) | omega)))))), (by assumption), (by first | exact Up.refl _ | assumption), (by repeat (first | assumption | (with_reducible apply Up.of) | (with_reducible exact Below.refl _ _) | (with_reducible exact Up.refl _) | ((with_reducible apply bl_setRow); (focus (first | exact Nat.le_refl _ | (simp; done) | (simp; omega) | omega))) | (with_reducible apply below_drewN) | (with_reducible apply Below.drew) | ((with_reducible apply bl_alloc); (focus (first | exact Nat.le_refl _ | (simp; done) | (simp; omega) | omega))) | ((with_reducible apply bl_setCell); (focus (first | exact Nat.le_refl _ | (simp; done) | (simp; omega) | omega))) | ((with_reducible apply up_tr); assumption)))⟩ (fun wS hSS => ?_)
  have ⟨hS1, hS2, hS3, hS4, hSB⟩ := hSS
  refine wpAnyU_pure (i := 0) (d := (some 25)) (v := ?_) rfl rfl (by kernel_rfl) (fun _ _ _ h => h) (fun _ _ h hu => ⟨(h.1).up hu, (h.2.1).up hu, (h.2.2.1).up hu, (h.2.2.2.1).trans hu, below_up (h.2.2.2.2) hu⟩) (Or.inl ⟨by rfl, fun w' _ => yu_value ?_⟩) ?_
  rotate_left
  · (go_simp; (try exact rfl))
  try simp only [Act.put, List.setIfInBounds_toArray, List.set_cons_zero, List.set_cons_succ]
  refine wpAnyU_pure (i := 1) (d := (some 26)) (v := ?_) rfl rfl (by kernel_rfl) (fun _ _ _ h => h) (fun _ _ h hu => ⟨(h.1).up hu, (h.2.1).up hu, (h.2.2.1).up hu, (h.2.2.2.1).trans hu, below_up (h.2.2.2.2) hu⟩) (Or.inl ⟨by rfl, fun w' _ => yu_value ?_⟩) ?_
  rotate_left
  · (go_simp; (try exact rfl))
  try simp only [Act.put, List.setIfInBounds_toArray, List.set_cons_zero, List.set_cons_succ]
  refine wpAnyU_pure (i := 2) (d := (some 27)) (v := ?_) rfl rfl (by kernel_rfl) (fun _ _ _ h => h) (fun _ _ h hu => ⟨(h.1).up hu, (h.2.1).up hu, (h.2.2.1).up hu, (h.2.2.2.1).trans hu, below_up (h.2.2.2.2) hu⟩) (Or.inl ⟨by rfl, fun w' _ => yu_value ?_⟩) ?_
  rotate_left
  · (go_simp; (try exact rfl))
  try simp only [Act.put, List.setIfInBounds_toArray, List.set_cons_zero, List.set_cons_succ]
  refine wpAnyU_pure (i := 3) (d := (some 28)) (v := ?_) rfl rfl (by kernel_rfl) (fun _ _ _ h => h) (fun _ _ h hu => ⟨(h.1).up hu, (h.2.1).up hu, (h.2.2.1).up hu, (h.2.2.2.1).trans hu, below_up (h.2.2.2.2) hu⟩) (Or.inl ⟨by rfl, fun w' _ => yu_value ?_⟩) ?_
  rotate_left
  · (go_simp; (try exact rfl))
  try simp only [Act.put, List.setIfInBounds_toArray, List.set_cons_zero, List.set_cons_succ]
  refine wpAnyU_pure (i := 4) (d := (some 29)) (v := ?_) rfl rfl (by kernel_rfl) (fun _ _ _ h => h) (fun _ _ h hu => ⟨(h.1).up hu, (h.2.1).up hu, (h.2.2.1).up hu, (h.2.2.2.1).trans hu, below_up (h.2.2.2.2) hu⟩) (Or.inl ⟨by rfl, fun w' _ => yu_value ?_⟩) ?_
  rotate_left
  · (go_simp; (try exact rfl))
  try simp only [Act.put, List.setIfInBounds_toArray, List.set_cons_zero, List.set_cons_succ]
  refine wpAnyU_pure (i := 5) (d := (some 30)) (v := ?_) rfl rfl (by kernel_rfl) (fun _ _ _ h => h) (fun _ _ h hu => ⟨(h.1).up hu, (h.2.1).up hu, (h.2.2.1).up hu, (h.2.2.2.1).trans hu, below_up (h.2.2.2.2) hu⟩) (Or.inl ⟨by rfl, fun w' _ => yu_value ?_⟩) ?_
  rotate_left
  · (go_simp; (try exact rfl))
  try simp only [Act.put, List.setIfInBounds_toArray, List.set_cons_zero, List.set_cons_succ]
  refine wpAnyU_pure (i := 6) (d := (some 31)) (v := ?_) rfl rfl (by kernel_rfl) (fun _ _ _ h => h) (fun _ _ h hu => ⟨(h.1).up hu, (h.2.1).up hu, (h.2.2.1).up hu, (h.2.2.2.1).trans hu, below_up (h.2.2.2.2) hu⟩) (Or.inl ⟨by rfl, fun w' _ => yu_value ?_⟩) ?_
  rotate_left
  · (go_simp; (try exact rfl))
  try simp only [Act.put, List.setIfInBounds_toArray, List.set_cons_zero, List.set_cons_succ]
  refine wpAnyU_take (i := 7) (d := (some 32)) (v := _) rfl rfl (by kernel_rfl) (fun _ _ _ h => h) (fun _ _ h hu => ⟨(h.1).up hu, (h.2.1).up hu, (h.2.2.1).up hu, (h.2.2.2.1).trans hu, below_up (h.2.2.2.2) hu⟩) hSS (Or.inl ⟨by rfl, fun w' hSw => yu_value (run_ld undW infoW _ rfl _ rfl hSw.1)⟩) ?_
  try simp only [Act.put, List.setIfInBounds_toArray, List.set_cons_zero, List.set_cons_succ]
  refine wpAnyU_callE (i := 8) (d := (some 33)) rfl rfl (by kernel_rfl) (by rfl) (fun _ _ h hu => ⟨(h.1).up hu, (h.2.1).up hu, (h.2.2.1).up hu, (h.2.2.2.1).trans hu, below_up (h.2.2.2.2) hu⟩) (fun w' => by go_simp) (fun w' hw' => (of_big 3 (by decide) (by decide) w')) fun vG wG hwG hRG => ?_
  try simp only [Act.put, List.setIfInBounds_toArray, List.set_cons_zero, List.set_cons_succ]
  replace hSS := ((fun _ _ h hu => ⟨(h.1).up hu, (h.2.1).up hu, (h.2.2.1).up hu, (h.2.2.2.1).trans hu, below_up (h.2.2.2.2) hu⟩) : ∀ w1 w2 : World, (fun wq => Row wq b2 64 16 (limb (enc 3)) ∧ Blk wq bB 24 #[.int .i64 2, .slice (some ⟨bA, 0, none⟩) 3 3] ∧ ErrsE wq u3 23 ∧ Up wB wq ∧ Below w.heap.size w wq) w1 → Up w1 w2 → (fun wq => Row wq b2 64 16 (limb (enc 3)) ∧ Blk wq bB 24 #[.int .i64 2, .slice (some ⟨bA, 0, none⟩) 3 3] ∧ ErrsE wq u3 23 ∧ Up wB wq ∧ Below w.heap.size w wq) w2) _ _ hSS hwG
  refine wpAnyU_callE (i := 9) (d := (some 34)) rfl rfl (by kernel_rfl) (by rfl) (fun _ _ h hu => ⟨(h.1).up hu, (h.2.1).up hu, (h.2.2.1).up hu, (h.2.2.2.1).trans hu, below_up (h.2.2.2.2) hu⟩) (fun w' => by go_simp) (fun w' hw' => (callE_of (HW3.out _ _ (hRG.up hw')))) fun vF wF hwF hRF => ?_
  try simp only [Act.put, List.setIfInBounds_toArray, List.set_cons_zero, List.set_cons_succ]
  obtain rfl := hRF
  replace hSS := ((fun _ _ h hu => ⟨(h.1).up hu, (h.2.1).up hu, (h.2.2.1).up hu, (h.2.2.2.1).trans hu, below_up (h.2.2.2.2) hu⟩) : ∀ w1 w2 : World, (fun wq => Row wq b2 64 16 (limb (enc 3)) ∧ Blk wq bB 24 #[.int .i64 2, .slice (some ⟨bA, 0, none⟩) 3 3] ∧ ErrsE wq u3 23 ∧ Up wB wq ∧ Below w.heap.size w wq) w1 → Up w1 w2 → (fun wq => Row wq b2 64 16 (limb (enc 3)) ∧ Blk wq bB 24 #[.int .i64 2, .slice (some ⟨bA, 0, none⟩) 3 3] ∧ ErrsE wq u3 23 ∧ Up wB wq ∧ Below w.heap.size w wq) w2) _ _ hSS hwF
  refine wpAnyU_pure (i := 10) (d := (some 35)) (v := ?_) rfl rfl (by kernel_rfl) (fun _ _ _ h => h) (fun _ _ h hu => ⟨(h.1).up hu, (h.2.1).up hu, (h.2.2.1).up hu, (h.2.2.2.1).trans hu, below_up (h.2.2.2.2) hu⟩) (Or.inl ⟨by rfl, fun w' _ => yu_value ?_⟩) ?_
  rotate_left
  · (go_simp; (try exact rfl))
  try simp only [Act.put, List.setIfInBounds_toArray, List.set_cons_zero, List.set_cons_succ]
  refine wpAnyU_pure (i := 11) (d := (some 36)) (v := ?_) rfl rfl (by kernel_rfl) (fun _ _ _ h => h) (fun _ _ h hu => ⟨(h.1).up hu, (h.2.1).up hu, (h.2.2.1).up hu, (h.2.2.2.1).trans hu, below_up (h.2.2.2.2) hu⟩) (Or.inl ⟨by rfl, fun w' _ => yu_value ?_⟩) ?_
  rotate_left
  · (go_simp; (try exact rfl))
  try simp only [Act.put, List.setIfInBounds_toArray, List.set_cons_zero, List.set_cons_succ]
  refine wpAnyU_pure (i := 12) (d := (some 37)) (v := ?_) rfl rfl (by kernel_rfl) (fun _ _ _ h => h) (fun _ _ h hu => ⟨(h.1).up hu, (h.2.1).up hu, (h.2.2.1).up hu, (h.2.2.2.1).trans hu, below_up (h.2.2.2.2) hu⟩) (Or.inl ⟨by rfl, fun w' _ => yu_value ?_⟩) ?_
  rotate_left
  · (go_simp; (try exact rfl))
  try simp only [Act.put, List.setIfInBounds_toArray, List.set_cons_zero, List.set_cons_succ]
  refine wpAnyU_pure (i := 13) (d := (some 38)) (v := ?_) rfl rfl (by kernel_rfl) (fun _ _ _ h => h) (fun _ _ h hu => ⟨(h.1).up hu, (h.2.1).up hu, (h.2.2.1).up hu, (h.2.2.2.1).trans hu, below_up (h.2.2.2.2) hu⟩) (Or.inl ⟨by rfl, fun w' _ => yu_value ?_⟩) ?_
  rotate_left
  · (go_simp; (try exact rfl))
  try simp only [Act.put, List.setIfInBounds_toArray, List.set_cons_zero, List.set_cons_succ]
  refine wpAnyU_pure (i := 14) (d := (some 39)) (v := ?_) rfl rfl (by kernel_rfl) (fun _ _ _ h => h) (fun _ _ h hu => ⟨(h.1).up hu, (h.2.1).up hu, (h.2.2.1).up hu, (h.2.2.2.1).trans hu, below_up (h.2.2.2.2) hu⟩) (Or.inl ⟨by rfl, fun w' _ => yu_value ?_⟩) ?_
  rotate_left
  · (go_simp; (try exact rfl))
  try simp only [Act.put, List.setIfInBounds_toArray, List.set_cons_zero, List.set_cons_succ]
  refine wpAnyU_pure (i := 15) (d := (some 40)) (v := ?_) rfl rfl (by kernel_rfl) (fun _ _ _ h => h) (fun _ _ h hu => ⟨(h.1).up hu, (h.2.1).up hu, (h.2.2.1).up hu, (h.2.2.2.1).trans hu, below_up (h.2.2.2.2) hu⟩) (Or.inl ⟨by rfl, fun w' _ => yu_value ?_⟩) ?_
  rotate_left
  · (go_simp; (try exact rfl))
  try simp only [Act.put, List.setIfInBounds_toArray, List.set_cons_zero, List.set_cons_succ]
  refine wpAnyU_pure (i := 16) (d := (some 41)) (v := ?_) rfl rfl (by kernel_rfl) (fun _ _ _ h => h) (fun _ _ h hu => ⟨(h.1).up hu, (h.2.1).up hu, (h.2.2.1).up hu, (h.2.2.2.1).trans hu, below_up (h.2.2.2.2) hu⟩) (Or.inl ⟨by rfl, fun w' _ => yu_value ?_⟩) ?_
  rotate_left
  · (go_simp; (try exact rfl))
  try simp only [Act.put, List.setIfInBounds_toArray, List.set_cons_zero, List.set_cons_succ]
  refine wpAnyU_pure (i := 17) (d := (some 42)) (v := ?_) rfl rfl (by kernel_rfl) (fun _ _ _ h => h) (fun _ _ h hu => ⟨(h.1).up hu, (h.2.1).up hu, (h.2.2.1).up hu, (h.2.2.2.1).trans hu, below_up (h.2.2.2.2) hu⟩) (Or.inl ⟨by rfl, fun w' _ => yu_value ?_⟩) ?_
  rotate_left
  · (go_simp; (try exact rfl))
  try simp only [Act.put, List.setIfInBounds_toArray, List.set_cons_zero, List.set_cons_succ]
  refine wpAnyU_callE (i := 18) (d := (some 43)) rfl rfl (by kernel_rfl) (by rfl) (fun _ _ h hu => ⟨(h.1).up hu, (h.2.1).up hu, (h.2.2.1).up hu, (h.2.2.2.1).trans hu, below_up (h.2.2.2.2) hu⟩) (fun w' => by go_simp) (fun w' hw' => (callE_of (esays_any (hSS.2.2.1.up hw') (HG.out _ (hU.trans (hSS.2.2.2.1.trans hw')))))) fun vS wS hwS hRS => ?_
  try simp only [Act.put, List.setIfInBounds_toArray, List.set_cons_zero, List.set_cons_succ]
  obtain rfl := hRS
  replace hSS := ((fun _ _ h hu => ⟨(h.1).up hu, (h.2.1).up hu, (h.2.2.1).up hu, (h.2.2.2.1).trans hu, below_up (h.2.2.2.2) hu⟩) : ∀ w1 w2 : World, (fun wq => Row wq b2 64 16 (limb (enc 3)) ∧ Blk wq bB 24 #[.int .i64 2, .slice (some ⟨bA, 0, none⟩) 3 3] ∧ ErrsE wq u3 23 ∧ Up wB wq ∧ Below w.heap.size w wq) w1 → Up w1 w2 → (fun wq => Row wq b2 64 16 (limb (enc 3)) ∧ Blk wq bB 24 #[.int .i64 2, .slice (some ⟨bA, 0, none⟩) 3 3] ∧ ErrsE wq u3 23 ∧ Up wB wq ∧ Below w.heap.size w wq) w2) _ _ hSS hwS
  refine wpAnyU_pure (i := 19) (d := (some 44)) (v := ?_) rfl rfl (by kernel_rfl) (fun _ _ _ h => h) (fun _ _ h hu => ⟨(h.1).up hu, (h.2.1).up hu, (h.2.2.1).up hu, (h.2.2.2.1).trans hu, below_up (h.2.2.2.2) hu⟩) (Or.inl ⟨by rfl, fun w' _ => yu_value ?_⟩) ?_
  rotate_left
  · (go_simp; (try exact rfl))
  try simp only [Act.put, List.setIfInBounds_toArray, List.set_cons_zero, List.set_cons_succ]
  refine wpAnyU_pure (i := 20) (d := (some 45)) (v := ?_) rfl rfl (by kernel_rfl) (fun _ _ _ h => h) (fun _ _ h hu => ⟨(h.1).up hu, (h.2.1).up hu, (h.2.2.1).up hu, (h.2.2.2.1).trans hu, below_up (h.2.2.2.2) hu⟩) (Or.inl ⟨by rfl, fun w' _ => yu_value ?_⟩) ?_
  rotate_left
  · (go_simp; (try exact rfl))
  try simp only [Act.put, List.setIfInBounds_toArray, List.set_cons_zero, List.set_cons_succ]
  refine wpAnyU_take (i := 21) (d := (some 46)) (v := _) rfl rfl (by kernel_rfl) (fun _ _ _ h => h) (fun _ _ h hu => ⟨(h.1).up hu, (h.2.1).up hu, (h.2.2.1).up hu, (h.2.2.2.1).trans hu, below_up (h.2.2.2.2) hu⟩) hSS (Or.inl ⟨by rfl, fun w' hSw => yu_value (run_ldM rfl rfl hSw.2.1 rfl)⟩) ?_
  try simp only [Act.put, List.setIfInBounds_toArray, List.set_cons_zero, List.set_cons_succ]
  refine wpAnyU_callE (i := 22) (d := (some 47)) rfl rfl (by kernel_rfl) (by rfl) (fun _ _ h hu => ⟨(h.1).up hu, (h.2.1).up hu, (h.2.2.1).up hu, (h.2.2.2.1).trans hu, below_up (h.2.2.2.2) hu⟩) (fun w' => by go_simp) (fun w' hw' => (callE_of (HF1.out _ (hSS.2.2.2.1.trans hw')))) fun vD wD hwD hRD => ?_
  try simp only [Act.put, List.setIfInBounds_toArray, List.set_cons_zero, List.set_cons_succ]
  obtain rfl := hRD
  replace hSS := ((fun _ _ h hu => ⟨(h.1).up hu, (h.2.1).up hu, (h.2.2.1).up hu, (h.2.2.2.1).trans hu, below_up (h.2.2.2.2) hu⟩) : ∀ w1 w2 : World, (fun wq => Row wq b2 64 16 (limb (enc 3)) ∧ Blk wq bB 24 #[.int .i64 2, .slice (some ⟨bA, 0, none⟩) 3 3] ∧ ErrsE wq u3 23 ∧ Up wB wq ∧ Below w.heap.size w wq) w1 → Up w1 w2 → (fun wq => Row wq b2 64 16 (limb (enc 3)) ∧ Blk wq bB 24 #[.int .i64 2, .slice (some ⟨bA, 0, none⟩) 3 3] ∧ ErrsE wq u3 23 ∧ Up wB wq ∧ Below w.heap.size w wq) w2) _ _ hSS hwD
  refine wpAnyU_pure (i := 23) (d := (some 48)) (v := ?_) rfl rfl (by kernel_rfl) (fun _ _ _ h => h) (fun _ _ h hu => ⟨(h.1).up hu, (h.2.1).up hu, (h.2.2.1).up hu, (h.2.2.2.1).trans hu, below_up (h.2.2.2.2) hu⟩) (Or.inl ⟨by rfl, fun w' _ => yu_value ?_⟩) ?_
  rotate_left
  · (go_simp; (try exact rfl))
  try simp only [Act.put, List.setIfInBounds_toArray, List.set_cons_zero, List.set_cons_succ]
  refine wpAnyU_pure (i := 24) (d := (some 49)) (v := ?_) rfl rfl (by kernel_rfl) (fun _ _ _ h => h) (fun _ _ h hu => ⟨(h.1).up hu, (h.2.1).up hu, (h.2.2.1).up hu, (h.2.2.2.1).trans hu, below_up (h.2.2.2.2) hu⟩) (Or.inl ⟨by rfl, fun w' _ => yu_value ?_⟩) ?_
  rotate_left
  · (go_simp; (try exact rfl))
  try simp only [Act.put, List.setIfInBounds_toArray, List.set_cons_zero, List.set_cons_succ]
  refine wpAnyU_one (i := 25) rfl (by kernel_rfl) (by rfl) fun w1 hw1 => ?_
  go_simp
  refine ⟨fun h1 h2 h3 h4 h5 => ⟨h1.up (Up.alloc _ _), h2.up (Up.alloc _ _), h3.up (Up.alloc _ _), h4.trans (Up.alloc _ _), below_up h5 (Up.alloc _ _)⟩, ?_⟩
  have gU := (hSS.2.2.2.1.trans hw1).trans (Up.alloc w1 (.cells #[.int .i64 0] 2))
  refine wpAnyU_pure (i := 26) (d := (some 51)) (v := ?_) rfl rfl (by kernel_rfl) (fun _ _ _ h => h) (fun _ _ h hu => ⟨(h.1).up hu, (h.2.1).up hu, (h.2.2.1).up hu, (h.2.2.2.1).trans hu, below_up (h.2.2.2.2) hu⟩) (Or.inl ⟨by rfl, fun w' _ => yu_value ?_⟩) ?_
  rotate_left
  · (go_simp; (try exact rfl))
  try simp only [Act.put, List.setIfInBounds_toArray, List.set_cons_zero, List.set_cons_succ]
  refine wpAnyU_callE (i := 27) (d := (some 52)) rfl rfl (by kernel_rfl) (by rfl) (fun _ _ h hu => ⟨(h.1).up hu, (h.2.1).up hu, (h.2.2.1).up hu, (h.2.2.2.1).trans hu, below_up (h.2.2.2.2) hu⟩) (fun w' => by go_simp) (fun w' hw' => (callE_of (HF0.out _ _ ((vw_one w1 0).up hw')))) fun vE wE hwE hRE => ?_
  try simp only [Act.put, List.setIfInBounds_toArray, List.set_cons_zero, List.set_cons_succ]
  obtain rfl := hRE
  refine wpAnyU_pure (i := 28) (d := (some 53)) (v := ?_) rfl rfl (by kernel_rfl) (fun _ _ _ h => h) (fun _ _ h hu => ⟨(h.1).up hu, (h.2.1).up hu, (h.2.2.1).up hu, (h.2.2.2.1).trans hu, below_up (h.2.2.2.2) hu⟩) (Or.inl ⟨by rfl, fun w' _ => yu_value ?_⟩) ?_
  rotate_left
  · (go_simp; (try exact rfl))
  try simp only [Act.put, List.setIfInBounds_toArray, List.set_cons_zero, List.set_cons_succ]
  refine wpAnyU_pure (i := 29) (d := (some 54)) (v := ?_) rfl rfl (by kernel_rfl) (fun _ _ _ h => h) (fun _ _ h hu => ⟨(h.1).up hu, (h.2.1).up hu, (h.2.2.1).up hu, (h.2.2.2.1).trans hu, below_up (h.2.2.2.2) hu⟩) (Or.inl ⟨by rfl, fun w' _ => yu_value ?_⟩) ?_
  rotate_left
  · (go_simp; (try exact rfl))
  try simp only [Act.put, List.setIfInBounds_toArray, List.set_cons_zero, List.set_cons_succ]
  refine wpAnyU_pure (i := 30) (d := (some 0)) (v := ?_) rfl rfl (by kernel_rfl) (fun _ _ _ h => h) (fun _ _ h hu => ⟨(h.1).up hu, (h.2.1).up hu, (h.2.2.1).up hu, (h.2.2.2.1).trans hu, below_up (h.2.2.2.2) hu⟩) (Or.inl ⟨by rfl, fun w' _ => yu_value ?_⟩) ?_
  rotate_left
  · (go_simp; (try exact rfl))
  try simp only [Act.put, List.setIfInBounds_toArray, List.set_cons_zero]
  refine wpAnyU_done (by kernel_rfl) (fun wF huE => ?_) _
  have gE := hU.trans ((gU.trans hwE).trans huE)
  clear hS1 hS2 hS3 hS4 hSB hSS huE hwE hw1 gU hRx hBx
  go_wp2
  go_ret
  exact ⟨rfl, gE⟩
end Go.Proofs.YtdcpoamjmoceiaaDoor
/-
  SymTells: each entry, either way round, what is set, what may not be.
-/
namespace Go.Proofs.YtdcpoamjmoceiaaDoor
open Go Go.RowKit
set_option maxRecDepth 100000
set_option maxRecDepth 100000

def MV (w : World) (v : Value) : Prop := ∃ N L, SmO w v N L
theorem MV.up {w w' : World} (hu : Up w w') {v : Value} (h : MV w v) : MV w' v := by obtain ⟨N, L, h⟩ := h; exact ⟨N, L, h.up hu⟩
/-- Two matrices, the first one given, in a list. -/
def Pair (a0 : Int) (s0 : Value) (w : World) (v : Value) : Prop :=
  ∃ g N1 s1 L1, v = .slice (some ⟨g, 0, none⟩) 2 2 ∧ Blk w g 24 #[.int .i64 a0, s0, .int .i64 N1, s1] ∧ SmO w (.agg #[.int .i64 N1, s1]) N1 L1
theorem Pair.up {a0 : Int} {s0 : Value} {w w' : World} (hu : Up w w') {v : Value} (h : Pair a0 s0 w v) : Pair a0 s0 w' v := by
  obtain ⟨g, N1, s1, L1, h1, h2, h3⟩ := h
  exact ⟨g, N1, s1, L1, h1, h2.up hu, h3.up hu⟩
end Go.Proofs.YtdcpoamjmoceiaaDoor
/-
  What came in, as the walks want it.
-/
namespace Go.Proofs.YtdcpoamjmoceiaaDoor
open Go Go.RowKit
set_option maxRecDepth 100000

def IsRowX (k : IntKind) (w : World) (a : Option Addr) (len cap : Nat) (zs : List Int) : Prop :=
  (a = none ∧ len = 0 ∧ cap = 0 ∧ zs = []) ∨
  ∃ x, a = some x ∧ len ≤ cap ∧ cap ≤ maxLen ∧ zs.length = cap ∧ (∀ i, i < zs.length → w.cell? (x.add i) = some (.int k (zs.getD i 0))) ∧ ∀ n ∈ zs, (Lit.int k n).wf = true
theorem zth_take {l : List Int} {k i : Nat} (h : i < k) : zth (l.take k) i = zth l i := by
  unfold zth
  rw [List.getD_eq_getElem?_getD, List.getD_eq_getElem?_getD, List.getElem?_take_of_lt h]
theorem wf_i64 {z : Int} (h : (Lit.int .i64 z).wf = true) : I64 z := by
  have := (Lit.wf_int_iff .i64 z).1 h
  rw [IntKind.min_i64, IntKind.max_i64] at this
  unfold I64; omega
theorem vw_row {w : World} {a : Option Addr} {len cap : Nat} {zs : List Int} (h : IsRowX .i64 w a len cap zs) : Vw w (.slice a len cap) (zs.take len) ∧ In64 (zs.take len) := by
  rcases h with ⟨rfl, rfl, rfl, rfl⟩ | ⟨x, rfl, hl, hm, hz, hc, hw⟩
  · exact ⟨⟨none, 0, rfl, ⟨Nat.le_refl _, fun _ => rfl⟩, fun i hi => absurd hi (Nat.not_lt_zero _)⟩, fun i hi => absurd hi (Nat.not_lt_zero _)⟩
  · have e : (zs.take len).length = len := by rw [List.length_take]; omega
    refine ⟨⟨some x, cap, by rw [e], ⟨by rw [e]; exact hl, fun e => by cases e⟩, fun i hi => ⟨x, rfl, ?_⟩⟩, fun i hi => ?_⟩
    · rw [e] at hi
      rw [zth_take hi]
      exact hc i (by omega)
    · rw [e] at hi
      rw [zth_take hi, zth_get (by omega)]
      exact wf_i64 (hw _ (List.getElem_mem _))
end Go.Proofs.YtdcpoamjmoceiaaDoor
/-
  DetDiag: a diagonal's determinant is its product; which ones are definite.
-/
namespace Go.Proofs.YtdcpoamjmoceiaaDoor
open Go Go.RowKit
set_option maxRecDepth 100000
set_option maxRecDepth 100000

def dv (l : List Int) (i : Nat) : Int := (zth l i).tmod 1073741825
theorem dv_abs (l : List Int) (i : Nat) : (dv l i).natAbs ≤ 1073741824 := by
  have := tmod_bound (zth l i) (m := 1073741825) (by decide)
  unfold dv; omega
theorem dv_fit (l : List Int) (i : Nat) : fit (dv l i) = true := decide_eq_true (by have := dv_abs l i; omega)
theorem dv_nl (l : List Int) (i : Nat) : nl (dv l i).natAbs < 50000 := Nat.lt_of_le_of_lt (nl_le (k := 1) (Nat.lt_of_le_of_lt (dv_abs l i) (by decide +kernel))) (by decide)
theorem prd_nl (l : List Int) {k : Nat} (hk : k ≤ 8) : nl (prd (dv l) k).natAbs < 50000 := Nat.lt_of_le_of_lt (nl_le (prd_bp (dv_abs l) hk)) (by decide)
set_option maxHeartbeats 8000000 in
theorem detdiag_w {w : World} {p0 : Option Addr} {len0 cap0 : Nat} {l : List Int} (hg : Glob w) (hv : Vw w (.slice p0 len0 cap0) l) (hI : In64 l) :
    Calls Tryd.prog 6 #[.slice p0 len0 cap0] w fun r w' => r = .returned (.bool true) ∧ Up w w' := by
  have HK := hid (eknown_true hg)
  obtain ⟨p', cap', e', -, hc⟩ := hv
  injection e' with x1 x2 x3
  subst x1 x2 x3
  have HC := hid (fun w' (hu : Up w w') i (hi : i < l.length) => show ∃ ad, p0 = some ad ∧ w'.cell? (ad.add i) = some (.int .i64 (zth l i)) from by obtain ⟨a, h1, h2⟩ := hc i hi; exact ⟨a, h1, hu.cellEq h2⟩)
  clear hc hg
  by_cases hA : l.length ≤ 8
  · have d8 : decide ((8 : Int) < (l.length : Int)) = false := decide_eq_false (by omega)
    have enw : nw (l.length : Int) = l.length := by unfold nw; omega
    have HN := hid (fun w => enw ▸ rnew_any (l.length : Int) w)
    have HO1 := hid (fun w => of_big 1 (by decide) (by decide) w)
    have HI := hid hI
    clear enw hI
    go_enter Tryd.func6, Tryd.ntmps6
    go_wp2_with (first
      | (go_at_call 27; (with_reducible refine HK.out.mono ?_); rintro r w1 ⟨rfl, hu1⟩)
      | (go_at_call 19; (with_reducible refine (HN.out _).mono ?_); rintro r w2 ⟨z2, rfl, hu2, hs2⟩; have hs2' := hs2; obtain ⟨s2, rfl, ⟨p2, c2, rfl, -, -⟩, -⟩ := hs2')
      | ((with_reducible apply stM_P); exact rfl; exact rfl; exact Blk.new _ _ rfl; exact rfl; exact rfl; exact two2 _ _ _ _ _
         refine wpL_folded (fun wd => Up w2 wd ∧ Blk wd w2.heap.size 24 #[.int .i64 (l.length : Int), .slice p2 (zeros (l.length : Int)).length c2]) ⟨(by repeat (first | assumption | (with_reducible apply Up.of) | (with_reducible exact Below.refl _ _) | (with_reducible exact Up.refl _) | ((with_reducible apply bl_setRow); (focus (first | exact Nat.le_refl _ | (simp; done) | (simp; omega) | omega))) | (with_reducible apply below_drewN) | (with_reducible apply Below.drew) | ((with_reducible apply bl_alloc); (focus (first | exact Nat.le_refl _ | (simp; done) | (simp; omega) | omega))) | ((with_reducible apply bl_setCell); (focus (first | exact Nat.le_refl _ | (simp; done) | (simp; omega) | omega))) | ((with_reducible apply up_tr); assumption))), (by (repeat (first | assumption | ((with_reducible apply blk_new); (focus (first | rfl | (simp; done)))) | (with_reducible apply blk_alloc) | (with_reducible apply blk_drew) | (with_reducible apply blk_drewN) | ((with_reducible apply blk_up); assumption) | (with_reducible apply blk_same) | ((with_reducible apply blk_else); (focus (first | (simp; done) | (simp; omega) | omega))))))⟩ ?_
         rintro w3 ⟨hu3, hb3⟩)
      | (go_at_call 28; (with_reducible refine (HO1.out _).mono ?_); rintro r w4 ⟨hu4, v4, rfl, hB4⟩; obtain ⟨b4, a4, n4, c4, rfl⟩ := hB4.shape)
      | ((with_reducible apply stB_P); exact rfl; exact rfl; exact Blk.new _ _ rfl; exact rfl; exact rfl; exact one2 _ _ _ _
         refine wpL_folded (fun wd => Up w4 wd ∧ Blk wd w4.heap.size 59 #[.bool b4, .slice a4 n4 c4] ∧ Big wd (.agg #[.bool b4, .slice a4 n4 c4]) 1) ⟨(by repeat (first | assumption | (with_reducible apply Up.of) | (with_reducible exact Below.refl _ _) | (with_reducible exact Up.refl _) | ((with_reducible apply bl_setRow); (focus (first | exact Nat.le_refl _ | (simp; done) | (simp; omega) | omega))) | (with_reducible apply below_drewN) | (with_reducible apply Below.drew) | ((with_reducible apply bl_alloc); (focus (first | exact Nat.le_refl _ | (simp; done) | (simp; omega) | omega))) | ((with_reducible apply bl_setCell); (focus (first | exact Nat.le_refl _ | (simp; done) | (simp; omega) | omega))) | ((with_reducible apply up_tr); assumption))), (by (repeat (first | assumption | ((with_reducible apply blk_new); (focus (first | rfl | (simp; done)))) | (with_reducible apply blk_alloc) | (with_reducible apply blk_drew) | (with_reducible apply blk_drewN) | ((with_reducible apply blk_up); assumption) | (with_reducible apply blk_same) | ((with_reducible apply blk_else); (focus (first | (simp; done) | (simp; omega) | omega)))))), (hB4.up (Up.alloc _ _)).setRow (Blk.new _ _ rfl)⟩ ?_
         rintro w5 ⟨hu5, hb5, hB5⟩))
    have hUm := (hu4.trans hu5)
    have hbm := hb3.up hUm
    have hsm := hs2.up (hu3.trans hUm)
    have hM0 : w.heap.size ≤ w2.heap.size := (hu1.trans hu2).size
    have hP0 : w.heap.size ≤ w4.heap.size := (((hu1.trans hu2).trans hu3).trans hu4).size
    have hne : w2.heap.size ≠ w4.heap.size := Nat.ne_of_lt (hb3.up hu4).lt
    have hUw := ((hu1.trans hu2).trans hu3).trans hUm
    obtain ⟨bM, hbM⟩ : ∃ x, w2.heap.size = x := ⟨_, rfl⟩
    obtain ⟨bP, hbP⟩ : ∃ x, w4.heap.size = x := ⟨_, rfl⟩
    rw [hbM] at hM0 hne hbm ⊢
    rw [hbP] at hP0 hne hb5 ⊢
    have HDg := hid (Dg.start (dv l) hA)
    have HNe := hid hne
    have HM0 := hid hM0
    have HP0 := hid hP0
    clear hs2 hu2 hu3 hb3 hu4 hB4 hu5 hUm hbM hbP hu1 hne hM0 hP0
    go_loopg [5, 6] l.length (fun g t5 t6 wr => ∃ (k : Nat) (L : List Int) (pm : Option Addr) (nm cm : Nat) (b : Bool) (a : Option Addr) (n c : Nat), k ≤ l.length ∧ l.length - k ≤ g ∧ t5 = .bool (allP (dv l) k) ∧ t6 = .int .i64 (k : Nat) ∧ Dg l.length (dv l) k L ∧
      Blk wr bM 24 #[.int .i64 (l.length : Int), .slice pm nm cm] ∧ Sm wr (.agg #[.int .i64 (l.length : Int), .slice pm nm cm]) l.length L ∧ Blk wr bP 59 #[.bool b, .slice a n c] ∧ Big wr (.agg #[.bool b, .slice a n c]) (prd (dv l) k) ∧ Up w wr)
    case atStart => exact ⟨0, _, _, _, _, _, _, _, _, Nat.zero_le _, by omega, rfl, rfl, HDg.out, hbm, hsm, hb5, hB5, hUw⟩
    case round =>
      clear HDg hbm hsm hb5 hB5 hUw
      obtain ⟨k, L, pm, nm, cm, b, a, n, c, hk, hkg, rfl, rfl, hDg, hbm, hsm, hbp, hbig, hu⟩ := hrel
      by_cases hlt : k < l.length
      · obtain ⟨ad, rfl, hcx⟩ := HC.out _ hu k hlt
        obtain ⟨hst0, hstN, hDg2⟩ := hDg.next hA hlt (dv_fit l k)
        have HX := dv_abs l k
        have HST := rset_any (k : Int) (k : Int) (dv l k) hsm (by unfold I64; omega)
        rw [hst0, hstN] at HST
        obtain ⟨L2, hL2⟩ : ∃ y, stL (l.length : Int) L k k (dv l k) = y := ⟨_, rfl⟩
        rw [hL2] at HST hDg2
        have HST := hid HST
        have HOF := hid (fun w => of_big (dv l k) (by omega) (by omega) w)
        have HMU := hid (fun w' va vb (ha : Big w' va (prd (dv l) k)) (hb : Big w' vb (dv l k)) => mul_big ha hb (prd_nl l (by omega)) (dv_nl l k))
        have HDg2 := hid hDg2
        have HAl : Hid (allP (dv l) (k + 1) = (allP (dv l) k && decide (0 < dv l k))) := hid rfl
        have HPr : Hid (prd (dv l) (k + 1) = prd (dv l) k * dv l k) := hid rfl
        have HEv : Hid (dv l k = (zth l k).tmod 1073741825) := hid rfl
        have hcx2 : wr.cell? (ad.add k) = some (.int .i64 (zth l k)) := hcx
        obtain ⟨z, hz⟩ : ∃ z, zth l k = z := ⟨_, rfl⟩
        rw [hz] at hcx hcx2 HEv
        obtain ⟨x, hx⟩ : ∃ x, dv l k = x := ⟨_, rfl⟩
        rw [hx] at HST HOF HMU HAl HPr HEv HX
        rw [HEv.out] at HST HOF
        obtain ⟨pk, hpk⟩ : ∃ x, prd (dv l) k = x := ⟨_, rfl⟩
        rw [hpk] at hbig HMU HPr
        obtain ⟨ak, hak⟩ : ∃ x, allP (dv l) k = x := ⟨_, rfl⟩
        rw [hak] at HAl ⊢
        have e1 : IntKind.i64.wrap ((k : Int) + 1) = (k : Int) + 1 := IntWalk.i64_in _ (by omega)
        clear hDg hst0 hstN hDg2 hL2 hz hx hpk hak hcx
        go_upto_region 13 with (first
          | ((with_reducible apply ldM_P); exact rfl; exact rfl; exact hbm; exact rfl)
          | (go_at_call 14; (with_reducible refine (HST.out).mono ?_); rintro r w6 ⟨z6, rfl, hu6, hs6⟩; have hs6' := hs6; obtain ⟨s6, base6, rfl, hO6, -⟩ := hs6'; obtain ⟨p6, n6, c6, rfl⟩ := OwnI.slice hO6; have hbm6 := hbm.up hu6)
          | ((with_reducible apply stM_P); exact rfl; exact rfl; exact hbm6; exact rfl; exact rfl; exact two2 _ _ _ _ _
             refine wpL_folded (fun wd => Up w wd ∧ Blk wd bM 24 #[.int .i64 (l.length : Int), .slice p6 n6 c6] ∧ SmO wd (.agg #[.int .i64 (l.length : Int), .slice p6 n6 c6]) l.length L2 ∧ Blk wd bP 59 #[.bool b, .slice a n c] ∧ Big wd (.agg #[.bool b, .slice a n c]) pk)
               ⟨below_setRow (hu.trans hu6) HM0.out _, hbm6.setRow _, hs6.setRow hbm6, (hbp.up hu6).row_other _ (Ne.symm HNe.out), (hbig.up hu6).rowM hbm6⟩ ?_
             rintro w7 ⟨hu7, hbm7, hs7, hbp7, hbig7⟩))
        try simp only [Act.put]
        clear hbm hsm hbp hbig hu hu6 hs6 hO6 hbm6 hcx2
        rw [← HEv.out]
        rw [← HEv.out] at HOF
        refine wp_region_upS (S := (fun wq => Blk wq bP 59 #[.bool b, .slice a n c] ∧ Big wq (.agg #[.bool b, .slice a n c]) pk ∧ Up w7 wq ∧ Below w.heap.size w wq)) (req := (fun j => j != 4)) (by kernel_rfl) (fun _ _ h hu => ⟨(h.1).up hu, (h.2.1).up hu, (h.2.2.1).trans hu, below_up (h.2.2.2) hu⟩) ⟨(by (repeat (first | assumption | ((with_reducible apply blk_new); (focus (first | rfl | (simp; done)))) | (with_reducible apply blk_alloc) | (with_reducible apply blk_drew) | (with_reducible apply blk_drewN) | ((with_reducible apply blk_up); assumption) | (with_reducible apply blk_same) | ((with_reducible apply blk_else); (focus (first | (simp; done) | (simp; omega) | omega)))))), (by (repeat (first | assumption | ((with_reducible apply big_set); (focus (repeat (first | assumption | ((with_reducible apply blk_new); (focus (first | rfl | (simp; done)))) | (with_reducible apply blk_alloc) | (with_reducible apply blk_drew) | (with_reducible apply blk_drewN) | ((with_reducible apply blk_up); assumption) | (with_reducible apply blk_same) | ((with_reducible apply blk_else); (focus (first | (simp; done) | (simp; omega) | omega))))))) | (with_reducible apply big_alloc) | ((with_reducible apply big_up); assumption))); done), (by first | exact Up.refl _ | assumption), (by repeat (first | assumption | (with_reducible apply Up.of) | (with_reducible exact Below.refl _ _) | (with_reducible exact Up.refl _) | ((with_reducible apply bl_setRow); (focus (first | exact Nat.le_refl _ | (simp; done) | (simp; omega) | omega))) | (with_reducible apply below_drewN) | (with_reducible apply Below.drew) | ((with_reducible apply bl_alloc); (focus (first | exact Nat.le_refl _ | (simp; done) | (simp; omega) | omega))) | ((with_reducible apply bl_setCell); (focus (first | exact Nat.le_refl _ | (simp; done) | (simp; omega) | omega))) | ((with_reducible apply up_tr); assumption)))⟩ (fun wS hSS => ?_)
        have ⟨hS1, hS2, hS3, hSB⟩ := hSS
        refine wpAnyU_take (i := 0) (d := (some 38)) (v := _) rfl rfl (by kernel_rfl) (fun _ _ _ h => h) (fun _ _ h hu => ⟨(h.1).up hu, (h.2.1).up hu, (h.2.2.1).trans hu, below_up (h.2.2.2) hu⟩) hSS (Or.inl ⟨by rfl, fun w' hSw => yu_value (run_ldB rfl rfl hSw.1 rfl)⟩) ?_
        try simp only [Act.put, List.setIfInBounds_toArray, List.set_cons_zero, List.set_cons_succ]
        refine wpAnyU_pure (i := 1) (d := (some 39)) (v := ?_) rfl rfl (by kernel_rfl) (fun _ _ _ h => h) (fun _ _ h hu => ⟨(h.1).up hu, (h.2.1).up hu, (h.2.2.1).trans hu, below_up (h.2.2.2) hu⟩) (Or.inl ⟨by rfl, fun w' _ => yu_value ?_⟩) ?_
        rotate_left
        · (go_simp; (try exact rfl))
        try simp only [Act.put, List.setIfInBounds_toArray, List.set_cons_zero, List.set_cons_succ]
        refine wpAnyU_callE (i := 2) (d := (some 40)) rfl rfl (by kernel_rfl) (by rfl) (fun _ _ h hu => ⟨(h.1).up hu, (h.2.1).up hu, (h.2.2.1).trans hu, below_up (h.2.2.2) hu⟩) (fun w' => by go_simp) (fun w' hw' => (HOF.out w')) fun vO wO hwO hRO => ?_
        try simp only [Act.put, List.setIfInBounds_toArray, List.set_cons_zero, List.set_cons_succ]
        refine wpAnyU_callE (i := 3) (d := (some 41)) rfl rfl (by kernel_rfl) (by rfl) (fun _ _ h hu => ⟨(h.1).up hu, (h.2.1).up hu, (h.2.2.1).trans hu, below_up (h.2.2.2) hu⟩) (fun w' => by go_simp) (fun w' hw' => (HMU.out w' _ _ (hSS.2.1.up (hwO.trans hw')) (hRO.up hw'))) fun vM wM hwM hRM => ?_
        try simp only [Act.put, List.setIfInBounds_toArray, List.set_cons_zero, List.set_cons_succ]
        obtain ⟨b8, a8, n8, c8, rfl⟩ := hRM.shape
        have gU := hSS.2.2.1.trans (hwO.trans hwM)
        have gB := hSS.1.up (hwO.trans hwM)
        refine wpAnyU_one (i := 4) rfl (by kernel_rfl) (by rfl) fun wX hwX => ?_
        refine wp_stB rfl rfl rfl rfl (gB.up hwX) rfl rfl (one2 _ _ _ _) ?_
        refine ⟨fun h => by simp at h, ?_⟩
        try simp only [Act.put, List.setIfInBounds_toArray, List.set_cons_zero, List.set_cons_succ]
        refine wpAnyU_done (by kernel_rfl) (fun wF huE => ?_) _
        have gX := gB.up hwX
        have gbm := ((hbm7.up (gU.trans hwX)).row_other #[.bool b8, .slice a8 n8 c8] HNe.out).up huE
        have gsm := ((hs7.up (gU.trans hwX)).rowB (D := #[.bool b8, .slice a8 n8 c8]) gX).up huE
        have gbp := (gX.setRow #[.bool b8, .slice a8 n8 c8]).up huE
        have gbig := ((hRM.up hwX).setRow (D := #[.bool b8, .slice a8 n8 c8]) gX).up huE
        have gu := Up.trans (below_setRow ((hu7.trans gU).trans hwX) HP0.out #[.bool b8, .slice a8 n8 c8]) huE
        rw [← HPr.out] at gbig
        clear hS1 hS2 hS3 hSB hSS huE hwO hwM hwX hRO hRM gU gB gX hbm7 hs7 hbp7 hbig7 hu7
        cases ak with
        | true =>
          rw [Bool.true_and] at HAl
          obtain ⟨dx, hdx⟩ : ∃ y, decide (0 < x) = y := ⟨_, rfl⟩
          rw [hdx] at HAl
          go_wp2_with fail
          go_roundg (l.length - (k + 1))
          case measure => omega
          case rel => exact ⟨k + 1, L2, _, _, _, _, _, _, _, by omega, Nat.le_refl _, by rw [HAl.out], rfl, HDg2.out, gbm, gsm.sm, gbp, gbig, gu⟩
        | false =>
          rw [Bool.false_and] at HAl
          go_wp2_with fail
          go_roundg (l.length - (k + 1))
          case measure => omega
          case rel => exact ⟨k + 1, L2, _, _, _, _, _, _, _, by omega, Nat.le_refl _, by rw [HAl.out], rfl, HDg2.out, gbm, gsm.sm, gbp, gbig, gu⟩
      · obtain rfl : k = l.length := by omega
        have HDT := hid (fun w' (hu' : Up wr w') => hDg.det.1 ▸ hDg.det.2 ▸ det_any (hsm.up hu'))
        have HDF := hid (fun w' (hu' : Up wr w') => hDg.df ▸ definite_any (hsm.up hu'))
        have HW := hid (fun w' u (h : Big w' u (prd (dv l) l.length)) => help_wide (few_inR (k := 5) (by decide) (prd_bp (dv_abs l) hA)) h (prd_nl l hA))
        obtain ⟨A, hA9⟩ : ∃ y, allP (dv l) l.length = y := ⟨_, rfl⟩
        obtain ⟨pn, hpn⟩ : ∃ y, prd (dv l) l.length = y := ⟨_, rfl⟩
        rw [hA9] at HDF ⊢
        rw [hpn] at HDT HW hbig
        have dA : (A == A) = true := by simp
        unfold wideV at HW
        clear hDg hsm hA9 hpn hlt
        go_wp2_with (first
          | ((with_reducible apply ldM_P); exact rfl; exact rfl; (first | exact hbm | exact hbmF); exact rfl)
          | ((with_reducible apply ld_rowP undW infoW); exact rfl; exact rfl; focus (repeat (first | assumption | ((with_reducible apply row_newc); (focus (first | rfl | (simp; done)))) | ((with_reducible apply row_newz); (focus (first | rfl | (simp; done)))) | (with_reducible apply row_same) | ((with_reducible apply row_else); (focus (first | (simp; done) | (simp; omega) | omega))) | (with_reducible apply row_alloc) | (with_reducible apply row_drew) | (with_reducible apply row_drewN) | ((with_reducible apply row_up); assumption))))
          | ((with_reducible apply ldB_P); exact rfl; exact rfl; (focus (repeat (first | assumption | ((with_reducible apply blk_new); (focus (first | rfl | (simp; done)))) | (with_reducible apply blk_alloc) | (with_reducible apply blk_drew) | (with_reducible apply blk_drewN) | ((with_reducible apply blk_up); assumption) | (with_reducible apply blk_same) | ((with_reducible apply blk_else); (focus (first | (simp; done) | (simp; omega) | omega)))))); exact rfl)
          | (go_at_call 30; (with_reducible refine (HDT.out _ (Up.refl _)).mono ?_); rintro r w6 ⟨u6, rfl, hu6, he6⟩; obtain rfl := he6.elim (fun h => h.2) (fun h => absurd rfl h.1))
          | ((with_reducible apply st_rowP infoW); exact rfl; exact rfl; exact row_newz _ rfl
             refine wpL_folded (fun wd => Up w6 wd ∧ Row wd w6.heap.size 64 16 (limb (enc pn))) ⟨(by repeat (first | assumption | (with_reducible apply Up.of) | (with_reducible exact Below.refl _ _) | (with_reducible exact Up.refl _) | ((with_reducible apply bl_setRow); (focus (first | exact Nat.le_refl _ | (simp; done) | (simp; omega) | omega))) | (with_reducible apply below_drewN) | (with_reducible apply Below.drew) | ((with_reducible apply bl_alloc); (focus (first | exact Nat.le_refl _ | (simp; done) | (simp; omega) | omega))) | ((with_reducible apply bl_setCell); (focus (first | exact Nat.le_refl _ | (simp; done) | (simp; omega) | omega))) | ((with_reducible apply up_tr); assumption))), (by (repeat (first | assumption | ((with_reducible apply row_newc); (focus (first | rfl | (simp; done)))) | ((with_reducible apply row_newz); (focus (first | rfl | (simp; done)))) | (with_reducible apply row_same) | ((with_reducible apply row_else); (focus (first | (simp; done) | (simp; omega) | omega))) | (with_reducible apply row_alloc) | (with_reducible apply row_drew) | (with_reducible apply row_drewN) | ((with_reducible apply row_up); assumption))))⟩ ?_
             rintro w7 ⟨hu7, hR7⟩
             have hU7 := hu6.trans hu7
             have hbmF := hbm.up hU7
             have hbpF := hbp.up hU7
             have hbigF := hbig.up hU7)
          | (go_at_call 31; (with_reducible refine (HW.out _ _ hbigF).mono ?_); rintro r w8 ⟨rfl, hu8⟩; replace hbmF := hbmF.up hu8)
          | (go_at_call 32; (with_reducible refine (HDF.out _ (hU7.trans hu8)).mono ?_); rintro r w9 ⟨rfl, hu9⟩))
        go_ret
        exact ⟨rfl, hu.trans ((hU7.trans hu8).trans hu9)⟩
  · have d8 : decide ((8 : Int) < (l.length : Int)) = true := decide_eq_true (by omega)
    clear hI
    go_enter Tryd.func6, Tryd.ntmps6
    go_wp2_with (first
      | (go_at_call 27; (with_reducible refine HK.out.mono ?_); rintro r w1 ⟨rfl, hu1⟩))
    go_ret
    exact ⟨rfl, hu1⟩
theorem detdiag_row {w : World} {p0 : Option Addr} {len0 cap0 : Nat} {z0 : List Int} (hg : Glob w) (w0 : IsRowX .i64 w p0 len0 cap0 z0) :
    Calls Tryd.prog 6 #[.slice p0 len0 cap0] w fun r w' => r = .returned (.bool true) ∧ Up w w' := detdiag_w hg (vw_row w0).1 (vw_row w0).2
end Go.Proofs.YtdcpoamjmoceiaaDoor
/-
  What the laws of faults share: the variable errors.errorType, a world that meets the condition.
-/
namespace Go.Proofs.YtdcpoamjmoceiaaDoor
open Go.ChangeShapes Go.WideShapes Go.RowKit
set_option maxRecDepth 100000

theorem own4 : ownKnob Tryd.prog.godebug = none := by kernel_rfl
theorem et4 : Tryd.prog.globalNamed "errors.errorType" = some 0 := by kernel_rfl
theorem rt4 : (Tryd.prog.cutTypes.find? (·.1 == "internal/reflectlite.rtype")).map (·.2) = some 144 := by kernel_rfl
theorem oneRow4 : ((List.range 207).filter fun t => Tryd.prog.rowNamed t [101, 114, 114, 111, 114]) = [34] := by kernel_rfl
theorem size4 : Tryd.prog.types.size = 207 := by kernel_rfl
/-- What the condition gives a walk: the variable's one cell. -/
theorem glob_of_laid {W : World} (h : laidMetH Tryd.prog [("errors.errorType", Rows.laid_errors_errorType)] W) : Glob W := by
  have h' : laidMet Tryd.prog [] W ∧ handlesMet Tryd.prog [("errors.errorType", Rows.laid_errors_errorType)] W := h
  obtain ⟨name, u, ty, e1, e2, e3, e4, e5⟩ := h'.2 _ (List.mem_singleton.2 rfl)
  have en : name = [101, 114, 114, 111, 114] := (Option.some.inj e1).symm
  subst en
  obtain rfl := Option.some.inj (rt4.symm.trans e2)
  have hm : ty ∈ (List.range 207).filter fun t => Tryd.prog.rowNamed t [101, 114, 114, 111, 114] := List.mem_filter.2 ⟨List.mem_range.2 (by rw [← size4]; exact e3), e4⟩
  rw [oneRow4] at hm
  obtain rfl := List.mem_singleton.1 hm
  have hh : typeHandle Tryd.prog 34 = .pointer (some ⟨3, 34, none⟩) := by kernel_rfl
  rw [hh] at e5
  unfold Glob
  simpa using World.var?_cell et4 e5 0
/-- A world that meets the condition: the settled one, the variable's cell laid. -/
noncomputable def laidWorld (os : Os) : World :=
  let w0 := World.holding Tryd.prog os ⟨#[], #[], []⟩
  { w0 with heap := w0.heap.modify 0 fun
      | .cells _ t frozen => .cells #[.iface 144 (.agg #[.pointer (some ⟨3, 34, none⟩)])] t frozen
      | o => o }
theorem laidWorld_met (os : Os) (args : Array Value) : laidMetH Tryd.prog [("errors.errorType", Rows.laid_errors_errorType)] ((laidWorld os).forCall (fun _ _ => 0) ⟨#[], args, []⟩).memory :=
  laidMetH_of_parts (laidMet_nil _ _) (by kernel_rfl)
end Go.Proofs.YtdcpoamjmoceiaaDoor
