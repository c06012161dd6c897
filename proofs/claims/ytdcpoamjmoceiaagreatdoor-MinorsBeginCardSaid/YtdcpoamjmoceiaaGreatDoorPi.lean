import Derived.Test.YtdcpoamjmoceiaaGreatDoorPh
import Derived.DataShut
import Derived.Test.YtdcpoamjmoceiaaGreatDoorRows
import Derived.Test.YtdcpoamjmoceiaaGreatDoorTie
import Derived.ChangeSame
import Derived.ChangeVars
import Derived.JoinedOf
import Derived.RowKit
import Derived.RowKitTokens
import Derived.LaidLaws
import Derived.LaidHandle
import Derived.Stop.Joined
import Derived.ChangeMaps5
import Derived.SevenTiedAt
namespace Go.Proofs.YtdcpoamjmoceiaaGreatDoor
open Go Go.RowKit
set_option maxRecDepth 100000
set_option maxHeartbeats 4000000 in
theorem to_over {z : Int} {v : Value} {w : World} (h : Big w v z) (hlt : bp 16 ≤ z.natAbs) (hn : nl z.natAbs < 50000) :
    Calls Tryz.prog 64 #[v] w fun e w' => e = .returned (opt z) ∧ Up w w' := by
  have hbp := hb_pos
  have hb16 := bp16
  have hz : ¬ InR z := fun hr => by have := hr.out; omega
  rw [opt_no hz]
  obtain ⟨a, c, rfl, hA⟩ := h
  have hsz := fun w' (h : Up w w') => size_am (hA.up h) hn
  have hbl := blen_over hlt
  generalize decide (z < 0) = p at *
  generalize z.natAbs = x at *
  have d1 : decide ((1024 : Int) < (blen x : Nat)) = true := decide_eq_true (by omega)
  have HSZ := hid hsz
  clear hsz
  generalize blen x = n at *
  clear hz hb16 hbp hlt hbl
  go_enter Tryz.func64, Tryz.ntmps64
  go_wp2_with (first | (go_at_call 91; (with_reducible refine (HSZ.out _ (by repeat (first | assumption | (with_reducible apply Up.of) | (with_reducible exact Below.refl _ _) | (with_reducible exact Up.refl _) | ((with_reducible apply bl_setRow); (focus (first | exact Nat.le_refl _ | (simp; done) | (simp; omega) | omega))) | (with_reducible apply below_drewN) | (with_reducible apply Below.drew) | ((with_reducible apply bl_alloc); (focus (first | exact Nat.le_refl _ | (simp; done) | (simp; omega) | omega))) | ((with_reducible apply bl_setCell); (focus (first | exact Nat.le_refl _ | (simp; done) | (simp; omega) | omega))) | ((with_reducible apply up_tr); assumption)))).mono ?_); rintro e wQ ⟨rfl, huS⟩))
  have hszS := huS.size
  have hgt : w.heap.size + 1 < wQ.heap.size := by simp at hszS; omega
  refine wp_region_upS (S := (fun wq => Row wq (w.heap.size + 1) 54 16 (fun _ => 0) ∧ Row wq wQ.heap.size 54 16 (fun _ => 0) ∧ Below w.heap.size w wq)) (req := (fun _ => true)) (by kernel_rfl) (fun _ _ h hu => ⟨(h.1).up hu, (h.2.1).up hu, below_up (h.2.2) hu⟩) ⟨(by (repeat (first | assumption | ((with_reducible apply row_newc); (focus (first | rfl | (simp; done)))) | ((with_reducible apply row_newz); (focus (first | rfl | (simp; done)))) | (with_reducible apply row_same) | ((with_reducible apply row_else); (focus (first | (simp; done) | (simp; omega) | omega))) | (with_reducible apply row_alloc) | (with_reducible apply row_drew) | (with_reducible apply row_drewN) | ((with_reducible apply row_up); assumption)))), (by (repeat (first | assumption | ((with_reducible apply row_newc); (focus (first | rfl | (simp; done)))) | ((with_reducible apply row_newz); (focus (first | rfl | (simp; done)))) | (with_reducible apply row_same) | ((with_reducible apply row_else); (focus (first | (simp; done) | (simp; omega) | omega))) | (with_reducible apply row_alloc) | (with_reducible apply row_drew) | (with_reducible apply row_drewN) | ((with_reducible apply row_up); assumption)))), (by repeat (first | assumption | (with_reducible apply Up.of) | (with_reducible exact Below.refl _ _) | (with_reducible exact Up.refl _) | ((with_reducible apply bl_setRow); (focus (first | exact Nat.le_refl _ | (simp; done) | (simp; omega) | omega))) | (with_reducible apply below_drewN) | (with_reducible apply Below.drew) | ((with_reducible apply bl_alloc); (focus (first | exact Nat.le_refl _ | (simp; done) | (simp; omega) | omega))) | ((with_reducible apply bl_setCell); (focus (first | exact Nat.le_refl _ | (simp; done) | (simp; omega) | omega))) | ((with_reducible apply up_tr); assumption)))⟩ (fun wS hSS => ?_)
  have ⟨hS1, hS2, hSB⟩ := hSS
  refine wpAnyU_pure (i := 0) (d := (some 11)) (v := ?_) rfl rfl (by kernel_rfl) (fun _ _ _ h => h) (fun _ _ h hu => ⟨(h.1).up hu, (h.2.1).up hu, below_up (h.2.2) hu⟩) (Or.inl ⟨by rfl, fun w' _ => yu_value ?_⟩) ?_
  rotate_left
  · (go_simp; (try exact rfl))
  try simp only [Act.put, List.setIfInBounds_toArray, List.set_cons_zero, List.set_cons_succ]
  refine wpAnyU_pure (i := 1) (d := (some 12)) (v := ?_) rfl rfl (by kernel_rfl) (fun _ _ _ h => h) (fun _ _ h hu => ⟨(h.1).up hu, (h.2.1).up hu, below_up (h.2.2) hu⟩) (Or.inl ⟨by rfl, fun w' _ => yu_value ?_⟩) ?_
  rotate_left
  · (go_simp; (try exact rfl))
  try simp only [Act.put, List.setIfInBounds_toArray, List.set_cons_zero, List.set_cons_succ]
  refine wpAnyU_pure (i := 2) (d := (some 13)) (v := ?_) rfl rfl (by kernel_rfl) (fun _ _ _ h => h) (fun _ _ h hu => ⟨(h.1).up hu, (h.2.1).up hu, below_up (h.2.2) hu⟩) (Or.inl ⟨by rfl, fun w' _ => yu_value ?_⟩) ?_
  rotate_left
  · (go_simp; (try exact rfl))
  try simp only [Act.put, List.setIfInBounds_toArray, List.set_cons_zero, List.set_cons_succ]
  refine wpAnyU_pure (i := 3) (d := (some 14)) (v := undef) rfl rfl (by kernel_rfl) (fun _ _ _ h => h) (fun _ _ h hu => ⟨(h.1).up hu, (h.2.1).up hu, below_up (h.2.2) hu⟩) (Or.inr ⟨by rfl, rfl⟩) ?_
  try simp only [Act.put, List.setIfInBounds_toArray, List.set_cons_zero, List.set_cons_succ]
  refine wpAnyU_pure (i := 4) (d := (some 15)) (v := undef) rfl rfl (by kernel_rfl) (fun _ _ _ h => h) (fun _ _ h hu => ⟨(h.1).up hu, (h.2.1).up hu, below_up (h.2.2) hu⟩) (Or.inr ⟨by rfl, rfl⟩) ?_
  try simp only [Act.put, List.setIfInBounds_toArray, List.set_cons_zero, List.set_cons_succ]
  refine wpAnyU_pure (i := 5) (d := (some 16)) (v := undef) rfl rfl (by kernel_rfl) (fun _ _ _ h => h) (fun _ _ h hu => ⟨(h.1).up hu, (h.2.1).up hu, below_up (h.2.2) hu⟩) (Or.inr ⟨by rfl, rfl⟩) ?_
  try simp only [Act.put, List.setIfInBounds_toArray, List.set_cons_zero, List.set_cons_succ]
  refine wpAnyU_pure (i := 6) (d := (some 17)) (v := undef) rfl rfl (by kernel_rfl) (fun _ _ _ h => h) (fun _ _ h hu => ⟨(h.1).up hu, (h.2.1).up hu, below_up (h.2.2) hu⟩) (Or.inr ⟨by rfl, rfl⟩) ?_
  try simp only [Act.put, List.setIfInBounds_toArray, List.set_cons_zero, List.set_cons_succ]
  refine wpAnyU_pure (i := 7) (d := (some 18)) (v := undef) rfl rfl (by kernel_rfl) (fun _ _ _ h => h) (fun _ _ h hu => ⟨(h.1).up hu, (h.2.1).up hu, below_up (h.2.2) hu⟩) (Or.inr ⟨by rfl, rfl⟩) ?_
  try simp only [Act.put, List.setIfInBounds_toArray, List.set_cons_zero, List.set_cons_succ]
  refine wpAnyU_pure (i := 8) (d := (some 19)) (v := undef) rfl rfl (by kernel_rfl) (fun _ _ _ h => h) (fun _ _ h hu => ⟨(h.1).up hu, (h.2.1).up hu, below_up (h.2.2) hu⟩) (Or.inr ⟨by rfl, rfl⟩) ?_
  try simp only [Act.put, List.setIfInBounds_toArray, List.set_cons_zero, List.set_cons_succ]
  refine wpAnyU_pure (i := 9) (d := (some 20)) (v := undef) rfl rfl (by kernel_rfl) (fun _ _ _ h => h) (fun _ _ h hu => ⟨(h.1).up hu, (h.2.1).up hu, below_up (h.2.2) hu⟩) (Or.inr ⟨by rfl, rfl⟩) ?_
  try simp only [Act.put, List.setIfInBounds_toArray, List.set_cons_zero, List.set_cons_succ]
  refine wpAnyU_pure (i := 10) (d := (some 21)) (v := undef) rfl rfl (by kernel_rfl) (fun _ _ _ h => h) (fun _ _ h hu => ⟨(h.1).up hu, (h.2.1).up hu, below_up (h.2.2) hu⟩) (Or.inr ⟨by rfl, rfl⟩) ?_
  try simp only [Act.put, List.setIfInBounds_toArray, List.set_cons_zero, List.set_cons_succ]
  refine wpAnyU_pure (i := 11) (d := (some 22)) (v := undef) rfl rfl (by kernel_rfl) (fun _ _ _ h => h) (fun _ _ h hu => ⟨(h.1).up hu, (h.2.1).up hu, below_up (h.2.2) hu⟩) (Or.inr ⟨by rfl, rfl⟩) ?_
  try simp only [Act.put, List.setIfInBounds_toArray, List.set_cons_zero, List.set_cons_succ]
  refine wpAnyU_pure (i := 12) (d := (some 23)) (v := undef) rfl rfl (by kernel_rfl) (fun _ _ _ h => h) (fun _ _ h hu => ⟨(h.1).up hu, (h.2.1).up hu, below_up (h.2.2) hu⟩) (Or.inr ⟨by rfl, rfl⟩) ?_
  try simp only [Act.put, List.setIfInBounds_toArray, List.set_cons_zero, List.set_cons_succ]
  refine wpAnyU_pure (i := 13) (d := (some 24)) (v := undef) rfl rfl (by kernel_rfl) (fun _ _ _ h => h) (fun _ _ h hu => ⟨(h.1).up hu, (h.2.1).up hu, below_up (h.2.2) hu⟩) (Or.inr ⟨by rfl, rfl⟩) ?_
  try simp only [Act.put, List.setIfInBounds_toArray, List.set_cons_zero, List.set_cons_succ]
  refine wpAnyU_pure (i := 14) (d := (some 25)) (v := undef) rfl rfl (by kernel_rfl) (fun _ _ _ h => h) (fun _ _ h hu => ⟨(h.1).up hu, (h.2.1).up hu, below_up (h.2.2) hu⟩) (Or.inr ⟨by rfl, rfl⟩) ?_
  try simp only [Act.put, List.setIfInBounds_toArray, List.set_cons_zero, List.set_cons_succ]
  refine wpAnyU_pure (i := 15) (d := (some 26)) (v := undef) rfl rfl (by kernel_rfl) (fun _ _ _ h => h) (fun _ _ h hu => ⟨(h.1).up hu, (h.2.1).up hu, below_up (h.2.2) hu⟩) (Or.inr ⟨by rfl, rfl⟩) ?_
  try simp only [Act.put, List.setIfInBounds_toArray, List.set_cons_zero, List.set_cons_succ]
  refine wpAnyU_pure (i := 16) (d := (some 27)) (v := undef) rfl rfl (by kernel_rfl) (fun _ _ _ h => h) (fun _ _ h hu => ⟨(h.1).up hu, (h.2.1).up hu, below_up (h.2.2) hu⟩) (Or.inr ⟨by rfl, rfl⟩) ?_
  try simp only [Act.put, List.setIfInBounds_toArray, List.set_cons_zero, List.set_cons_succ]
  refine wpAnyU_pure (i := 17) (d := (some 28)) (v := undef) rfl rfl (by kernel_rfl) (fun _ _ _ h => h) (fun _ _ h hu => ⟨(h.1).up hu, (h.2.1).up hu, below_up (h.2.2) hu⟩) (Or.inr ⟨by rfl, rfl⟩) ?_
  try simp only [Act.put, List.setIfInBounds_toArray, List.set_cons_zero, List.set_cons_succ]
  refine wpAnyU_pure (i := 18) (d := (some 29)) (v := ?_) rfl rfl (by kernel_rfl) (fun _ _ _ h => h) (fun _ _ h hu => ⟨(h.1).up hu, (h.2.1).up hu, below_up (h.2.2) hu⟩) (Or.inl ⟨by rfl, fun w' _ => yu_value ?_⟩) ?_
  rotate_left
  · (go_simp; (try exact rfl))
  try simp only [Act.put, List.setIfInBounds_toArray, List.set_cons_zero, List.set_cons_succ]
  refine wpAnyU_done (by kernel_rfl) (fun wE huE => ?_) _
  have ⟨hS1, hS2, hSB⟩ := ((fun _ _ h hu => ⟨(h.1).up hu, (h.2.1).up hu, below_up (h.2.2) hu⟩) : ∀ w1 w2 : World, (fun wq => Row wq (w.heap.size + 1) 54 16 (fun _ => 0) ∧ Row wq wQ.heap.size 54 16 (fun _ => 0) ∧ Below w.heap.size w wq) w1 → Up w1 w2 → (fun wq => Row wq (w.heap.size + 1) 54 16 (fun _ => 0) ∧ Row wq wQ.heap.size 54 16 (fun _ => 0) ∧ Below w.heap.size w wq) w2) _ _ hSS huE
  clear huE hSS
  have gZ := hS1
  have gW := hS2
  have gB := hSB
  clear huS
  go_wp2_with (first | ((with_reducible apply ld_rowP undW infoW); exact rfl; exact rfl; focus (repeat (first | assumption | ((with_reducible apply row_newc); (focus (first | rfl | (simp; done)))) | ((with_reducible apply row_newz); (focus (first | rfl | (simp; done)))) | (with_reducible apply row_same) | ((with_reducible apply row_else); (focus (first | (simp; done) | (simp; omega) | omega))) | (with_reducible apply row_alloc) | (with_reducible apply row_drew) | (with_reducible apply row_drewN) | ((with_reducible apply row_up); assumption)))) | ((with_reducible apply st_rowP infoW); exact rfl; exact rfl; focus (repeat (first | assumption | ((with_reducible apply row_newc); (focus (first | rfl | (simp; done)))) | ((with_reducible apply row_newz); (focus (first | rfl | (simp; done)))) | (with_reducible apply row_same) | ((with_reducible apply row_else); (focus (first | (simp; done) | (simp; omega) | omega))) | (with_reducible apply row_alloc) | (with_reducible apply row_drew) | (with_reducible apply row_drewN) | ((with_reducible apply row_up); assumption)))) | ((with_reducible apply st_rowZ infoW); exact rfl; exact rfl; focus (repeat (first | assumption | ((with_reducible apply row_newc); (focus (first | rfl | (simp; done)))) | ((with_reducible apply row_newz); (focus (first | rfl | (simp; done)))) | (with_reducible apply row_same) | ((with_reducible apply row_else); (focus (first | (simp; done) | (simp; omega) | omega))) | (with_reducible apply row_alloc) | (with_reducible apply row_drew) | (with_reducible apply row_drewN) | ((with_reducible apply row_up); assumption)))))
  exact bodyPost_ret (res2 rfl undW infoW _ _ rfl (by (repeat (first | assumption | ((with_reducible apply row_newc); (focus (first | rfl | (simp; done)))) | ((with_reducible apply row_newz); (focus (first | rfl | (simp; done)))) | (with_reducible apply row_same) | ((with_reducible apply row_else); (focus (first | (simp; done) | (simp; omega) | omega))) | (with_reducible apply row_alloc) | (with_reducible apply row_drew) | (with_reducible apply row_drewN) | ((with_reducible apply row_up); assumption))))) rfl ⟨rfl, (by repeat (first | assumption | (with_reducible apply Up.of) | (with_reducible exact Below.refl _ _) | (with_reducible exact Up.refl _) | ((with_reducible apply bl_setRow); (focus (first | exact Nat.le_refl _ | (simp; done) | (simp; omega) | omega))) | (with_reducible apply below_drewN) | (with_reducible apply Below.drew) | ((with_reducible apply bl_alloc); (focus (first | exact Nat.le_refl _ | (simp; done) | (simp; omega) | omega))) | ((with_reducible apply bl_setCell); (focus (first | exact Nat.le_refl _ | (simp; done) | (simp; omega) | omega))) | ((with_reducible apply up_tr); assumption)))⟩
set_option maxHeartbeats 4000000 in
theorem to_mid {z : Int} {v : Value} {w : World} (h : Big w v z) (h1 : hb ≤ z) (h2 : z.natAbs < bp 16) :
    Calls Tryz.prog 64 #[v] w fun e w' => e = .returned (opt z) ∧ Up w w' := by
  have hbp := hb_pos
  have hz : ¬ InR z := fun hr => by have := hr.out; omega
  rw [opt_no hz]
  obtain ⟨a, c, rfl, hA⟩ := h
  have hn16 : nl z.natAbs ≤ 16 := nl_le h2
  have hsz := fun w' (h : Up w w') => size_am (hA.up h) (by omega)
  have hbl := blen_mid (x := z.natAbs) (by omega) h2
  have hp : decide (z < 0) = false := decide_eq_false (by omega)
  rw [hp] at *
  generalize z.natAbs = x at *
  rw [hbl] at hsz
  have d1 : decide ((1024 : Int) < (1024 : Nat)) = false := decide_eq_false (by omega)
  have d2 : (((1024 : Nat) : Int) == 1024) = true := by simp
  have HSZ := hid hsz
  clear hsz
  generalize 1024 = n at HSZ d1 d2
  clear hz hbp h1 h2 hbl
  go_enter Tryz.func64, Tryz.ntmps64
  go_wp2_with (first | (go_at_call 91; (with_reducible refine (HSZ.out _ (by repeat (first | assumption | (with_reducible apply Up.of) | (with_reducible exact Below.refl _ _) | (with_reducible exact Up.refl _) | ((with_reducible apply bl_setRow); (focus (first | exact Nat.le_refl _ | (simp; done) | (simp; omega) | omega))) | (with_reducible apply below_drewN) | (with_reducible apply Below.drew) | ((with_reducible apply bl_alloc); (focus (first | exact Nat.le_refl _ | (simp; done) | (simp; omega) | omega))) | ((with_reducible apply bl_setCell); (focus (first | exact Nat.le_refl _ | (simp; done) | (simp; omega) | omega))) | ((with_reducible apply up_tr); assumption)))).mono ?_); rintro e wQ ⟨rfl, huS⟩))
  have hszS := huS.size
  have hgt : w.heap.size + 1 < wQ.heap.size := by simp at hszS; omega
  refine wp_region_upS (S := (fun wq => Row wq (w.heap.size + 1) 54 16 (fun _ => 0) ∧ Row wq wQ.heap.size 54 16 (fun _ => 0) ∧ Blk wq w.heap.size 61 #[.bool false, .slice a (nl x) c] ∧ wq.cell? ⟨w.heap.size, 0, none⟩ = some (.bool false) ∧ Below w.heap.size w wq)) (req := (fun _ => true)) (by kernel_rfl) (fun _ _ h hu => ⟨(h.1).up hu, (h.2.1).up hu, (h.2.2.1).up hu, hu.cell (h.2.2.2.1), below_up (h.2.2.2.2) hu⟩) ⟨(by (repeat (first | assumption | ((with_reducible apply row_newc); (focus (first | rfl | (simp; done)))) | ((with_reducible apply row_newz); (focus (first | rfl | (simp; done)))) | (with_reducible apply row_same) | ((with_reducible apply row_else); (focus (first | (simp; done) | (simp; omega) | omega))) | (with_reducible apply row_alloc) | (with_reducible apply row_drew) | (with_reducible apply row_drewN) | ((with_reducible apply row_up); assumption)))), (by (repeat (first | assumption | ((with_reducible apply row_newc); (focus (first | rfl | (simp; done)))) | ((with_reducible apply row_newz); (focus (first | rfl | (simp; done)))) | (with_reducible apply row_same) | ((with_reducible apply row_else); (focus (first | (simp; done) | (simp; omega) | omega))) | (with_reducible apply row_alloc) | (with_reducible apply row_drew) | (with_reducible apply row_drewN) | ((with_reducible apply row_up); assumption)))), (by (repeat (first | assumption | ((with_reducible apply blk_new); (focus (first | rfl | (simp; done)))) | (with_reducible apply blk_alloc) | (with_reducible apply blk_drew) | (with_reducible apply blk_drewN) | ((with_reducible apply blk_up); assumption) | (with_reducible apply blk_same) | ((with_reducible apply blk_else); (focus (first | (simp; done) | (simp; omega) | omega)))))), (by first | assumption | (apply Blk.cell; (focus (repeat (first | assumption | ((with_reducible apply blk_new); (focus (first | rfl | (simp; done)))) | (with_reducible apply blk_alloc) | (with_reducible apply blk_drew) | (with_reducible apply blk_drewN) | ((with_reducible apply blk_up); assumption) | (with_reducible apply blk_same) | ((with_reducible apply blk_else); (focus (first | (simp; done) | (simp; omega) | omega)))))); exact rfl)), (by repeat (first | assumption | (with_reducible apply Up.of) | (with_reducible exact Below.refl _ _) | (with_reducible exact Up.refl _) | ((with_reducible apply bl_setRow); (focus (first | exact Nat.le_refl _ | (simp; done) | (simp; omega) | omega))) | (with_reducible apply below_drewN) | (with_reducible apply Below.drew) | ((with_reducible apply bl_alloc); (focus (first | exact Nat.le_refl _ | (simp; done) | (simp; omega) | omega))) | ((with_reducible apply bl_setCell); (focus (first | exact Nat.le_refl _ | (simp; done) | (simp; omega) | omega))) | ((with_reducible apply up_tr); assumption)))⟩ (fun wS hSS => ?_)
  have ⟨hS1, hS2, hS3, hS4, hSB⟩ := hSS
  refine wpAnyU_pure (i := 0) (d := (some 11)) (v := ?_) rfl rfl (by kernel_rfl) (fun _ _ _ h => h) (fun _ _ h hu => ⟨(h.1).up hu, (h.2.1).up hu, (h.2.2.1).up hu, hu.cell (h.2.2.2.1), below_up (h.2.2.2.2) hu⟩) (Or.inl ⟨by rfl, fun w' _ => yu_value ?_⟩) ?_
  rotate_left
  · (go_simp; (try exact rfl))
  try simp only [Act.put, List.setIfInBounds_toArray, List.set_cons_zero, List.set_cons_succ]
  refine wpAnyU_pure (i := 1) (d := (some 12)) (v := ?_) rfl rfl (by kernel_rfl) (fun _ _ _ h => h) (fun _ _ h hu => ⟨(h.1).up hu, (h.2.1).up hu, (h.2.2.1).up hu, hu.cell (h.2.2.2.1), below_up (h.2.2.2.2) hu⟩) (Or.inl ⟨by rfl, fun w' _ => yu_value ?_⟩) ?_
  rotate_left
  · (go_simp; (try exact rfl))
  try simp only [Act.put, List.setIfInBounds_toArray, List.set_cons_zero, List.set_cons_succ]
  refine wpAnyU_pure (i := 2) (d := (some 13)) (v := ?_) rfl rfl (by kernel_rfl) (fun _ _ _ h => h) (fun _ _ h hu => ⟨(h.1).up hu, (h.2.1).up hu, (h.2.2.1).up hu, hu.cell (h.2.2.2.1), below_up (h.2.2.2.2) hu⟩) (Or.inl ⟨by rfl, fun w' _ => yu_value ?_⟩) ?_
  rotate_left
  · (go_simp; (try exact rfl))
  try simp only [Act.put, List.setIfInBounds_toArray, List.set_cons_zero, List.set_cons_succ]
  refine wpAnyU_pure (i := 3) (d := (some 14)) (v := ?_) rfl rfl (by kernel_rfl) (fun _ _ _ h => h) (fun _ _ h hu => ⟨(h.1).up hu, (h.2.1).up hu, (h.2.2.1).up hu, hu.cell (h.2.2.2.1), below_up (h.2.2.2.2) hu⟩) (Or.inl ⟨by rfl, fun w' _ => yu_value ?_⟩) ?_
  rotate_left
  · (go_simp; (try exact rfl))
  try simp only [Act.put, List.setIfInBounds_toArray, List.set_cons_zero, List.set_cons_succ]
  refine wpAnyU_pure (i := 4) (d := (some 15)) (v := ?_) rfl rfl (by kernel_rfl) (fun _ _ _ h => h) (fun _ _ h hu => ⟨(h.1).up hu, (h.2.1).up hu, (h.2.2.1).up hu, hu.cell (h.2.2.2.1), below_up (h.2.2.2.2) hu⟩) (Or.inl ⟨by rfl, fun w' _ => yu_value ?_⟩) ?_
  rotate_left
  · (go_simp; (try exact rfl))
  try simp only [Act.put, List.setIfInBounds_toArray, List.set_cons_zero, List.set_cons_succ]
  refine wpAnyU_pure (i := 5) (d := (some 16)) (v := ?_) rfl rfl (by kernel_rfl) (fun _ _ _ h => h) (fun _ _ h hu => ⟨(h.1).up hu, (h.2.1).up hu, (h.2.2.1).up hu, hu.cell (h.2.2.2.1), below_up (h.2.2.2.2) hu⟩) (Or.inl ⟨by rfl, fun w' _ => yu_value ?_⟩) ?_
  rotate_left
  · (go_simp; (try exact rfl))
  try simp only [Act.put, List.setIfInBounds_toArray, List.set_cons_zero, List.set_cons_succ]
  refine wpAnyU_pure (i := 6) (d := (some 17)) (v := ?_) rfl rfl (by kernel_rfl) (fun _ _ _ h => h) (fun _ _ h hu => ⟨(h.1).up hu, (h.2.1).up hu, (h.2.2.1).up hu, hu.cell (h.2.2.2.1), below_up (h.2.2.2.2) hu⟩) (Or.inl ⟨by rfl, fun w' _ => yu_value ?_⟩) ?_
  rotate_left
  · (go_simp; (try exact rfl))
  try simp only [Act.put, List.setIfInBounds_toArray, List.set_cons_zero, List.set_cons_succ]
  refine wpAnyU_take (i := 7) (d := (some 18)) (v := ?_) rfl rfl (by kernel_rfl) (fun _ _ _ h => h) (fun _ _ h hu => ⟨(h.1).up hu, (h.2.1).up hu, (h.2.2.1).up hu, hu.cell (h.2.2.2.1), below_up (h.2.2.2.2) hu⟩) hSS (Or.inl ⟨by rfl, fun w' hSw => yu_value ?_⟩) ?_
  rotate_left
  · ((try dsimp only at hSw); (try obtain ⟨_, _, _, _, _⟩ := hSw); go_simp; (try exact rfl))
  try simp only [Act.put, List.setIfInBounds_toArray, List.set_cons_zero, List.set_cons_succ]
  refine wpAnyU_pure (i := 8) (d := (some 19)) (v := ?_) rfl rfl (by kernel_rfl) (fun _ _ _ h => h) (fun _ _ h hu => ⟨(h.1).up hu, (h.2.1).up hu, (h.2.2.1).up hu, hu.cell (h.2.2.2.1), below_up (h.2.2.2.2) hu⟩) (Or.inl ⟨by rfl, fun w' _ => yu_value ?_⟩) ?_
  rotate_left
  · (go_simp; (try exact rfl))
  try simp only [Act.put, List.setIfInBounds_toArray, List.set_cons_zero, List.set_cons_succ]
  refine wpAnyU_pure (i := 9) (d := (some 20)) (v := ?_) rfl rfl (by kernel_rfl) (fun _ _ _ h => h) (fun _ _ h hu => ⟨(h.1).up hu, (h.2.1).up hu, (h.2.2.1).up hu, hu.cell (h.2.2.2.1), below_up (h.2.2.2.2) hu⟩) (Or.inl ⟨by rfl, fun w' _ => yu_value ?_⟩) ?_
  rotate_left
  · (go_simp; (try exact rfl))
  try simp only [Act.put, List.setIfInBounds_toArray, List.set_cons_zero, List.set_cons_succ]
  refine wpAnyU_pure (i := 10) (d := (some 21)) (v := undef) rfl rfl (by kernel_rfl) (fun _ _ _ h => h) (fun _ _ h hu => ⟨(h.1).up hu, (h.2.1).up hu, (h.2.2.1).up hu, hu.cell (h.2.2.2.1), below_up (h.2.2.2.2) hu⟩) (Or.inr ⟨by rfl, rfl⟩) ?_
  try simp only [Act.put, List.setIfInBounds_toArray, List.set_cons_zero, List.set_cons_succ]
  refine wpAnyU_pure (i := 11) (d := (some 22)) (v := undef) rfl rfl (by kernel_rfl) (fun _ _ _ h => h) (fun _ _ h hu => ⟨(h.1).up hu, (h.2.1).up hu, (h.2.2.1).up hu, hu.cell (h.2.2.2.1), below_up (h.2.2.2.2) hu⟩) (Or.inr ⟨by rfl, rfl⟩) ?_
  try simp only [Act.put, List.setIfInBounds_toArray, List.set_cons_zero, List.set_cons_succ]
  refine wpAnyU_pure (i := 12) (d := (some 23)) (v := undef) rfl rfl (by kernel_rfl) (fun _ _ _ h => h) (fun _ _ h hu => ⟨(h.1).up hu, (h.2.1).up hu, (h.2.2.1).up hu, hu.cell (h.2.2.2.1), below_up (h.2.2.2.2) hu⟩) (Or.inr ⟨by rfl, rfl⟩) ?_
  try simp only [Act.put, List.setIfInBounds_toArray, List.set_cons_zero, List.set_cons_succ]
  refine wpAnyU_pure (i := 13) (d := (some 24)) (v := undef) rfl rfl (by kernel_rfl) (fun _ _ _ h => h) (fun _ _ h hu => ⟨(h.1).up hu, (h.2.1).up hu, (h.2.2.1).up hu, hu.cell (h.2.2.2.1), below_up (h.2.2.2.2) hu⟩) (Or.inr ⟨by rfl, rfl⟩) ?_
  try simp only [Act.put, List.setIfInBounds_toArray, List.set_cons_zero, List.set_cons_succ]
  refine wpAnyU_pure (i := 14) (d := (some 25)) (v := undef) rfl rfl (by kernel_rfl) (fun _ _ _ h => h) (fun _ _ h hu => ⟨(h.1).up hu, (h.2.1).up hu, (h.2.2.1).up hu, hu.cell (h.2.2.2.1), below_up (h.2.2.2.2) hu⟩) (Or.inr ⟨by rfl, rfl⟩) ?_
  try simp only [Act.put, List.setIfInBounds_toArray, List.set_cons_zero, List.set_cons_succ]
  refine wpAnyU_pure (i := 15) (d := (some 26)) (v := undef) rfl rfl (by kernel_rfl) (fun _ _ _ h => h) (fun _ _ h hu => ⟨(h.1).up hu, (h.2.1).up hu, (h.2.2.1).up hu, hu.cell (h.2.2.2.1), below_up (h.2.2.2.2) hu⟩) (Or.inr ⟨by rfl, rfl⟩) ?_
  try simp only [Act.put, List.setIfInBounds_toArray, List.set_cons_zero, List.set_cons_succ]
  refine wpAnyU_pure (i := 16) (d := (some 27)) (v := ?_) rfl rfl (by kernel_rfl) (fun _ _ _ h => h) (fun _ _ h hu => ⟨(h.1).up hu, (h.2.1).up hu, (h.2.2.1).up hu, hu.cell (h.2.2.2.1), below_up (h.2.2.2.2) hu⟩) (Or.inl ⟨by rfl, fun w' _ => yu_value ?_⟩) ?_
  rotate_left
  · (go_simp; (try exact rfl))
  try simp only [Act.put, List.setIfInBounds_toArray, List.set_cons_zero, List.set_cons_succ]
  refine wpAnyU_pure (i := 17) (d := (some 28)) (v := ?_) rfl rfl (by kernel_rfl) (fun _ _ _ h => h) (fun _ _ h hu => ⟨(h.1).up hu, (h.2.1).up hu, (h.2.2.1).up hu, hu.cell (h.2.2.2.1), below_up (h.2.2.2.2) hu⟩) (Or.inl ⟨by rfl, fun w' _ => yu_value ?_⟩) ?_
  rotate_left
  · (go_simp; (try exact rfl))
  try simp only [Act.put, List.setIfInBounds_toArray, List.set_cons_zero, List.set_cons_succ]
  refine wpAnyU_pure (i := 18) (d := (some 29)) (v := ?_) rfl rfl (by kernel_rfl) (fun _ _ _ h => h) (fun _ _ h hu => ⟨(h.1).up hu, (h.2.1).up hu, (h.2.2.1).up hu, hu.cell (h.2.2.2.1), below_up (h.2.2.2.2) hu⟩) (Or.inl ⟨by rfl, fun w' _ => yu_value ?_⟩) ?_
  rotate_left
  · (go_simp; (try exact rfl))
  try simp only [Act.put, List.setIfInBounds_toArray, List.set_cons_zero, List.set_cons_succ]
  refine wpAnyU_done (by kernel_rfl) (fun wE huE => ?_) _
  have ⟨hS1, hS2, hS3, hS4, hSB⟩ := ((fun _ _ h hu => ⟨(h.1).up hu, (h.2.1).up hu, (h.2.2.1).up hu, hu.cell (h.2.2.2.1), below_up (h.2.2.2.2) hu⟩) : ∀ w1 w2 : World, (fun wq => Row wq (w.heap.size + 1) 54 16 (fun _ => 0) ∧ Row wq wQ.heap.size 54 16 (fun _ => 0) ∧ Blk wq w.heap.size 61 #[.bool false, .slice a (nl x) c] ∧ wq.cell? ⟨w.heap.size, 0, none⟩ = some (.bool false) ∧ Below w.heap.size w wq) w1 → Up w1 w2 → (fun wq => Row wq (w.heap.size + 1) 54 16 (fun _ => 0) ∧ Row wq wQ.heap.size 54 16 (fun _ => 0) ∧ Blk wq w.heap.size 61 #[.bool false, .slice a (nl x) c] ∧ wq.cell? ⟨w.heap.size, 0, none⟩ = some (.bool false) ∧ Below w.heap.size w wq) w2) _ _ hSS huE
  clear huE hSS
  have gZ := hS1
  have gW := hS2
  have gB := hSB
  clear huS
  go_wp2_with (first | ((with_reducible apply ld_rowP undW infoW); exact rfl; exact rfl; focus (repeat (first | assumption | ((with_reducible apply row_newc); (focus (first | rfl | (simp; done)))) | ((with_reducible apply row_newz); (focus (first | rfl | (simp; done)))) | (with_reducible apply row_same) | ((with_reducible apply row_else); (focus (first | (simp; done) | (simp; omega) | omega))) | (with_reducible apply row_alloc) | (with_reducible apply row_drew) | (with_reducible apply row_drewN) | ((with_reducible apply row_up); assumption)))) | ((with_reducible apply st_rowP infoW); exact rfl; exact rfl; focus (repeat (first | assumption | ((with_reducible apply row_newc); (focus (first | rfl | (simp; done)))) | ((with_reducible apply row_newz); (focus (first | rfl | (simp; done)))) | (with_reducible apply row_same) | ((with_reducible apply row_else); (focus (first | (simp; done) | (simp; omega) | omega))) | (with_reducible apply row_alloc) | (with_reducible apply row_drew) | (with_reducible apply row_drewN) | ((with_reducible apply row_up); assumption)))) | ((with_reducible apply st_rowZ infoW); exact rfl; exact rfl; focus (repeat (first | assumption | ((with_reducible apply row_newc); (focus (first | rfl | (simp; done)))) | ((with_reducible apply row_newz); (focus (first | rfl | (simp; done)))) | (with_reducible apply row_same) | ((with_reducible apply row_else); (focus (first | (simp; done) | (simp; omega) | omega))) | (with_reducible apply row_alloc) | (with_reducible apply row_drew) | (with_reducible apply row_drewN) | ((with_reducible apply row_up); assumption)))))
  exact bodyPost_ret (res2 rfl undW infoW _ _ rfl (by (repeat (first | assumption | ((with_reducible apply row_newc); (focus (first | rfl | (simp; done)))) | ((with_reducible apply row_newz); (focus (first | rfl | (simp; done)))) | (with_reducible apply row_same) | ((with_reducible apply row_else); (focus (first | (simp; done) | (simp; omega) | omega))) | (with_reducible apply row_alloc) | (with_reducible apply row_drew) | (with_reducible apply row_drewN) | ((with_reducible apply row_up); assumption))))) rfl ⟨rfl, (by repeat (first | assumption | (with_reducible apply Up.of) | (with_reducible exact Below.refl _ _) | (with_reducible exact Up.refl _) | ((with_reducible apply bl_setRow); (focus (first | exact Nat.le_refl _ | (simp; done) | (simp; omega) | omega))) | (with_reducible apply below_drewN) | (with_reducible apply Below.drew) | ((with_reducible apply bl_alloc); (focus (first | exact Nat.le_refl _ | (simp; done) | (simp; omega) | omega))) | ((with_reducible apply bl_setCell); (focus (first | exact Nat.le_refl _ | (simp; done) | (simp; omega) | omega))) | ((with_reducible apply up_tr); assumption)))⟩
theorem ord_iff {x y : Nat} : (((ordZ x y : Int) != 0) = true) ↔ x ≠ y := by
  unfold ordZ
  by_cases h1 : x < y
  · simp [h1]; omega
  · by_cases h2 : y < x
    · simp [h1, h2]; omega
    · simp [h1, h2]; omega
set_option maxHeartbeats 4000000 in
theorem to_below {z : Int} {v : Value} {w : World} (h : Big w v z) (h1 : z < -(hb : Int)) (h2 : z.natAbs < bp 16) :
    Calls Tryz.prog 64 #[v] w fun e w' => e = .returned (opt z) ∧ Up w w' := by
  have hbp := hb_pos
  have hz : ¬ InR z := fun hr => by have := hr.out; omega
  rw [opt_no hz]
  obtain ⟨a, c, rfl, hA⟩ := h
  have hn16 : nl z.natAbs ≤ 16 := nl_le h2
  have hnh : nl hb ≤ 16 := nl_le (by have := bp16; omega)
  have hsz := fun w' (h : Up w w') => size_am (hA.up h) (by omega)
  have hbl := blen_mid (x := z.natAbs) (by omega) h2
  have hp : decide (z < 0) = true := decide_eq_true (by omega)
  have ho : ((ordZ z.natAbs hb : Int) != 0) = true := ord_iff.2 (by omega)
  rw [hp] at *
  generalize z.natAbs = x at *
  rw [hbl] at hsz
  have d1 : decide ((1024 : Int) < (1024 : Nat)) = false := decide_eq_false (by omega)
  have d2 : (((1024 : Nat) : Int) == 1024) = true := by simp
  have HSZ := hid hsz
  have HO := hid ho
  have HA := hid hA
  clear hsz ho hA
  generalize 1024 = n at HSZ d1 d2
  clear hz hbp h1 h2 hbl
  go_enter Tryz.func64, Tryz.ntmps64
  go_wp2_with (first | (go_at_call 91; (with_reducible refine (HSZ.out _ (by repeat (first | assumption | (with_reducible apply Up.of) | (with_reducible exact Below.refl _ _) | (with_reducible exact Up.refl _) | ((with_reducible apply bl_setRow); (focus (first | exact Nat.le_refl _ | (simp; done) | (simp; omega) | omega))) | (with_reducible apply below_drewN) | (with_reducible apply Below.drew) | ((with_reducible apply bl_alloc); (focus (first | exact Nat.le_refl _ | (simp; done) | (simp; omega) | omega))) | ((with_reducible apply bl_setCell); (focus (first | exact Nat.le_refl _ | (simp; done) | (simp; omega) | omega))) | ((with_reducible apply up_tr); assumption)))).mono ?_); rintro e wQ ⟨rfl, huS⟩))
  have hszS := huS.size
  have hgt : w.heap.size + 1 < wQ.heap.size := by simp at hszS; omega
  refine wp_region_upS (S := (fun wq => Row wq (w.heap.size + 1) 54 16 (fun _ => 0) ∧ Row wq wQ.heap.size 54 16 (fun _ => 0) ∧ Blk wq w.heap.size 61 #[.bool true, .slice a (nl x) c] ∧ wq.cell? ⟨w.heap.size, 0, none⟩ = some (.bool true) ∧ wq.cell? ⟨w.heap.size, 1, none⟩ = some (.slice a (nl x) c) ∧ Below w.heap.size w wq)) (req := (fun _ => true)) (by kernel_rfl) (fun _ _ h hu => ⟨(h.1).up hu, (h.2.1).up hu, (h.2.2.1).up hu, hu.cell (h.2.2.2.1), hu.cell (h.2.2.2.2.1), below_up (h.2.2.2.2.2) hu⟩) ⟨(by (repeat (first | assumption | ((with_reducible apply row_newc); (focus (first | rfl | (simp; done)))) | ((with_reducible apply row_newz); (focus (first | rfl | (simp; done)))) | (with_reducible apply row_same) | ((with_reducible apply row_else); (focus (first | (simp; done) | (simp; omega) | omega))) | (with_reducible apply row_alloc) | (with_reducible apply row_drew) | (with_reducible apply row_drewN) | ((with_reducible apply row_up); assumption)))), (by (repeat (first | assumption | ((with_reducible apply row_newc); (focus (first | rfl | (simp; done)))) | ((with_reducible apply row_newz); (focus (first | rfl | (simp; done)))) | (with_reducible apply row_same) | ((with_reducible apply row_else); (focus (first | (simp; done) | (simp; omega) | omega))) | (with_reducible apply row_alloc) | (with_reducible apply row_drew) | (with_reducible apply row_drewN) | ((with_reducible apply row_up); assumption)))), (by (repeat (first | assumption | ((with_reducible apply blk_new); (focus (first | rfl | (simp; done)))) | (with_reducible apply blk_alloc) | (with_reducible apply blk_drew) | (with_reducible apply blk_drewN) | ((with_reducible apply blk_up); assumption) | (with_reducible apply blk_same) | ((with_reducible apply blk_else); (focus (first | (simp; done) | (simp; omega) | omega)))))), (by first | assumption | (apply Blk.cell; (focus (repeat (first | assumption | ((with_reducible apply blk_new); (focus (first | rfl | (simp; done)))) | (with_reducible apply blk_alloc) | (with_reducible apply blk_drew) | (with_reducible apply blk_drewN) | ((with_reducible apply blk_up); assumption) | (with_reducible apply blk_same) | ((with_reducible apply blk_else); (focus (first | (simp; done) | (simp; omega) | omega)))))); exact rfl)), (by first | assumption | (apply Blk.cell; (focus (repeat (first | assumption | ((with_reducible apply blk_new); (focus (first | rfl | (simp; done)))) | (with_reducible apply blk_alloc) | (with_reducible apply blk_drew) | (with_reducible apply blk_drewN) | ((with_reducible apply blk_up); assumption) | (with_reducible apply blk_same) | ((with_reducible apply blk_else); (focus (first | (simp; done) | (simp; omega) | omega)))))); exact rfl)), (by repeat (first | assumption | (with_reducible apply Up.of) | (with_reducible exact Below.refl _ _) | (with_reducible exact Up.refl _) | ((with_reducible apply bl_setRow); (focus (first | exact Nat.le_refl _ | (simp; done) | (simp; omega) | omega))) | (with_reducible apply below_drewN) | (with_reducible apply Below.drew) | ((with_reducible apply bl_alloc); (focus (first | exact Nat.le_refl _ | (simp; done) | (simp; omega) | omega))) | ((with_reducible apply bl_setCell); (focus (first | exact Nat.le_refl _ | (simp; done) | (simp; omega) | omega))) | ((with_reducible apply up_tr); assumption)))⟩ (fun wS hSS => ?_)
  have ⟨hS1, hS2, hS3, hS4, hS5, hSB⟩ := hSS
  refine wpAnyU_pure (i := 0) (d := (some 11)) (v := ?_) rfl rfl (by kernel_rfl) (fun _ _ _ h => h) (fun _ _ h hu => ⟨(h.1).up hu, (h.2.1).up hu, (h.2.2.1).up hu, hu.cell (h.2.2.2.1), hu.cell (h.2.2.2.2.1), below_up (h.2.2.2.2.2) hu⟩) (Or.inl ⟨by rfl, fun w' _ => yu_value ?_⟩) ?_
  rotate_left
  · (go_simp; (try exact rfl))
  try simp only [Act.put, List.setIfInBounds_toArray, List.set_cons_zero, List.set_cons_succ]
  refine wpAnyU_pure (i := 1) (d := (some 12)) (v := ?_) rfl rfl (by kernel_rfl) (fun _ _ _ h => h) (fun _ _ h hu => ⟨(h.1).up hu, (h.2.1).up hu, (h.2.2.1).up hu, hu.cell (h.2.2.2.1), hu.cell (h.2.2.2.2.1), below_up (h.2.2.2.2.2) hu⟩) (Or.inl ⟨by rfl, fun w' _ => yu_value ?_⟩) ?_
  rotate_left
  · (go_simp; (try exact rfl))
  try simp only [Act.put, List.setIfInBounds_toArray, List.set_cons_zero, List.set_cons_succ]
  refine wpAnyU_pure (i := 2) (d := (some 13)) (v := ?_) rfl rfl (by kernel_rfl) (fun _ _ _ h => h) (fun _ _ h hu => ⟨(h.1).up hu, (h.2.1).up hu, (h.2.2.1).up hu, hu.cell (h.2.2.2.1), hu.cell (h.2.2.2.2.1), below_up (h.2.2.2.2.2) hu⟩) (Or.inl ⟨by rfl, fun w' _ => yu_value ?_⟩) ?_
  rotate_left
  · (go_simp; (try exact rfl))
  try simp only [Act.put, List.setIfInBounds_toArray, List.set_cons_zero, List.set_cons_succ]
  refine wpAnyU_pure (i := 3) (d := (some 14)) (v := ?_) rfl rfl (by kernel_rfl) (fun _ _ _ h => h) (fun _ _ h hu => ⟨(h.1).up hu, (h.2.1).up hu, (h.2.2.1).up hu, hu.cell (h.2.2.2.1), hu.cell (h.2.2.2.2.1), below_up (h.2.2.2.2.2) hu⟩) (Or.inl ⟨by rfl, fun w' _ => yu_value ?_⟩) ?_
  rotate_left
  · (go_simp; (try exact rfl))
  try simp only [Act.put, List.setIfInBounds_toArray, List.set_cons_zero, List.set_cons_succ]
  refine wpAnyU_pure (i := 4) (d := (some 15)) (v := ?_) rfl rfl (by kernel_rfl) (fun _ _ _ h => h) (fun _ _ h hu => ⟨(h.1).up hu, (h.2.1).up hu, (h.2.2.1).up hu, hu.cell (h.2.2.2.1), hu.cell (h.2.2.2.2.1), below_up (h.2.2.2.2.2) hu⟩) (Or.inl ⟨by rfl, fun w' _ => yu_value ?_⟩) ?_
  rotate_left
  · (go_simp; (try exact rfl))
  try simp only [Act.put, List.setIfInBounds_toArray, List.set_cons_zero, List.set_cons_succ]
  refine wpAnyU_pure (i := 5) (d := (some 16)) (v := ?_) rfl rfl (by kernel_rfl) (fun _ _ _ h => h) (fun _ _ h hu => ⟨(h.1).up hu, (h.2.1).up hu, (h.2.2.1).up hu, hu.cell (h.2.2.2.1), hu.cell (h.2.2.2.2.1), below_up (h.2.2.2.2.2) hu⟩) (Or.inl ⟨by rfl, fun w' _ => yu_value ?_⟩) ?_
  rotate_left
  · (go_simp; (try exact rfl))
  try simp only [Act.put, List.setIfInBounds_toArray, List.set_cons_zero, List.set_cons_succ]
  refine wpAnyU_pure (i := 6) (d := (some 17)) (v := ?_) rfl rfl (by kernel_rfl) (fun _ _ _ h => h) (fun _ _ h hu => ⟨(h.1).up hu, (h.2.1).up hu, (h.2.2.1).up hu, hu.cell (h.2.2.2.1), hu.cell (h.2.2.2.2.1), below_up (h.2.2.2.2.2) hu⟩) (Or.inl ⟨by rfl, fun w' _ => yu_value ?_⟩) ?_
  rotate_left
  · (go_simp; (try exact rfl))
  try simp only [Act.put, List.setIfInBounds_toArray, List.set_cons_zero, List.set_cons_succ]
  refine wpAnyU_take (i := 7) (d := (some 18)) (v := ?_) rfl rfl (by kernel_rfl) (fun _ _ _ h => h) (fun _ _ h hu => ⟨(h.1).up hu, (h.2.1).up hu, (h.2.2.1).up hu, hu.cell (h.2.2.2.1), hu.cell (h.2.2.2.2.1), below_up (h.2.2.2.2.2) hu⟩) hSS (Or.inl ⟨by rfl, fun w' hSw => yu_value ?_⟩) ?_
  rotate_left
  · ((try dsimp only at hSw); (try obtain ⟨_, _, _, _, _, _⟩ := hSw); go_simp; (try exact rfl))
  try simp only [Act.put, List.setIfInBounds_toArray, List.set_cons_zero, List.set_cons_succ]
  refine wpAnyU_pure (i := 8) (d := (some 19)) (v := ?_) rfl rfl (by kernel_rfl) (fun _ _ _ h => h) (fun _ _ h hu => ⟨(h.1).up hu, (h.2.1).up hu, (h.2.2.1).up hu, hu.cell (h.2.2.2.1), hu.cell (h.2.2.2.2.1), below_up (h.2.2.2.2.2) hu⟩) (Or.inl ⟨by rfl, fun w' _ => yu_value ?_⟩) ?_
  rotate_left
  · (go_simp; (try exact rfl))
  try simp only [Act.put, List.setIfInBounds_toArray, List.set_cons_zero, List.set_cons_succ]
  refine wpAnyU_pure (i := 9) (d := (some 20)) (v := ?_) rfl rfl (by kernel_rfl) (fun _ _ _ h => h) (fun _ _ h hu => ⟨(h.1).up hu, (h.2.1).up hu, (h.2.2.1).up hu, hu.cell (h.2.2.2.1), hu.cell (h.2.2.2.2.1), below_up (h.2.2.2.2.2) hu⟩) (Or.inl ⟨by rfl, fun w' _ => yu_value ?_⟩) ?_
  rotate_left
  · (go_simp; (try exact rfl))
  try simp only [Act.put, List.setIfInBounds_toArray, List.set_cons_zero, List.set_cons_succ]
  refine wpAnyU_pure (i := 10) (d := (some 21)) (v := ?_) rfl rfl (by kernel_rfl) (fun _ _ _ h => h) (fun _ _ h hu => ⟨(h.1).up hu, (h.2.1).up hu, (h.2.2.1).up hu, hu.cell (h.2.2.2.1), hu.cell (h.2.2.2.2.1), below_up (h.2.2.2.2.2) hu⟩) (Or.inl ⟨by rfl, fun w' _ => yu_value ?_⟩) ?_
  rotate_left
  · (go_simp; (try exact rfl))
  try simp only [Act.put, List.setIfInBounds_toArray, List.set_cons_zero, List.set_cons_succ]
  refine wpAnyU_take (i := 11) (d := (some 22)) (v := ?_) rfl rfl (by kernel_rfl) (fun _ _ _ h => h) (fun _ _ h hu => ⟨(h.1).up hu, (h.2.1).up hu, (h.2.2.1).up hu, hu.cell (h.2.2.2.1), hu.cell (h.2.2.2.2.1), below_up (h.2.2.2.2.2) hu⟩) hSS (Or.inl ⟨by rfl, fun w' hSw => yu_value ?_⟩) ?_
  rotate_left
  · ((try dsimp only at hSw); (try obtain ⟨_, _, _, _, _, _⟩ := hSw); go_simp; (try exact rfl))
  try simp only [Act.put, List.setIfInBounds_toArray, List.set_cons_zero, List.set_cons_succ]
  refine wpAnyU_one (i := 12) rfl (by kernel_rfl) (by rfl) fun w1 hw1 => ?_
  go_simp
  refine ⟨fun h1 h2 h3 h4 h5 h6 => ⟨h1.up (Up.alloc _ _), h2.up (Up.alloc _ _), h3.up (Up.alloc _ _), (Up.alloc _ _).cell h4, (Up.alloc _ _).cell h5, below_up h6 (Up.alloc _ _)⟩, ?_⟩
  have gO : Row (w1.alloc (.cells #[.int .u64 1] 52)) w1.heap.size 52 1 (fun _ => 1) := row_one (X := 1) rfl
  have gSO : Up wS (w1.alloc (.cells #[.int .u64 1] 52)) := hw1.trans (Up.alloc _ _)
  have gU : Up w (w1.alloc (.cells #[.int .u64 1] 52)) := below_up hSB gSO
  generalize w1.alloc (.cells #[.int .u64 1] 52) = wO at *
  generalize w1.heap.size = bO at *
  refine wpAnyU_callE (i := 13) (d := (some 24)) rfl rfl (by kernel_rfl) (by rfl) (fun _ _ h hu => ⟨(h.1).up hu, (h.2.1).up hu, (h.2.2.1).up hu, hu.cell (h.2.2.2.1), hu.cell (h.2.2.2.2.1), below_up (h.2.2.2.2.2) hu⟩) (fun w' => by go_simp) (fun w' hw' => (left_hb bO w' (fun w'' hu => ((gO.up hw').up hu).cell 0 (by decide)) (gO.up hw').lt)) fun vL wL hwL hRL => ?_
  try simp only [Act.put, List.setIfInBounds_toArray, List.set_cons_zero, List.set_cons_succ]
  refine wpAnyU_callE (i := 14) (d := (some 25)) rfl rfl (by kernel_rfl) (by rfl) (fun _ _ h hu => ⟨(h.1).up hu, (h.2.1).up hu, (h.2.2.1).up hu, hu.cell (h.2.2.2.1), hu.cell (h.2.2.2.2.1), below_up (h.2.2.2.2.2) hu⟩) (fun w' => by go_simp) (fun w' hw' => (callE_of (cmp_am (HA.out.up ((gU.trans hwL).trans hw')) (hRL.up hw') (by omega) (by omega)))) fun vC wC hwC hRC => ?_
  try simp only [Act.put, List.setIfInBounds_toArray, List.set_cons_zero, List.set_cons_succ]
  obtain rfl := hRC
  have d3 := HO.out
  generalize ordZ x hb = o at *
  refine wpAnyU_pure (i := 15) (d := (some 26)) (v := ?_) rfl rfl (by kernel_rfl) (fun _ _ _ h => h) (fun _ _ h hu => ⟨(h.1).up hu, (h.2.1).up hu, (h.2.2.1).up hu, hu.cell (h.2.2.2.1), hu.cell (h.2.2.2.2.1), below_up (h.2.2.2.2.2) hu⟩) (Or.inl ⟨by rfl, fun w' _ => yu_value ?_⟩) ?_
  rotate_left
  · (go_simp; (try exact rfl))
  try simp only [Act.put, List.setIfInBounds_toArray, List.set_cons_zero, List.set_cons_succ]
  refine wpAnyU_pure (i := 16) (d := (some 27)) (v := ?_) rfl rfl (by kernel_rfl) (fun _ _ _ h => h) (fun _ _ h hu => ⟨(h.1).up hu, (h.2.1).up hu, (h.2.2.1).up hu, hu.cell (h.2.2.2.1), hu.cell (h.2.2.2.2.1), below_up (h.2.2.2.2.2) hu⟩) (Or.inl ⟨by rfl, fun w' _ => yu_value ?_⟩) ?_
  rotate_left
  · (go_simp; (try exact rfl))
  try simp only [Act.put, List.setIfInBounds_toArray, List.set_cons_zero, List.set_cons_succ]
  refine wpAnyU_pure (i := 17) (d := (some 28)) (v := ?_) rfl rfl (by kernel_rfl) (fun _ _ _ h => h) (fun _ _ h hu => ⟨(h.1).up hu, (h.2.1).up hu, (h.2.2.1).up hu, hu.cell (h.2.2.2.1), hu.cell (h.2.2.2.2.1), below_up (h.2.2.2.2.2) hu⟩) (Or.inl ⟨by rfl, fun w' _ => yu_value ?_⟩) ?_
  rotate_left
  · (go_simp; (try exact rfl))
  try simp only [Act.put, List.setIfInBounds_toArray, List.set_cons_zero, List.set_cons_succ]
  refine wpAnyU_pure (i := 18) (d := (some 29)) (v := ?_) rfl rfl (by kernel_rfl) (fun _ _ _ h => h) (fun _ _ h hu => ⟨(h.1).up hu, (h.2.1).up hu, (h.2.2.1).up hu, hu.cell (h.2.2.2.1), hu.cell (h.2.2.2.2.1), below_up (h.2.2.2.2.2) hu⟩) (Or.inl ⟨by rfl, fun w' _ => yu_value ?_⟩) ?_
  rotate_left
  · (go_simp; (try exact rfl))
  try simp only [Act.put, List.setIfInBounds_toArray, List.set_cons_zero, List.set_cons_succ]
  refine wpAnyU_done (by kernel_rfl) (fun wF huE => ?_) _
  have hE := ((gSO.trans hwL).trans hwC).trans huE
  have gZ := hS1.up hE
  have gW := hS2.up hE
  have gB := below_up hSB hE
  clear huS hS1 hS2 hS3 hS4 hS5 hSB hSS hE gSO gU hwL hwC huE gO
  go_wp2_with (first | ((with_reducible apply ld_rowP undW infoW); exact rfl; exact rfl; focus (repeat (first | assumption | ((with_reducible apply row_newc); (focus (first | rfl | (simp; done)))) | ((with_reducible apply row_newz); (focus (first | rfl | (simp; done)))) | (with_reducible apply row_same) | ((with_reducible apply row_else); (focus (first | (simp; done) | (simp; omega) | omega))) | (with_reducible apply row_alloc) | (with_reducible apply row_drew) | (with_reducible apply row_drewN) | ((with_reducible apply row_up); assumption)))) | ((with_reducible apply st_rowP infoW); exact rfl; exact rfl; focus (repeat (first | assumption | ((with_reducible apply row_newc); (focus (first | rfl | (simp; done)))) | ((with_reducible apply row_newz); (focus (first | rfl | (simp; done)))) | (with_reducible apply row_same) | ((with_reducible apply row_else); (focus (first | (simp; done) | (simp; omega) | omega))) | (with_reducible apply row_alloc) | (with_reducible apply row_drew) | (with_reducible apply row_drewN) | ((with_reducible apply row_up); assumption)))) | ((with_reducible apply st_rowZ infoW); exact rfl; exact rfl; focus (repeat (first | assumption | ((with_reducible apply row_newc); (focus (first | rfl | (simp; done)))) | ((with_reducible apply row_newz); (focus (first | rfl | (simp; done)))) | (with_reducible apply row_same) | ((with_reducible apply row_else); (focus (first | (simp; done) | (simp; omega) | omega))) | (with_reducible apply row_alloc) | (with_reducible apply row_drew) | (with_reducible apply row_drewN) | ((with_reducible apply row_up); assumption)))))
  exact bodyPost_ret (res2 rfl undW infoW _ _ rfl (by (repeat (first | assumption | ((with_reducible apply row_newc); (focus (first | rfl | (simp; done)))) | ((with_reducible apply row_newz); (focus (first | rfl | (simp; done)))) | (with_reducible apply row_same) | ((with_reducible apply row_else); (focus (first | (simp; done) | (simp; omega) | omega))) | (with_reducible apply row_alloc) | (with_reducible apply row_drew) | (with_reducible apply row_drewN) | ((with_reducible apply row_up); assumption))))) rfl ⟨rfl, (by repeat (first | assumption | (with_reducible apply Up.of) | (with_reducible exact Below.refl _ _) | (with_reducible exact Up.refl _) | ((with_reducible apply bl_setRow); (focus (first | exact Nat.le_refl _ | (simp; done) | (simp; omega) | omega))) | (with_reducible apply below_drewN) | (with_reducible apply Below.drew) | ((with_reducible apply bl_alloc); (focus (first | exact Nat.le_refl _ | (simp; done) | (simp; omega) | omega))) | ((with_reducible apply bl_setCell); (focus (first | exact Nat.le_refl _ | (simp; done) | (simp; omega) | omega))) | ((with_reducible apply up_tr); assumption)))⟩
set_option maxHeartbeats 4000000 in
theorem to_least {z : Int} {v : Value} {w : World} (h : Big w v z) (h1 : z = -(hb : Int)) :
    Calls Tryz.prog 64 #[v] w fun e w' => e = .returned (opt z) ∧ Up w w' := by
  have hbp := hb_pos
  have hb16 := bp16
  have hz : InR z := InR.mk' (by omega)
  rw [opt_yes hz]
  obtain ⟨a, c, rfl, hA⟩ := h
  have hn16 : nl z.natAbs ≤ 16 := nl_le (by omega)
  have hnh : nl hb ≤ 16 := nl_le (by omega)
  have hsz := fun w' (h : Up w w') => size_am (hA.up h) (by omega)
  have hbl := blen_mid (x := z.natAbs) (by omega) (by omega)
  have hen := enc_neg hz
  have hp : decide (z < 0) = true := decide_eq_true (by omega)
  have ho : ((ordZ z.natAbs hb : Int) != 0) = false := by
    rw [show z.natAbs = hb by omega]
    unfold ordZ; simp
  obtain ⟨x, hx⟩ : ∃ x, z.natAbs = x := ⟨_, rfl⟩
  rw [hx] at hn16 hsz hbl hA ho hen
  rw [hp, hx]
  rw [hbl] at hsz
  have d1 : decide ((1024 : Int) < (1024 : Nat)) = false := decide_eq_false (by omega)
  have d2 : (((1024 : Nat) : Int) == 1024) = true := by simp
  have HSZ := hid hsz
  have HO := hid ho
  have HA := hid hA
  have HE := hid (show enc z = bp 16 - x ∧ 0 < x by have := (hen (by omega)).1; omega)
  have HR := hid (show x < bp 16 by omega)
  clear hsz ho hA hen
  generalize 1024 = n at HSZ d1 d2
  clear hbp h1 hbl hp hx hb16 hz
  unfold wideV
  go_enter Tryz.func64, Tryz.ntmps64
  go_wp2_with (first | (go_at_call 91; (with_reducible refine (HSZ.out _ (by repeat (first | assumption | (with_reducible apply Up.of) | (with_reducible exact Below.refl _ _) | (with_reducible exact Up.refl _) | ((with_reducible apply bl_setRow); (focus (first | exact Nat.le_refl _ | (simp; done) | (simp; omega) | omega))) | (with_reducible apply below_drewN) | (with_reducible apply Below.drew) | ((with_reducible apply bl_alloc); (focus (first | exact Nat.le_refl _ | (simp; done) | (simp; omega) | omega))) | ((with_reducible apply bl_setCell); (focus (first | exact Nat.le_refl _ | (simp; done) | (simp; omega) | omega))) | ((with_reducible apply up_tr); assumption)))).mono ?_); rintro e wQ ⟨rfl, huS⟩))
  have hszS := huS.size
  have hgt : w.heap.size + 1 < wQ.heap.size := by simp at hszS; omega
  refine wp_region_upS (S := (fun wq => Row wq (w.heap.size + 1) 54 16 (fun _ => 0) ∧ Row wq wQ.heap.size 54 16 (fun _ => 0) ∧ Blk wq w.heap.size 61 #[.bool true, .slice a (nl x) c] ∧ wq.cell? ⟨w.heap.size, 0, none⟩ = some (.bool true) ∧ wq.cell? ⟨w.heap.size, 1, none⟩ = some (.slice a (nl x) c) ∧ Below w.heap.size w wq)) (req := (fun _ => true)) (by kernel_rfl) (fun _ _ h hu => ⟨(h.1).up hu, (h.2.1).up hu, (h.2.2.1).up hu, hu.cell (h.2.2.2.1), hu.cell (h.2.2.2.2.1), below_up (h.2.2.2.2.2) hu⟩) ⟨(by (repeat (first | assumption | ((with_reducible apply row_newc); (focus (first | rfl | (simp; done)))) | ((with_reducible apply row_newz); (focus (first | rfl | (simp; done)))) | (with_reducible apply row_same) | ((with_reducible apply row_else); (focus (first | (simp; done) | (simp; omega) | omega))) | (with_reducible apply row_alloc) | (with_reducible apply row_drew) | (with_reducible apply row_drewN) | ((with_reducible apply row_up); assumption)))), (by (repeat (first | assumption | ((with_reducible apply row_newc); (focus (first | rfl | (simp; done)))) | ((with_reducible apply row_newz); (focus (first | rfl | (simp; done)))) | (with_reducible apply row_same) | ((with_reducible apply row_else); (focus (first | (simp; done) | (simp; omega) | omega))) | (with_reducible apply row_alloc) | (with_reducible apply row_drew) | (with_reducible apply row_drewN) | ((with_reducible apply row_up); assumption)))), (by (repeat (first | assumption | ((with_reducible apply blk_new); (focus (first | rfl | (simp; done)))) | (with_reducible apply blk_alloc) | (with_reducible apply blk_drew) | (with_reducible apply blk_drewN) | ((with_reducible apply blk_up); assumption) | (with_reducible apply blk_same) | ((with_reducible apply blk_else); (focus (first | (simp; done) | (simp; omega) | omega)))))), (by first | assumption | (apply Blk.cell; (focus (repeat (first | assumption | ((with_reducible apply blk_new); (focus (first | rfl | (simp; done)))) | (with_reducible apply blk_alloc) | (with_reducible apply blk_drew) | (with_reducible apply blk_drewN) | ((with_reducible apply blk_up); assumption) | (with_reducible apply blk_same) | ((with_reducible apply blk_else); (focus (first | (simp; done) | (simp; omega) | omega)))))); exact rfl)), (by first | assumption | (apply Blk.cell; (focus (repeat (first | assumption | ((with_reducible apply blk_new); (focus (first | rfl | (simp; done)))) | (with_reducible apply blk_alloc) | (with_reducible apply blk_drew) | (with_reducible apply blk_drewN) | ((with_reducible apply blk_up); assumption) | (with_reducible apply blk_same) | ((with_reducible apply blk_else); (focus (first | (simp; done) | (simp; omega) | omega)))))); exact rfl)), (by repeat (first | assumption | (with_reducible apply Up.of) | (with_reducible exact Below.refl _ _) | (with_reducible exact Up.refl _) | ((with_reducible apply bl_setRow); (focus (first | exact Nat.le_refl _ | (simp; done) | (simp; omega) | omega))) | (with_reducible apply below_drewN) | (with_reducible apply Below.drew) | ((with_reducible apply bl_alloc); (focus (first | exact Nat.le_refl _ | (simp; done) | (simp; omega) | omega))) | ((with_reducible apply bl_setCell); (focus (first | exact Nat.le_refl _ | (simp; done) | (simp; omega) | omega))) | ((with_reducible apply up_tr); assumption)))⟩ (fun wS hSS => ?_)
  have ⟨hS1, hS2, hS3, hS4, hS5, hSB⟩ := hSS
  refine wpAnyU_pure (i := 0) (d := (some 11)) (v := ?_) rfl rfl (by kernel_rfl) (fun _ _ _ h => h) (fun _ _ h hu => ⟨(h.1).up hu, (h.2.1).up hu, (h.2.2.1).up hu, hu.cell (h.2.2.2.1), hu.cell (h.2.2.2.2.1), below_up (h.2.2.2.2.2) hu⟩) (Or.inl ⟨by rfl, fun w' _ => yu_value ?_⟩) ?_
  rotate_left
  · (go_simp; (try exact rfl))
  try simp only [Act.put, List.setIfInBounds_toArray, List.set_cons_zero, List.set_cons_succ]
  refine wpAnyU_pure (i := 1) (d := (some 12)) (v := ?_) rfl rfl (by kernel_rfl) (fun _ _ _ h => h) (fun _ _ h hu => ⟨(h.1).up hu, (h.2.1).up hu, (h.2.2.1).up hu, hu.cell (h.2.2.2.1), hu.cell (h.2.2.2.2.1), below_up (h.2.2.2.2.2) hu⟩) (Or.inl ⟨by rfl, fun w' _ => yu_value ?_⟩) ?_
  rotate_left
  · (go_simp; (try exact rfl))
  try simp only [Act.put, List.setIfInBounds_toArray, List.set_cons_zero, List.set_cons_succ]
  refine wpAnyU_pure (i := 2) (d := (some 13)) (v := ?_) rfl rfl (by kernel_rfl) (fun _ _ _ h => h) (fun _ _ h hu => ⟨(h.1).up hu, (h.2.1).up hu, (h.2.2.1).up hu, hu.cell (h.2.2.2.1), hu.cell (h.2.2.2.2.1), below_up (h.2.2.2.2.2) hu⟩) (Or.inl ⟨by rfl, fun w' _ => yu_value ?_⟩) ?_
  rotate_left
  · (go_simp; (try exact rfl))
  try simp only [Act.put, List.setIfInBounds_toArray, List.set_cons_zero, List.set_cons_succ]
  refine wpAnyU_pure (i := 3) (d := (some 14)) (v := ?_) rfl rfl (by kernel_rfl) (fun _ _ _ h => h) (fun _ _ h hu => ⟨(h.1).up hu, (h.2.1).up hu, (h.2.2.1).up hu, hu.cell (h.2.2.2.1), hu.cell (h.2.2.2.2.1), below_up (h.2.2.2.2.2) hu⟩) (Or.inl ⟨by rfl, fun w' _ => yu_value ?_⟩) ?_
  rotate_left
  · (go_simp; (try exact rfl))
  try simp only [Act.put, List.setIfInBounds_toArray, List.set_cons_zero, List.set_cons_succ]
  refine wpAnyU_pure (i := 4) (d := (some 15)) (v := ?_) rfl rfl (by kernel_rfl) (fun _ _ _ h => h) (fun _ _ h hu => ⟨(h.1).up hu, (h.2.1).up hu, (h.2.2.1).up hu, hu.cell (h.2.2.2.1), hu.cell (h.2.2.2.2.1), below_up (h.2.2.2.2.2) hu⟩) (Or.inl ⟨by rfl, fun w' _ => yu_value ?_⟩) ?_
  rotate_left
  · (go_simp; (try exact rfl))
  try simp only [Act.put, List.setIfInBounds_toArray, List.set_cons_zero, List.set_cons_succ]
  refine wpAnyU_pure (i := 5) (d := (some 16)) (v := ?_) rfl rfl (by kernel_rfl) (fun _ _ _ h => h) (fun _ _ h hu => ⟨(h.1).up hu, (h.2.1).up hu, (h.2.2.1).up hu, hu.cell (h.2.2.2.1), hu.cell (h.2.2.2.2.1), below_up (h.2.2.2.2.2) hu⟩) (Or.inl ⟨by rfl, fun w' _ => yu_value ?_⟩) ?_
  rotate_left
  · (go_simp; (try exact rfl))
  try simp only [Act.put, List.setIfInBounds_toArray, List.set_cons_zero, List.set_cons_succ]
  refine wpAnyU_pure (i := 6) (d := (some 17)) (v := ?_) rfl rfl (by kernel_rfl) (fun _ _ _ h => h) (fun _ _ h hu => ⟨(h.1).up hu, (h.2.1).up hu, (h.2.2.1).up hu, hu.cell (h.2.2.2.1), hu.cell (h.2.2.2.2.1), below_up (h.2.2.2.2.2) hu⟩) (Or.inl ⟨by rfl, fun w' _ => yu_value ?_⟩) ?_
  rotate_left
  · (go_simp; (try exact rfl))
  try simp only [Act.put, List.setIfInBounds_toArray, List.set_cons_zero, List.set_cons_succ]
  refine wpAnyU_take (i := 7) (d := (some 18)) (v := ?_) rfl rfl (by kernel_rfl) (fun _ _ _ h => h) (fun _ _ h hu => ⟨(h.1).up hu, (h.2.1).up hu, (h.2.2.1).up hu, hu.cell (h.2.2.2.1), hu.cell (h.2.2.2.2.1), below_up (h.2.2.2.2.2) hu⟩) hSS (Or.inl ⟨by rfl, fun w' hSw => yu_value ?_⟩) ?_
  rotate_left
  · ((try dsimp only at hSw); (try obtain ⟨_, _, _, _, _, _⟩ := hSw); go_simp; (try exact rfl))
  try simp only [Act.put, List.setIfInBounds_toArray, List.set_cons_zero, List.set_cons_succ]
  refine wpAnyU_pure (i := 8) (d := (some 19)) (v := ?_) rfl rfl (by kernel_rfl) (fun _ _ _ h => h) (fun _ _ h hu => ⟨(h.1).up hu, (h.2.1).up hu, (h.2.2.1).up hu, hu.cell (h.2.2.2.1), hu.cell (h.2.2.2.2.1), below_up (h.2.2.2.2.2) hu⟩) (Or.inl ⟨by rfl, fun w' _ => yu_value ?_⟩) ?_
  rotate_left
  · (go_simp; (try exact rfl))
  try simp only [Act.put, List.setIfInBounds_toArray, List.set_cons_zero, List.set_cons_succ]
  refine wpAnyU_pure (i := 9) (d := (some 20)) (v := ?_) rfl rfl (by kernel_rfl) (fun _ _ _ h => h) (fun _ _ h hu => ⟨(h.1).up hu, (h.2.1).up hu, (h.2.2.1).up hu, hu.cell (h.2.2.2.1), hu.cell (h.2.2.2.2.1), below_up (h.2.2.2.2.2) hu⟩) (Or.inl ⟨by rfl, fun w' _ => yu_value ?_⟩) ?_
  rotate_left
  · (go_simp; (try exact rfl))
  try simp only [Act.put, List.setIfInBounds_toArray, List.set_cons_zero, List.set_cons_succ]
  refine wpAnyU_pure (i := 10) (d := (some 21)) (v := ?_) rfl rfl (by kernel_rfl) (fun _ _ _ h => h) (fun _ _ h hu => ⟨(h.1).up hu, (h.2.1).up hu, (h.2.2.1).up hu, hu.cell (h.2.2.2.1), hu.cell (h.2.2.2.2.1), below_up (h.2.2.2.2.2) hu⟩) (Or.inl ⟨by rfl, fun w' _ => yu_value ?_⟩) ?_
  rotate_left
  · (go_simp; (try exact rfl))
  try simp only [Act.put, List.setIfInBounds_toArray, List.set_cons_zero, List.set_cons_succ]
  refine wpAnyU_take (i := 11) (d := (some 22)) (v := ?_) rfl rfl (by kernel_rfl) (fun _ _ _ h => h) (fun _ _ h hu => ⟨(h.1).up hu, (h.2.1).up hu, (h.2.2.1).up hu, hu.cell (h.2.2.2.1), hu.cell (h.2.2.2.2.1), below_up (h.2.2.2.2.2) hu⟩) hSS (Or.inl ⟨by rfl, fun w' hSw => yu_value ?_⟩) ?_
  rotate_left
  · ((try dsimp only at hSw); (try obtain ⟨_, _, _, _, _, _⟩ := hSw); go_simp; (try exact rfl))
  try simp only [Act.put, List.setIfInBounds_toArray, List.set_cons_zero, List.set_cons_succ]
  refine wpAnyU_one (i := 12) rfl (by kernel_rfl) (by rfl) fun w1 hw1 => ?_
  go_simp
  refine ⟨fun h1 h2 h3 h4 h5 h6 => ⟨h1.up (Up.alloc _ _), h2.up (Up.alloc _ _), h3.up (Up.alloc _ _), (Up.alloc _ _).cell h4, (Up.alloc _ _).cell h5, below_up h6 (Up.alloc _ _)⟩, ?_⟩
  have gO : Row (w1.alloc (.cells #[.int .u64 1] 52)) w1.heap.size 52 1 (fun _ => 1) := row_one (X := 1) rfl
  have gSO : Up wS (w1.alloc (.cells #[.int .u64 1] 52)) := hw1.trans (Up.alloc _ _)
  have gU : Up w (w1.alloc (.cells #[.int .u64 1] 52)) := below_up hSB gSO
  generalize w1.alloc (.cells #[.int .u64 1] 52) = wO at *
  generalize w1.heap.size = bO at *
  refine wpAnyU_callE (i := 13) (d := (some 24)) rfl rfl (by kernel_rfl) (by rfl) (fun _ _ h hu => ⟨(h.1).up hu, (h.2.1).up hu, (h.2.2.1).up hu, hu.cell (h.2.2.2.1), hu.cell (h.2.2.2.2.1), below_up (h.2.2.2.2.2) hu⟩) (fun w' => by go_simp) (fun w' hw' => (left_hb bO w' (fun w'' hu => ((gO.up hw').up hu).cell 0 (by decide)) (gO.up hw').lt)) fun vL wL hwL hRL => ?_
  try simp only [Act.put, List.setIfInBounds_toArray, List.set_cons_zero, List.set_cons_succ]
  refine wpAnyU_callE (i := 14) (d := (some 25)) rfl rfl (by kernel_rfl) (by rfl) (fun _ _ h hu => ⟨(h.1).up hu, (h.2.1).up hu, (h.2.2.1).up hu, hu.cell (h.2.2.2.1), hu.cell (h.2.2.2.2.1), below_up (h.2.2.2.2.2) hu⟩) (fun w' => by go_simp) (fun w' hw' => (callE_of (cmp_am (HA.out.up ((gU.trans hwL).trans hw')) (hRL.up hw') (by omega) (by omega)))) fun vC wC hwC hRC => ?_
  try simp only [Act.put, List.setIfInBounds_toArray, List.set_cons_zero, List.set_cons_succ]
  obtain rfl := hRC
  have d3 := HO.out
  generalize ordZ x hb = o at *
  refine wpAnyU_pure (i := 15) (d := (some 26)) (v := ?_) rfl rfl (by kernel_rfl) (fun _ _ _ h => h) (fun _ _ h hu => ⟨(h.1).up hu, (h.2.1).up hu, (h.2.2.1).up hu, hu.cell (h.2.2.2.1), hu.cell (h.2.2.2.2.1), below_up (h.2.2.2.2.2) hu⟩) (Or.inl ⟨by rfl, fun w' _ => yu_value ?_⟩) ?_
  rotate_left
  · (go_simp; (try exact rfl))
  try simp only [Act.put, List.setIfInBounds_toArray, List.set_cons_zero, List.set_cons_succ]
  refine wpAnyU_pure (i := 16) (d := (some 27)) (v := ?_) rfl rfl (by kernel_rfl) (fun _ _ _ h => h) (fun _ _ h hu => ⟨(h.1).up hu, (h.2.1).up hu, (h.2.2.1).up hu, hu.cell (h.2.2.2.1), hu.cell (h.2.2.2.2.1), below_up (h.2.2.2.2.2) hu⟩) (Or.inl ⟨by rfl, fun w' _ => yu_value ?_⟩) ?_
  rotate_left
  · (go_simp; (try exact rfl))
  try simp only [Act.put, List.setIfInBounds_toArray, List.set_cons_zero, List.set_cons_succ]
  refine wpAnyU_pure (i := 17) (d := (some 28)) (v := ?_) rfl rfl (by kernel_rfl) (fun _ _ _ h => h) (fun _ _ h hu => ⟨(h.1).up hu, (h.2.1).up hu, (h.2.2.1).up hu, hu.cell (h.2.2.2.1), hu.cell (h.2.2.2.2.1), below_up (h.2.2.2.2.2) hu⟩) (Or.inl ⟨by rfl, fun w' _ => yu_value ?_⟩) ?_
  rotate_left
  · (go_simp; (try exact rfl))
  try simp only [Act.put, List.setIfInBounds_toArray, List.set_cons_zero, List.set_cons_succ]
  refine wpAnyU_pure (i := 18) (d := (some 29)) (v := ?_) rfl rfl (by kernel_rfl) (fun _ _ _ h => h) (fun _ _ h hu => ⟨(h.1).up hu, (h.2.1).up hu, (h.2.2.1).up hu, hu.cell (h.2.2.2.1), hu.cell (h.2.2.2.2.1), below_up (h.2.2.2.2.2) hu⟩) (Or.inl ⟨by rfl, fun w' _ => yu_value ?_⟩) ?_
  rotate_left
  · (go_simp; (try exact rfl))
  try simp only [Act.put, List.setIfInBounds_toArray, List.set_cons_zero, List.set_cons_succ]
  refine wpAnyU_done (by kernel_rfl) (fun wF huE => ?_) _
  have hE := ((gSO.trans hwL).trans hwC).trans huE
  have gZ := hS1.up hE
  have gW := hS2.up hE
  have gBx := hS3.up hE
  have gB := below_up hSB hE
  have hA := HA.out
  clear huS hS1 hS2 hS3 hS4 hS5 hSB hSS hE gSO gU hwL hwC huE gO
  go_wp2
  refine wp_region_upS (S := (fun wq => Row wq (w.heap.size + 1) 54 16 (fun _ => 0) ∧ Row wq wQ.heap.size 54 16 (fun _ => 0) ∧ Blk wq w.heap.size 61 #[.bool true, .slice a (nl x) c] ∧ wq.cell? ⟨w.heap.size, 0, none⟩ = some (.bool true) ∧ wq.cell? ⟨w.heap.size, 1, none⟩ = some (.slice a (nl x) c) ∧ Below w.heap.size w wq)) (req := (fun j => j != 3)) (by kernel_rfl) (fun _ _ h hu => ⟨(h.1).up hu, (h.2.1).up hu, (h.2.2.1).up hu, hu.cell (h.2.2.2.1), hu.cell (h.2.2.2.2.1), below_up (h.2.2.2.2.2) hu⟩) ⟨(by (repeat (first | assumption | ((with_reducible apply row_newc); (focus (first | rfl | (simp; done)))) | ((with_reducible apply row_newz); (focus (first | rfl | (simp; done)))) | (with_reducible apply row_same) | ((with_reducible apply row_else); (focus (first | (simp; done) | (simp; omega) | omega))) | (with_reducible apply row_alloc) | (with_reducible apply row_drew) | (with_reducible apply row_drewN) | ((with_reducible apply row_up); assumption)))), (by (repeat (first | assumption | ((with_reducible apply row_newc); (focus (first | rfl | (simp; done)))) | ((with_reducible apply row_newz); (focus (first | rfl | (simp; done)))) | (with_reducible apply row_same) | ((with_reducible apply row_else); (focus (first | (simp; done) | (simp; omega) | omega))) | (with_reducible apply row_alloc) | (with_reducible apply row_drew) | (with_reducible apply row_drewN) | ((with_reducible apply row_up); assumption)))), (by (repeat (first | assumption | ((with_reducible apply blk_new); (focus (first | rfl | (simp; done)))) | (with_reducible apply blk_alloc) | (with_reducible apply blk_drew) | (with_reducible apply blk_drewN) | ((with_reducible apply blk_up); assumption) | (with_reducible apply blk_same) | ((with_reducible apply blk_else); (focus (first | (simp; done) | (simp; omega) | omega)))))), (by first | assumption | (apply Blk.cell; (focus (repeat (first | assumption | ((with_reducible apply blk_new); (focus (first | rfl | (simp; done)))) | (with_reducible apply blk_alloc) | (with_reducible apply blk_drew) | (with_reducible apply blk_drewN) | ((with_reducible apply blk_up); assumption) | (with_reducible apply blk_same) | ((with_reducible apply blk_else); (focus (first | (simp; done) | (simp; omega) | omega)))))); exact rfl)), (by first | assumption | (apply Blk.cell; (focus (repeat (first | assumption | ((with_reducible apply blk_new); (focus (first | rfl | (simp; done)))) | (with_reducible apply blk_alloc) | (with_reducible apply blk_drew) | (with_reducible apply blk_drewN) | ((with_reducible apply blk_up); assumption) | (with_reducible apply blk_same) | ((with_reducible apply blk_else); (focus (first | (simp; done) | (simp; omega) | omega)))))); exact rfl)), (by repeat (first | assumption | (with_reducible apply Up.of) | (with_reducible exact Below.refl _ _) | (with_reducible exact Up.refl _) | ((with_reducible apply bl_setRow); (focus (first | exact Nat.le_refl _ | (simp; done) | (simp; omega) | omega))) | (with_reducible apply below_drewN) | (with_reducible apply Below.drew) | ((with_reducible apply bl_alloc); (focus (first | exact Nat.le_refl _ | (simp; done) | (simp; omega) | omega))) | ((with_reducible apply bl_setCell); (focus (first | exact Nat.le_refl _ | (simp; done) | (simp; omega) | omega))) | ((with_reducible apply up_tr); assumption)))⟩ (fun wS hSS => ?_)
  have ⟨hS1, hS2, hS3, hS4, hS5, hSB⟩ := hSS
  refine wpAnyU_pure (i := 0) (d := (some 31)) (v := ?_) rfl rfl (by kernel_rfl) (fun _ _ _ h => h) (fun _ _ h hu => ⟨(h.1).up hu, (h.2.1).up hu, (h.2.2.1).up hu, hu.cell (h.2.2.2.1), hu.cell (h.2.2.2.2.1), below_up (h.2.2.2.2.2) hu⟩) (Or.inl ⟨by rfl, fun w' _ => yu_value ?_⟩) ?_
  rotate_left
  · (go_simp; (try exact rfl))
  try simp only [Act.put, List.setIfInBounds_toArray, List.set_cons_zero, List.set_cons_succ]
  refine wpAnyU_pure (i := 1) (d := (some 32)) (v := ?_) rfl rfl (by kernel_rfl) (fun _ _ _ h => h) (fun _ _ h hu => ⟨(h.1).up hu, (h.2.1).up hu, (h.2.2.1).up hu, hu.cell (h.2.2.2.1), hu.cell (h.2.2.2.2.1), below_up (h.2.2.2.2.2) hu⟩) (Or.inl ⟨by rfl, fun w' _ => yu_value ?_⟩) ?_
  rotate_left
  · (go_simp; (try exact rfl))
  try simp only [Act.put, List.setIfInBounds_toArray, List.set_cons_zero, List.set_cons_succ]
  refine wpAnyU_take (i := 2) (d := (some 33)) (v := ?_) rfl rfl (by kernel_rfl) (fun _ _ _ h => h) (fun _ _ h hu => ⟨(h.1).up hu, (h.2.1).up hu, (h.2.2.1).up hu, hu.cell (h.2.2.2.1), hu.cell (h.2.2.2.2.1), below_up (h.2.2.2.2.2) hu⟩) hSS (Or.inl ⟨by rfl, fun w' hSw => yu_value ?_⟩) ?_
  rotate_left
  · ((try dsimp only at hSw); (try obtain ⟨_, _, _, _, _, _⟩ := hSw); go_simp; (try exact rfl))
  try simp only [Act.put, List.setIfInBounds_toArray, List.set_cons_zero, List.set_cons_succ]
  refine wpAnyU_one (i := 3) rfl (by kernel_rfl) (by rfl) fun w1 hw1 => ?_
  refine wp_copy rfl rfl rfl rfl (hA.up (below_up hSB hw1)) hn16 (hS2.up hw1) fun w2 hR2 hb2 => ?_
  refine ⟨fun h => by simp at h, ?_⟩
  try simp only [Act.put, List.setIfInBounds_toArray]
  refine wpAnyU_done (by kernel_rfl) (fun wF huE => ?_) _
  have hle := hS2.lt
  have hsw := hw1.size
  have gR := hR2.up huE
  have gZ := (Row.belowU hb2 hgt (hS1.up hw1)).up huE
  have gK := (Blk.belowU hb2 (by omega) (hS3.up hw1)).up huE
  have gB : Below w.heap.size w wF := below_up (Below.trans (below_up hSB hw1) (Below.mono hb2 (by omega))) huE
  clear hS1 hS2 hS3 hS4 hS5 hSB hSS hw1 huE hR2 hb2
  have hc0 := gK.cell 0 rfl
  clear gK
  generalize wQ.heap.size = G at *
  go_wp2
  go_loopw [6, 7] (fun tc ti wr => ∃ (i cc : Nat) (S : Nat → Nat), i ≤ 16 ∧ tc = .int .u64 (cc : Nat) ∧ ti = .int .i64 (i : Nat) ∧ cc ≤ 1 ∧ (∀ j, j < 16 → S j < 18446744073709551616) ∧ sumL S i + cc * bp i + sumL (limb x) i = bp i ∧ (∀ j, i ≤ j → j < 16 → S j = limb x j) ∧
      Row wr (w.heap.size + 1) 54 16 (fun _ => 0) ∧ Row wr G 54 16 S ∧ Below w.heap.size w wr)
    (fun _ ti _ => 16 - (intOf ti).toNat)
  case atStart => exact ⟨0, 1, limb x, by omega, rfl, rfl, by omega, fun j _ => limb_lt x j, by simp [sumL_zero, bp_zero], fun _ _ _ => rfl, gZ, gR, gB⟩
  case round =>
    clear gZ gR gB
    obtain ⟨i, cc, S, hi, rfl, rfl, hcc, hSb, hsum, hrest, hZ, hS, hB⟩ := hrel
    have HSb := hid hSb
    have Hsum := hid hsum
    have Hrest := hid hrest
    clear hSb hsum hrest
    by_cases hlt : i < 16
    · have hcx := hS.cell i hlt
      rw [Hrest.out i (Nat.le_refl _) hlt] at hcx
      have hfi := limb_lt x i
      obtain ⟨r, c', hadd, hrc, hrl, hc1⟩ : ∃ r c' : Nat, (∀ w, (callFunc 93 #[.int .u64 (18446744073709551615 - limb x i : Nat), .int .u64 0, .int .u64 (cc : Nat)]).run Tryz.prog w = .ok (.value (.tuple #[.int .u64 (r : Nat), .int .u64 (c' : Nat)])) w) ∧ Hid (r + c' * 18446744073709551616 + limb x i = 18446744073709551615 + cc) ∧ r < 18446744073709551616 ∧ c' ≤ 1 := by
        have h := run_add (18446744073709551615 - limb x i) 0 cc hcc
        simp only [show ((0 : Nat) : Int) = 0 from rfl] at h
        exact ⟨_, _, h, hid (by omega), Nat.mod_lt _ (by decide), by omega⟩
      have hxor := bits_not hfi
      obtain ⟨Y, hY⟩ : ∃ Y, 18446744073709551615 - limb x i = Y := ⟨_, rfl⟩
      rw [hY] at hadd hxor
      clear hY
      have hfs := hS.frozen i
      have gZ := hZ.other ⟨G, i, none⟩ (.int .u64 (r : Nat)) (show w.heap.size + 1 ≠ G by omega)
      have gS := hS.set i r
      have gB := hB.setCell (p := ⟨G, i, none⟩) (show w.heap.size ≤ G by omega) (.int .u64 (r : Nat))
      clear hZ hS hB
      go_wp2
      go_roundw
      case rel =>
        refine ⟨i + 1, c', upd S i r, by omega, rfl, by go_num, hc1, upd_lt HSb.out hrl, ?_, fun j h1 h2 => by rw [upd_other _ _ _ (by omega)]; exact Hrest.out j (by omega) h2, gZ, gS, gB⟩
        rw [sumL_succ (limb x) i]
        exact comp_step Hsum.out rfl hrc.out
      case measure => simp [intOf] <;> omega
    · obtain rfl : i = 16 := by omega
      have he : sumL S 16 = enc z := by
        have h1 := Hsum.out
        have h3 := HE.out
        have h4 := HR.out
        have h5 := sumL_lt HSb.out
        rw [sumL_limb, Nat.mod_eq_of_lt (by omega)] at h1
        rcases Nat.eq_zero_or_pos cc with h0 | h0
        · subst h0; omega
        · have : 1 * bp 16 ≤ cc * bp 16 := Nat.mul_le_mul_right _ h0
          omega
      have gS : Row wr G 54 16 (limb (enc z)) := hS.congr fun j hj => by rw [← he]; exact (limb_sumL HSb.out hj).symm
      clear hS he HSb Hsum Hrest
      go_wp2_with (first | ((with_reducible apply ld_rowP undW infoW); exact rfl; exact rfl; focus (repeat (first | assumption | ((with_reducible apply row_newc); (focus (first | rfl | (simp; done)))) | ((with_reducible apply row_newz); (focus (first | rfl | (simp; done)))) | (with_reducible apply row_same) | ((with_reducible apply row_else); (focus (first | (simp; done) | (simp; omega) | omega))) | (with_reducible apply row_alloc) | (with_reducible apply row_drew) | (with_reducible apply row_drewN) | ((with_reducible apply row_up); assumption)))) | ((with_reducible apply st_rowP infoW); exact rfl; exact rfl; focus (repeat (first | assumption | ((with_reducible apply row_newc); (focus (first | rfl | (simp; done)))) | ((with_reducible apply row_newz); (focus (first | rfl | (simp; done)))) | (with_reducible apply row_same) | ((with_reducible apply row_else); (focus (first | (simp; done) | (simp; omega) | omega))) | (with_reducible apply row_alloc) | (with_reducible apply row_drew) | (with_reducible apply row_drewN) | ((with_reducible apply row_up); assumption)))) | ((with_reducible apply st_rowZ infoW); exact rfl; exact rfl; focus (repeat (first | assumption | ((with_reducible apply row_newc); (focus (first | rfl | (simp; done)))) | ((with_reducible apply row_newz); (focus (first | rfl | (simp; done)))) | (with_reducible apply row_same) | ((with_reducible apply row_else); (focus (first | (simp; done) | (simp; omega) | omega))) | (with_reducible apply row_alloc) | (with_reducible apply row_drew) | (with_reducible apply row_drewN) | ((with_reducible apply row_up); assumption)))))
      exact bodyPost_ret (res2 rfl undW infoW _ _ rfl (by (repeat (first | assumption | ((with_reducible apply row_newc); (focus (first | rfl | (simp; done)))) | ((with_reducible apply row_newz); (focus (first | rfl | (simp; done)))) | (with_reducible apply row_same) | ((with_reducible apply row_else); (focus (first | (simp; done) | (simp; omega) | omega))) | (with_reducible apply row_alloc) | (with_reducible apply row_drew) | (with_reducible apply row_drewN) | ((with_reducible apply row_up); assumption))))) rfl ⟨rfl, (by repeat (first | assumption | (with_reducible apply Up.of) | (with_reducible exact Below.refl _ _) | (with_reducible exact Up.refl _) | ((with_reducible apply bl_setRow); (focus (first | exact Nat.le_refl _ | (simp; done) | (simp; omega) | omega))) | (with_reducible apply below_drewN) | (with_reducible apply Below.drew) | ((with_reducible apply bl_alloc); (focus (first | exact Nat.le_refl _ | (simp; done) | (simp; omega) | omega))) | ((with_reducible apply bl_setCell); (focus (first | exact Nat.le_refl _ | (simp; done) | (simp; omega) | omega))) | ((with_reducible apply up_tr); assumption)))⟩
theorem to_any {z : Int} {v : Value} {w : World} (h : Big w v z) (hn : nl z.natAbs < 50000) :
    Calls Tryz.prog 64 #[v] w fun e w' => e = .returned (opt z) ∧ Up w w' := by
  have hb16 := bp16
  by_cases h1 : z.natAbs < hb
  · exact to_small h h1
  by_cases h2 : bp 16 ≤ z.natAbs
  · exact to_over h h2 hn
  by_cases h3 : 0 ≤ z
  · exact to_mid h (by omega) (by omega)
  by_cases h4 : z = -(hb : Int)
  · exact to_least h h4
  · exact to_below h (by omega) (by omega)
theorem eqSP {ops : Array Oper} {rest : List Oper} {Q : Exit → Act → World → Prop} {a : Act} {w : World} {d : Option Tmp} {s r : Tmp} {u ty : TypeId} {pos : String} {af : Array Edge} {gd : Option (Nat × Bool)} {p : Nat}
    (hw : Region.wanted { dst := d, op := .binOp .eql 54 (.tmp s) (.tmp r) u, type := ty, pos := pos, after := af, guard := gd } (yielded ops a.tmps) = true) (hx : a.eval (.tmp s) = .agg (cells 16 (limb p))) (hy : a.eval (.tmp r) = .agg (cells 16 (limb p))) (hp : p < bp 16)
    (h : wpList Tryz.prog ops Q rest (a.put d (.bool true)) w) : wpList Tryz.prog ops Q ({ dst := d, op := .binOp .eql 54 (.tmp s) (.tmp r) u, type := ty, pos := pos, after := af, guard := gd } :: rest) a w := wpList_run hw (op_eqS rfl hx hy hp w) h
set_option maxHeartbeats 1000000 in
theorem help_wide {z : Int} {u : Value} {w : World} (hz : InR z) (h : Big w u z) (hn : nl z.natAbs < 50000) :
    Calls Tryz.prog 29 #[wideV (enc z), u] w fun e w' => e = .returned (.bool true) ∧ Up w w' := by
  obtain ⟨b, a, n, c, rfl⟩ := h.shape
  have hl := enc_lt z
  have hT := fun w' (hu : Up w w') => to_any (h.up hu) hn
  rw [opt_yes hz] at hT
  unfold wideV at *
  generalize enc z = y at *
  have HT := hid hT
  clear hT h hz
  go_enter Tryz.func29, Tryz.ntmps29
  go_wp2_with (first | go_skip | ((with_reducible apply ld_rowP undW infoW); exact rfl; exact rfl; focus (repeat (first | assumption | ((with_reducible apply row_newc); (focus (first | rfl | (simp; done)))) | ((with_reducible apply row_newz); (focus (first | rfl | (simp; done)))) | (with_reducible apply row_same) | ((with_reducible apply row_else); (focus (first | (simp; done) | (simp; omega) | omega))) | (with_reducible apply row_alloc) | (with_reducible apply row_drew) | (with_reducible apply row_drewN) | ((with_reducible apply row_up); assumption)))) | ((with_reducible apply st_rowP infoW); exact rfl; exact rfl; focus (repeat (first | assumption | ((with_reducible apply row_newc); (focus (first | rfl | (simp; done)))) | ((with_reducible apply row_newz); (focus (first | rfl | (simp; done)))) | (with_reducible apply row_same) | ((with_reducible apply row_else); (focus (first | (simp; done) | (simp; omega) | omega))) | (with_reducible apply row_alloc) | (with_reducible apply row_drew) | (with_reducible apply row_drewN) | ((with_reducible apply row_up); assumption)))) | ((with_reducible apply st_rowZ infoW); exact rfl; exact rfl; focus (repeat (first | assumption | ((with_reducible apply row_newc); (focus (first | rfl | (simp; done)))) | ((with_reducible apply row_newz); (focus (first | rfl | (simp; done)))) | (with_reducible apply row_same) | ((with_reducible apply row_else); (focus (first | (simp; done) | (simp; omega) | omega))) | (with_reducible apply row_alloc) | (with_reducible apply row_drew) | (with_reducible apply row_drewN) | ((with_reducible apply row_up); assumption)))) | ((with_reducible apply ldB_P); exact rfl; exact rfl; (focus (repeat (first | assumption | ((with_reducible apply blk_new); (focus (first | rfl | (simp; done)))) | (with_reducible apply blk_alloc) | (with_reducible apply blk_drew) | (with_reducible apply blk_drewN) | ((with_reducible apply blk_up); assumption) | (with_reducible apply blk_same) | ((with_reducible apply blk_else); (focus (first | (simp; done) | (simp; omega) | omega)))))); exact rfl) | ((with_reducible apply eqSP); exact rfl; exact rfl; exact rfl; assumption) | (go_at_call 64; (with_reducible refine (HT.out _ (by repeat (first | assumption | (with_reducible apply Up.of) | (with_reducible exact Below.refl _ _) | (with_reducible exact Up.refl _) | ((with_reducible apply bl_setRow); (focus (first | exact Nat.le_refl _ | (simp; done) | (simp; omega) | omega))) | (with_reducible apply below_drewN) | (with_reducible apply Below.drew) | ((with_reducible apply bl_alloc); (focus (first | exact Nat.le_refl _ | (simp; done) | (simp; omega) | omega))) | ((with_reducible apply bl_setCell); (focus (first | exact Nat.le_refl _ | (simp; done) | (simp; omega) | omega))) | ((with_reducible apply up_tr); assumption)))).mono ?_); rintro e wT ⟨rfl, huT⟩; have hsT := huT.size; (try simp at hsT)))
  go_ret
  exact ⟨rfl, (by repeat (first | assumption | (with_reducible apply Up.of) | (with_reducible exact Below.refl _ _) | (with_reducible exact Up.refl _) | ((with_reducible apply bl_setRow); (focus (first | exact Nat.le_refl _ | (simp; done) | (simp; omega) | omega))) | (with_reducible apply below_drewN) | (with_reducible apply Below.drew) | ((with_reducible apply bl_alloc); (focus (first | exact Nat.le_refl _ | (simp; done) | (simp; omega) | omega))) | ((with_reducible apply bl_setCell); (focus (first | exact Nat.le_refl _ | (simp; done) | (simp; omega) | omega))) | ((with_reducible apply up_tr); assumption)))⟩
theorem e_det : detV 2 [2, 1, 2] = 3 ∧ detC 2 [2, 1, 2] = 0 := by decide +kernel
theorem e_min : mnR 2 [2, 1, 2] = [2, 3] ∧ mnC 2 [2, 1, 2] = 0 := by decide +kernel
theorem e_bad : detV 1 [] = 0 ∧ detC 1 [] = 23 := by decide +kernel
theorem e_def : dfV 2 [2, 1, 2] = true ∧ dfV 1 [0] = false := by decide +kernel
theorem sm_ex {w : World} {v : Value} (h : Vw w v [2, 1, 2]) : Sm w (.agg #[.int .i64 2, v]) 2 [2, 1, 2] :=
  ⟨_, rfl, h, by unfold I64; omega, fun i hi => by
    rcases i with _ | _ | _ | i
    · unfold I64; decide
    · unfold I64; decide
    · unfold I64; decide
    · simp at hi; omega, by simp⟩
theorem sm_nought {w : World} {v : Value} (h : Vw w v [0]) : Sm w (.agg #[.int .i64 1, v]) 1 [0] :=
  ⟨_, rfl, h, by unfold I64; omega, fun i hi => by
    rcases i with _ | i
    · unfold I64; decide
    · simp at hi, by simp⟩
set_option maxHeartbeats 8000000 in
theorem eknown_true {w : World} (hg : Glob w) :
    Calls Tryz.prog 22 #[] w fun r w' => r = .returned (.bool true) ∧ Up w w' := by
  have HG := hid (fun w' (hu : Up w w') => hg.up hu)
  have hW := vw_three w 2 1 2
  obtain ⟨wA, hwA⟩ : ∃ y, w.alloc (.cells #[.int .i64 2, .int .i64 1, .int .i64 2] 2) = y := ⟨_, rfl⟩
  have hUA : Up w wA := by rw [← hwA]; exact Up.alloc _ _
  obtain ⟨bA, hbA⟩ : ∃ y, w.heap.size = y := ⟨_, rfl⟩
  rw [hwA, hbA] at hW
  obtain ⟨wB, hwB⟩ : ∃ y, wA.alloc (.cells #[.int .i64 2, .slice (some ⟨bA, 0, none⟩) 3 3] 24) = y := ⟨_, rfl⟩
  have hB : Blk wB wA.heap.size 24 #[.int .i64 2, .slice (some ⟨bA, 0, none⟩) 3 3] := by rw [← hwB]; exact Blk.new _ _ rfl
  have hUB : Up wA wB := by rw [← hwB]; exact Up.alloc _ _
  obtain ⟨bB, hbB⟩ : ∃ y, wA.heap.size = y := ⟨_, rfl⟩
  rw [hbB] at hB
  have HS := hid (fun w' (hu : Up wB w') => sm_ex (Vw.up (hUB.trans hu) hW))
  have HD := hid (fun w' (hu : Up wB w') => e_det.1 ▸ e_det.2 ▸ det_any (HS.out w' hu))
  have HM := hid (fun w' (hu : Up wB w') => e_min.1 ▸ e_min.2 ▸ minors_any (HS.out w' hu))
  have HX := hid (fun w' => e_bad.1 ▸ e_bad.2 ▸ det_any (sm_one w'))
  have HF1 := hid (fun w' (hu : Up wB w') => e_def.1 ▸ definite_any (HS.out w' hu))
  have HF0 := hid (fun v w' (h : Vw w' v [0]) => e_def.2 ▸ definite_any (sm_nought h))
  have hU := hUA.trans hUB
  clear hg hW hUA hUB
  go_enter Tryz.func22, Tryz.ntmps22
  go_upto_region 5 with (first
    | ((with_reducible apply ldM_P); exact rfl; exact rfl; (first | exact hB | exact hB2); exact rfl)
    | (go_at_call 24; first
        | ((with_reducible refine (HD.out _ (Up.refl _)).mono ?_); rintro r w1 ⟨u1, rfl, hu1, he1⟩; obtain rfl := he1.elim (fun h => h.2) (fun h => absurd rfl h.1))
        | ((with_reducible refine (HX.out _).mono ?_); rintro r w3 ⟨u3, rfl, hu3, he3⟩))
    | ((with_reducible apply st_rowP infoW); exact rfl; exact rfl; exact row_newz _ rfl
       first
         | (refine wpL_folded (fun wd => Up w3 wd ∧ ErrsE wd u3 23) ⟨(by repeat (first | assumption | (with_reducible apply Up.of) | (with_reducible exact Below.refl _ _) | (with_reducible exact Up.refl _) | ((with_reducible apply bl_setRow); (focus (first | exact Nat.le_refl _ | (simp; done) | (simp; omega) | omega))) | (with_reducible apply below_drewN) | (with_reducible apply Below.drew) | ((with_reducible apply bl_alloc); (focus (first | exact Nat.le_refl _ | (simp; done) | (simp; omega) | omega))) | ((with_reducible apply bl_setCell); (focus (first | exact Nat.le_refl _ | (simp; done) | (simp; omega) | omega))) | ((with_reducible apply up_tr); assumption))), (he3.up (Up.alloc _ _)).setRow (row_newz _ rfl)⟩ ?_
            rintro wE ⟨hXE, he3x⟩)
         | (refine wpL_folded (fun wd => Up w1 wd ∧ Row wd w1.heap.size 54 16 (limb (enc 3))) ⟨(by repeat (first | assumption | (with_reducible apply Up.of) | (with_reducible exact Below.refl _ _) | (with_reducible exact Up.refl _) | ((with_reducible apply bl_setRow); (focus (first | exact Nat.le_refl _ | (simp; done) | (simp; omega) | omega))) | (with_reducible apply below_drewN) | (with_reducible apply Below.drew) | ((with_reducible apply bl_alloc); (focus (first | exact Nat.le_refl _ | (simp; done) | (simp; omega) | omega))) | ((with_reducible apply bl_setCell); (focus (first | exact Nat.le_refl _ | (simp; done) | (simp; omega) | omega))) | ((with_reducible apply up_tr); assumption))), (by (repeat (first | assumption | ((with_reducible apply row_newc); (focus (first | rfl | (simp; done)))) | ((with_reducible apply row_newz); (focus (first | rfl | (simp; done)))) | (with_reducible apply row_same) | ((with_reducible apply row_else); (focus (first | (simp; done) | (simp; omega) | omega))) | (with_reducible apply row_alloc) | (with_reducible apply row_drew) | (with_reducible apply row_drewN) | ((with_reducible apply row_up); assumption))))⟩ ?_
            rintro wD ⟨hXD, hRD⟩
            have hU2 := hu1.trans hXD
            have hB2 := hB.up hU2
            obtain ⟨b2, hb2⟩ : ∃ y, w1.heap.size = y := ⟨_, rfl⟩
            rw [hb2] at hRD ⊢))
    | (go_at_call 25; (with_reducible refine (HM.out _ hU2).mono ?_); rintro r w2 ⟨z2, u2, rfl, hu2, hW2, he2⟩; obtain rfl := he2.elim (fun h => h.2) (fun h => absurd rfl h.1); obtain ⟨p2, c2, rfl⟩ := hW2.slice))
  have hUx := (hu2.trans hu3).trans hXE
  have hBx := hB2.up hUx
  have hRx := hRD.up hUx
  have hUw := hU2.trans hUx
  have hGx := hU.trans hUw
  clear hUx hB2 hRD hu1 hXD hU2 hu2 hu3 hXE hW2 he2 he1 he3 hwA hwB hbA hbB
  try simp only [Act.put]
  have hI3 : InR 3 := few_inR (k := 1) (by decide) (by decide +kernel)
  have hn3 : nl (3 : Int).natAbs < 50000 := Nat.lt_of_le_of_lt (nl_le (k := 1) (by decide +kernel)) (by decide)
  have HW3 := hid (fun w u (h : Big w u 3) => help_wide hI3 h hn3)
  unfold wideV at HW3
  refine wp_region_upS (S := (fun wq => Row wq b2 54 16 (limb (enc 3)) ∧ Blk wq bB 24 #[.int .i64 2, .slice (some ⟨bA, 0, none⟩) 3 3] ∧ ErrsE wq u3 23 ∧ Up wB wq ∧ Below w.heap.size w wq)) (req := (fun _ => true)) (by kernel_rfl) (fun _ _ h hu => ⟨(h.1).up hu, (h.2.1).up hu, (h.2.2.1).up hu, (h.2.2.2.1).trans hu, below_up (h.2.2.2.2) hu⟩) ⟨(by (repeat (first | assumption | ((with_reducible apply row_newc); (focus (first | rfl | (simp; done)))) | ((with_reducible apply row_newz); (focus (first | rfl | (simp; done)))) | (with_reducible apply row_same) | ((with_reducible apply row_else); (focus (first | (simp; done) | (simp; omega) | omega))) | (with_reducible apply row_alloc) | (with_reducible apply row_drew) | (with_reducible apply row_drewN) | ((with_reducible apply row_up); assumption)))), (by (repeat (first | assumption | ((with_reducible apply blk_new); (focus (first | rfl | (simp; done)))) | (with_reducible apply blk_alloc) | (with_reducible apply blk_drew) | (with_reducible apply blk_drewN) | ((with_reducible apply blk_up); assumption) | (with_reducible apply blk_same) | ((with_reducible apply blk_else); (focus (first | (simp; done) | (simp; omega) | omega)))))), (by assumption), (by first | exact Up.refl _ | assumption), (by repeat (first | assumption | (with_reducible apply Up.of) | (with_reducible exact Below.refl _ _) | (with_reducible exact Up.refl _) | ((with_reducible apply bl_setRow); (focus (first | exact Nat.le_refl _ | (simp; done) | (simp; omega) | omega))) | (with_reducible apply below_drewN) | (with_reducible apply Below.drew) | ((with_reducible apply bl_alloc); (focus (first | exact Nat.le_refl _ | (simp; done) | (simp; omega) | omega))) | ((with_reducible apply bl_setCell); (focus (first | exact Nat.le_refl _ | (simp; done) | (simp; omega) | omega))) | ((with_reducible apply up_tr); assumption)))⟩ (fun wS hSS => ?_)
  have ⟨hS1, hS2, hS3, hS4, hSB⟩ := hSS
  refine wpAnyU_pure (i := 0) (d := (some 25)) (v := ?_) rfl rfl (by kernel_rfl) (fun _ _ _ h => h) (fun _ _ h hu => ⟨(h.1).up hu, (h.2.1).up hu, (h.2.2.1).up hu, (h.2.2.2.1).trans hu, below_up (h.2.2.2.2) hu⟩) (Or.inl ⟨by rfl, fun w' _ => yu_value ?_⟩) ?_
  rotate_left
  · (go_simp; (try exact rfl))
  try simp only [Act.put, List.setIfInBounds_toArray, List.set_cons_zero, List.set_cons_succ]
  refine wpAnyU_pure (i := 1) (d := (some 26)) (v := ?_) rfl rfl (by kernel_rfl) (fun _ _ _ h => h) (fun _ _ h hu => ⟨(h.1).up hu, (h.2.1).up hu, (h.2.2.1).up hu, (h.2.2.2.1).trans hu, below_up (h.2.2.2.2) hu⟩) (Or.inl ⟨by rfl, fun w' _ => yu_value ?_⟩) ?_
  rotate_left
  · (go_simp; (try exact rfl))
  try simp only [Act.put, List.setIfInBounds_toArray, List.set_cons_zero, List.set_cons_succ]
  refine wpAnyU_pure (i := 2) (d := (some 27)) (v := ?_) rfl rfl (by kernel_rfl) (fun _ _ _ h => h) (fun _ _ h hu => ⟨(h.1).up hu, (h.2.1).up hu, (h.2.2.1).up hu, (h.2.2.2.1).trans hu, below_up (h.2.2.2.2) hu⟩) (Or.inl ⟨by rfl, fun w' _ => yu_value ?_⟩) ?_
  rotate_left
  · (go_simp; (try exact rfl))
  try simp only [Act.put, List.setIfInBounds_toArray, List.set_cons_zero, List.set_cons_succ]
  refine wpAnyU_pure (i := 3) (d := (some 28)) (v := ?_) rfl rfl (by kernel_rfl) (fun _ _ _ h => h) (fun _ _ h hu => ⟨(h.1).up hu, (h.2.1).up hu, (h.2.2.1).up hu, (h.2.2.2.1).trans hu, below_up (h.2.2.2.2) hu⟩) (Or.inl ⟨by rfl, fun w' _ => yu_value ?_⟩) ?_
  rotate_left
  · (go_simp; (try exact rfl))
  try simp only [Act.put, List.setIfInBounds_toArray, List.set_cons_zero, List.set_cons_succ]
  refine wpAnyU_pure (i := 4) (d := (some 29)) (v := ?_) rfl rfl (by kernel_rfl) (fun _ _ _ h => h) (fun _ _ h hu => ⟨(h.1).up hu, (h.2.1).up hu, (h.2.2.1).up hu, (h.2.2.2.1).trans hu, below_up (h.2.2.2.2) hu⟩) (Or.inl ⟨by rfl, fun w' _ => yu_value ?_⟩) ?_
  rotate_left
  · (go_simp; (try exact rfl))
  try simp only [Act.put, List.setIfInBounds_toArray, List.set_cons_zero, List.set_cons_succ]
  refine wpAnyU_pure (i := 5) (d := (some 30)) (v := ?_) rfl rfl (by kernel_rfl) (fun _ _ _ h => h) (fun _ _ h hu => ⟨(h.1).up hu, (h.2.1).up hu, (h.2.2.1).up hu, (h.2.2.2.1).trans hu, below_up (h.2.2.2.2) hu⟩) (Or.inl ⟨by rfl, fun w' _ => yu_value ?_⟩) ?_
  rotate_left
  · (go_simp; (try exact rfl))
  try simp only [Act.put, List.setIfInBounds_toArray, List.set_cons_zero, List.set_cons_succ]
  refine wpAnyU_pure (i := 6) (d := (some 31)) (v := ?_) rfl rfl (by kernel_rfl) (fun _ _ _ h => h) (fun _ _ h hu => ⟨(h.1).up hu, (h.2.1).up hu, (h.2.2.1).up hu, (h.2.2.2.1).trans hu, below_up (h.2.2.2.2) hu⟩) (Or.inl ⟨by rfl, fun w' _ => yu_value ?_⟩) ?_
  rotate_left
  · (go_simp; (try exact rfl))
  try simp only [Act.put, List.setIfInBounds_toArray, List.set_cons_zero, List.set_cons_succ]
  refine wpAnyU_take (i := 7) (d := (some 32)) (v := _) rfl rfl (by kernel_rfl) (fun _ _ _ h => h) (fun _ _ h hu => ⟨(h.1).up hu, (h.2.1).up hu, (h.2.2.1).up hu, (h.2.2.2.1).trans hu, below_up (h.2.2.2.2) hu⟩) hSS (Or.inl ⟨by rfl, fun w' hSw => yu_value (run_ld undW infoW _ rfl _ rfl hSw.1)⟩) ?_
  try simp only [Act.put, List.setIfInBounds_toArray, List.set_cons_zero, List.set_cons_succ]
  refine wpAnyU_callE (i := 8) (d := (some 33)) rfl rfl (by kernel_rfl) (by rfl) (fun _ _ h hu => ⟨(h.1).up hu, (h.2.1).up hu, (h.2.2.1).up hu, (h.2.2.2.1).trans hu, below_up (h.2.2.2.2) hu⟩) (fun w' => by go_simp) (fun w' hw' => (of_big 3 (by decide) (by decide) w')) fun vG wG hwG hRG => ?_
  try simp only [Act.put, List.setIfInBounds_toArray, List.set_cons_zero, List.set_cons_succ]
  replace hSS := ((fun _ _ h hu => ⟨(h.1).up hu, (h.2.1).up hu, (h.2.2.1).up hu, (h.2.2.2.1).trans hu, below_up (h.2.2.2.2) hu⟩) : ∀ w1 w2 : World, (fun wq => Row wq b2 54 16 (limb (enc 3)) ∧ Blk wq bB 24 #[.int .i64 2, .slice (some ⟨bA, 0, none⟩) 3 3] ∧ ErrsE wq u3 23 ∧ Up wB wq ∧ Below w.heap.size w wq) w1 → Up w1 w2 → (fun wq => Row wq b2 54 16 (limb (enc 3)) ∧ Blk wq bB 24 #[.int .i64 2, .slice (some ⟨bA, 0, none⟩) 3 3] ∧ ErrsE wq u3 23 ∧ Up wB wq ∧ Below w.heap.size w wq) w2) _ _ hSS hwG
  refine wpAnyU_callE (i := 9) (d := (some 34)) rfl rfl (by kernel_rfl) (by rfl) (fun _ _ h hu => ⟨(h.1).up hu, (h.2.1).up hu, (h.2.2.1).up hu, (h.2.2.2.1).trans hu, below_up (h.2.2.2.2) hu⟩) (fun w' => by go_simp) (fun w' hw' => (callE_of (HW3.out _ _ (hRG.up hw')))) fun vF wF hwF hRF => ?_
  try simp only [Act.put, List.setIfInBounds_toArray, List.set_cons_zero, List.set_cons_succ]
  obtain rfl := hRF
  replace hSS := ((fun _ _ h hu => ⟨(h.1).up hu, (h.2.1).up hu, (h.2.2.1).up hu, (h.2.2.2.1).trans hu, below_up (h.2.2.2.2) hu⟩) : ∀ w1 w2 : World, (fun wq => Row wq b2 54 16 (limb (enc 3)) ∧ Blk wq bB 24 #[.int .i64 2, .slice (some ⟨bA, 0, none⟩) 3 3] ∧ ErrsE wq u3 23 ∧ Up wB wq ∧ Below w.heap.size w wq) w1 → Up w1 w2 → (fun wq => Row wq b2 54 16 (limb (enc 3)) ∧ Blk wq bB 24 #[.int .i64 2, .slice (some ⟨bA, 0, none⟩) 3 3] ∧ ErrsE wq u3 23 ∧ Up wB wq ∧ Below w.heap.size w wq) w2) _ _ hSS hwF
  refine wpAnyU_pure (i := 10) (d := (some 35)) (v := ?_) rfl rfl (by kernel_rfl) (fun _ _ _ h => h) (fun _ _ h hu => ⟨(h.1).up hu, (h.2.1).up hu, (h.2.2.1).up hu, (h.2.2.2.1).trans hu, below_up (h.2.2.2.2) hu⟩) (Or.inl ⟨by rfl, fun w' _ => yu_value ?_⟩) ?_
  rotate_left
  · (go_simp; (try exact rfl))
  try simp only [Act.put, List.setIfInBounds_toArray, List.set_cons_zero, List.set_cons_succ]
  refine wpAnyU_pure (i := 11) (d := (some 36)) (v := ?_) rfl rfl (by kernel_rfl) (fun _ _ _ h => h) (fun _ _ h hu => ⟨(h.1).up hu, (h.2.1).up hu, (h.2.2.1).up hu, (h.2.2.2.1).trans hu, below_up (h.2.2.2.2) hu⟩) (Or.inl ⟨by rfl, fun w' _ => yu_value ?_⟩) ?_
  rotate_left
  · (go_simp; (try exact rfl))
  try simp only [Act.put, List.setIfInBounds_toArray, List.set_cons_zero, List.set_cons_succ]
  refine wpAnyU_pure (i := 12) (d := (some 37)) (v := ?_) rfl rfl (by kernel_rfl) (fun _ _ _ h => h) (fun _ _ h hu => ⟨(h.1).up hu, (h.2.1).up hu, (h.2.2.1).up hu, (h.2.2.2.1).trans hu, below_up (h.2.2.2.2) hu⟩) (Or.inl ⟨by rfl, fun w' _ => yu_value ?_⟩) ?_
  rotate_left
  · (go_simp; (try exact rfl))
  try simp only [Act.put, List.setIfInBounds_toArray, List.set_cons_zero, List.set_cons_succ]
  refine wpAnyU_pure (i := 13) (d := (some 38)) (v := ?_) rfl rfl (by kernel_rfl) (fun _ _ _ h => h) (fun _ _ h hu => ⟨(h.1).up hu, (h.2.1).up hu, (h.2.2.1).up hu, (h.2.2.2.1).trans hu, below_up (h.2.2.2.2) hu⟩) (Or.inl ⟨by rfl, fun w' _ => yu_value ?_⟩) ?_
  rotate_left
  · (go_simp; (try exact rfl))
  try simp only [Act.put, List.setIfInBounds_toArray, List.set_cons_zero, List.set_cons_succ]
  refine wpAnyU_pure (i := 14) (d := (some 39)) (v := ?_) rfl rfl (by kernel_rfl) (fun _ _ _ h => h) (fun _ _ h hu => ⟨(h.1).up hu, (h.2.1).up hu, (h.2.2.1).up hu, (h.2.2.2.1).trans hu, below_up (h.2.2.2.2) hu⟩) (Or.inl ⟨by rfl, fun w' _ => yu_value ?_⟩) ?_
  rotate_left
  · (go_simp; (try exact rfl))
  try simp only [Act.put, List.setIfInBounds_toArray, List.set_cons_zero, List.set_cons_succ]
  refine wpAnyU_pure (i := 15) (d := (some 40)) (v := ?_) rfl rfl (by kernel_rfl) (fun _ _ _ h => h) (fun _ _ h hu => ⟨(h.1).up hu, (h.2.1).up hu, (h.2.2.1).up hu, (h.2.2.2.1).trans hu, below_up (h.2.2.2.2) hu⟩) (Or.inl ⟨by rfl, fun w' _ => yu_value ?_⟩) ?_
  rotate_left
  · (go_simp; (try exact rfl))
  try simp only [Act.put, List.setIfInBounds_toArray, List.set_cons_zero, List.set_cons_succ]
  refine wpAnyU_pure (i := 16) (d := (some 41)) (v := ?_) rfl rfl (by kernel_rfl) (fun _ _ _ h => h) (fun _ _ h hu => ⟨(h.1).up hu, (h.2.1).up hu, (h.2.2.1).up hu, (h.2.2.2.1).trans hu, below_up (h.2.2.2.2) hu⟩) (Or.inl ⟨by rfl, fun w' _ => yu_value ?_⟩) ?_
  rotate_left
  · (go_simp; (try exact rfl))
  try simp only [Act.put, List.setIfInBounds_toArray, List.set_cons_zero, List.set_cons_succ]
  refine wpAnyU_pure (i := 17) (d := (some 42)) (v := ?_) rfl rfl (by kernel_rfl) (fun _ _ _ h => h) (fun _ _ h hu => ⟨(h.1).up hu, (h.2.1).up hu, (h.2.2.1).up hu, (h.2.2.2.1).trans hu, below_up (h.2.2.2.2) hu⟩) (Or.inl ⟨by rfl, fun w' _ => yu_value ?_⟩) ?_
  rotate_left
  · (go_simp; (try exact rfl))
  try simp only [Act.put, List.setIfInBounds_toArray, List.set_cons_zero, List.set_cons_succ]
  refine wpAnyU_callE (i := 18) (d := (some 43)) rfl rfl (by kernel_rfl) (by rfl) (fun _ _ h hu => ⟨(h.1).up hu, (h.2.1).up hu, (h.2.2.1).up hu, (h.2.2.2.1).trans hu, below_up (h.2.2.2.2) hu⟩) (fun w' => by go_simp) (fun w' hw' => (callE_of (esays_any (hSS.2.2.1.up hw') (HG.out _ (hU.trans (hSS.2.2.2.1.trans hw')))))) fun vS wS hwS hRS => ?_
  try simp only [Act.put, List.setIfInBounds_toArray, List.set_cons_zero, List.set_cons_succ]
  obtain rfl := hRS
  replace hSS := ((fun _ _ h hu => ⟨(h.1).up hu, (h.2.1).up hu, (h.2.2.1).up hu, (h.2.2.2.1).trans hu, below_up (h.2.2.2.2) hu⟩) : ∀ w1 w2 : World, (fun wq => Row wq b2 54 16 (limb (enc 3)) ∧ Blk wq bB 24 #[.int .i64 2, .slice (some ⟨bA, 0, none⟩) 3 3] ∧ ErrsE wq u3 23 ∧ Up wB wq ∧ Below w.heap.size w wq) w1 → Up w1 w2 → (fun wq => Row wq b2 54 16 (limb (enc 3)) ∧ Blk wq bB 24 #[.int .i64 2, .slice (some ⟨bA, 0, none⟩) 3 3] ∧ ErrsE wq u3 23 ∧ Up wB wq ∧ Below w.heap.size w wq) w2) _ _ hSS hwS
  refine wpAnyU_pure (i := 19) (d := (some 44)) (v := ?_) rfl rfl (by kernel_rfl) (fun _ _ _ h => h) (fun _ _ h hu => ⟨(h.1).up hu, (h.2.1).up hu, (h.2.2.1).up hu, (h.2.2.2.1).trans hu, below_up (h.2.2.2.2) hu⟩) (Or.inl ⟨by rfl, fun w' _ => yu_value ?_⟩) ?_
  rotate_left
  · (go_simp; (try exact rfl))
  try simp only [Act.put, List.setIfInBounds_toArray, List.set_cons_zero, List.set_cons_succ]
  refine wpAnyU_pure (i := 20) (d := (some 45)) (v := ?_) rfl rfl (by kernel_rfl) (fun _ _ _ h => h) (fun _ _ h hu => ⟨(h.1).up hu, (h.2.1).up hu, (h.2.2.1).up hu, (h.2.2.2.1).trans hu, below_up (h.2.2.2.2) hu⟩) (Or.inl ⟨by rfl, fun w' _ => yu_value ?_⟩) ?_
  rotate_left
  · (go_simp; (try exact rfl))
  try simp only [Act.put, List.setIfInBounds_toArray, List.set_cons_zero, List.set_cons_succ]
  refine wpAnyU_take (i := 21) (d := (some 46)) (v := _) rfl rfl (by kernel_rfl) (fun _ _ _ h => h) (fun _ _ h hu => ⟨(h.1).up hu, (h.2.1).up hu, (h.2.2.1).up hu, (h.2.2.2.1).trans hu, below_up (h.2.2.2.2) hu⟩) hSS (Or.inl ⟨by rfl, fun w' hSw => yu_value (run_ldM rfl rfl hSw.2.1 rfl)⟩) ?_
  try simp only [Act.put, List.setIfInBounds_toArray, List.set_cons_zero, List.set_cons_succ]
  refine wpAnyU_callE (i := 22) (d := (some 47)) rfl rfl (by kernel_rfl) (by rfl) (fun _ _ h hu => ⟨(h.1).up hu, (h.2.1).up hu, (h.2.2.1).up hu, (h.2.2.2.1).trans hu, below_up (h.2.2.2.2) hu⟩) (fun w' => by go_simp) (fun w' hw' => (callE_of (HF1.out _ (hSS.2.2.2.1.trans hw')))) fun vD wD hwD hRD => ?_
  try simp only [Act.put, List.setIfInBounds_toArray, List.set_cons_zero, List.set_cons_succ]
  obtain rfl := hRD
  replace hSS := ((fun _ _ h hu => ⟨(h.1).up hu, (h.2.1).up hu, (h.2.2.1).up hu, (h.2.2.2.1).trans hu, below_up (h.2.2.2.2) hu⟩) : ∀ w1 w2 : World, (fun wq => Row wq b2 54 16 (limb (enc 3)) ∧ Blk wq bB 24 #[.int .i64 2, .slice (some ⟨bA, 0, none⟩) 3 3] ∧ ErrsE wq u3 23 ∧ Up wB wq ∧ Below w.heap.size w wq) w1 → Up w1 w2 → (fun wq => Row wq b2 54 16 (limb (enc 3)) ∧ Blk wq bB 24 #[.int .i64 2, .slice (some ⟨bA, 0, none⟩) 3 3] ∧ ErrsE wq u3 23 ∧ Up wB wq ∧ Below w.heap.size w wq) w2) _ _ hSS hwD
  refine wpAnyU_pure (i := 23) (d := (some 48)) (v := ?_) rfl rfl (by kernel_rfl) (fun _ _ _ h => h) (fun _ _ h hu => ⟨(h.1).up hu, (h.2.1).up hu, (h.2.2.1).up hu, (h.2.2.2.1).trans hu, below_up (h.2.2.2.2) hu⟩) (Or.inl ⟨by rfl, fun w' _ => yu_value ?_⟩) ?_
  rotate_left
  · (go_simp; (try exact rfl))
  try simp only [Act.put, List.setIfInBounds_toArray, List.set_cons_zero, List.set_cons_succ]
  refine wpAnyU_pure (i := 24) (d := (some 49)) (v := ?_) rfl rfl (by kernel_rfl) (fun _ _ _ h => h) (fun _ _ h hu => ⟨(h.1).up hu, (h.2.1).up hu, (h.2.2.1).up hu, (h.2.2.2.1).trans hu, below_up (h.2.2.2.2) hu⟩) (Or.inl ⟨by rfl, fun w' _ => yu_value ?_⟩) ?_
  rotate_left
  · (go_simp; (try exact rfl))
  try simp only [Act.put, List.setIfInBounds_toArray, List.set_cons_zero, List.set_cons_succ]
  refine wpAnyU_one (i := 25) rfl (by kernel_rfl) (by rfl) fun w1 hw1 => ?_
  go_simp
  refine ⟨fun h1 h2 h3 h4 h5 => ⟨h1.up (Up.alloc _ _), h2.up (Up.alloc _ _), h3.up (Up.alloc _ _), h4.trans (Up.alloc _ _), below_up h5 (Up.alloc _ _)⟩, ?_⟩
  have gU := (hSS.2.2.2.1.trans hw1).trans (Up.alloc w1 (.cells #[.int .i64 0] 2))
  refine wpAnyU_pure (i := 26) (d := (some 51)) (v := ?_) rfl rfl (by kernel_rfl) (fun _ _ _ h => h) (fun _ _ h hu => ⟨(h.1).up hu, (h.2.1).up hu, (h.2.2.1).up hu, (h.2.2.2.1).trans hu, below_up (h.2.2.2.2) hu⟩) (Or.inl ⟨by rfl, fun w' _ => yu_value ?_⟩) ?_
  rotate_left
  · (go_simp; (try exact rfl))
  try simp only [Act.put, List.setIfInBounds_toArray, List.set_cons_zero, List.set_cons_succ]
  refine wpAnyU_callE (i := 27) (d := (some 52)) rfl rfl (by kernel_rfl) (by rfl) (fun _ _ h hu => ⟨(h.1).up hu, (h.2.1).up hu, (h.2.2.1).up hu, (h.2.2.2.1).trans hu, below_up (h.2.2.2.2) hu⟩) (fun w' => by go_simp) (fun w' hw' => (callE_of (HF0.out _ _ ((vw_one w1 0).up hw')))) fun vE wE hwE hRE => ?_
  try simp only [Act.put, List.setIfInBounds_toArray, List.set_cons_zero, List.set_cons_succ]
  obtain rfl := hRE
  refine wpAnyU_pure (i := 28) (d := (some 53)) (v := ?_) rfl rfl (by kernel_rfl) (fun _ _ _ h => h) (fun _ _ h hu => ⟨(h.1).up hu, (h.2.1).up hu, (h.2.2.1).up hu, (h.2.2.2.1).trans hu, below_up (h.2.2.2.2) hu⟩) (Or.inl ⟨by rfl, fun w' _ => yu_value ?_⟩) ?_
  rotate_left
  · (go_simp; (try exact rfl))
  try simp only [Act.put, List.setIfInBounds_toArray, List.set_cons_zero, List.set_cons_succ]
  refine wpAnyU_pure (i := 29) (d := (some 54)) (v := ?_) rfl rfl (by kernel_rfl) (fun _ _ _ h => h) (fun _ _ h hu => ⟨(h.1).up hu, (h.2.1).up hu, (h.2.2.1).up hu, (h.2.2.2.1).trans hu, below_up (h.2.2.2.2) hu⟩) (Or.inl ⟨by rfl, fun w' _ => yu_value ?_⟩) ?_
  rotate_left
  · (go_simp; (try exact rfl))
  try simp only [Act.put, List.setIfInBounds_toArray, List.set_cons_zero, List.set_cons_succ]
  refine wpAnyU_pure (i := 30) (d := (some 0)) (v := ?_) rfl rfl (by kernel_rfl) (fun _ _ _ h => h) (fun _ _ h hu => ⟨(h.1).up hu, (h.2.1).up hu, (h.2.2.1).up hu, (h.2.2.2.1).trans hu, below_up (h.2.2.2.2) hu⟩) (Or.inl ⟨by rfl, fun w' _ => yu_value ?_⟩) ?_
  rotate_left
  · (go_simp; (try exact rfl))
  try simp only [Act.put, List.setIfInBounds_toArray, List.set_cons_zero]
  refine wpAnyU_done (by kernel_rfl) (fun wF huE => ?_) _
  have gE := hU.trans ((gU.trans hwE).trans huE)
  clear hS1 hS2 hS3 hS4 hSB hSS huE hwE hw1 gU hRx hBx
  go_wp2
  go_ret
  exact ⟨rfl, gE⟩
def MV (w : World) (v : Value) : Prop := ∃ N L, SmO w v N L
theorem MV.up {w w' : World} (hu : Up w w') {v : Value} (h : MV w v) : MV w' v := by obtain ⟨N, L, h⟩ := h; exact ⟨N, L, h.up hu⟩
def Pair (a0 : Int) (s0 : Value) (w : World) (v : Value) : Prop :=
  ∃ g N1 s1 L1, v = .slice (some ⟨g, 0, none⟩) 2 2 ∧ Blk w g 24 #[.int .i64 a0, s0, .int .i64 N1, s1] ∧ SmO w (.agg #[.int .i64 N1, s1]) N1 L1
theorem Pair.up {a0 : Int} {s0 : Value} {w w' : World} (hu : Up w w') {v : Value} (h : Pair a0 s0 w v) : Pair a0 s0 w' v := by
  obtain ⟨g, N1, s1, L1, h1, h2, h3⟩ := h
  exact ⟨g, N1, s1, L1, h1, h2.up hu, h3.up hu⟩
def IsRowX (k : IntKind) (w : World) (a : Option Addr) (len cap : Nat) (zs : List Int) : Prop :=
  (a = none ∧ len = 0 ∧ cap = 0 ∧ zs = []) ∨
  ∃ x, a = some x ∧ len ≤ cap ∧ cap ≤ maxLen ∧ zs.length = cap ∧ (∀ i, i < zs.length → w.cell? (x.add i) = some (.int k (zs.getD i 0))) ∧ ∀ n ∈ zs, (Lit.int k n).wf = true
theorem zth_take {l : List Int} {k i : Nat} (h : i < k) : zth (l.take k) i = zth l i := by
  unfold zth
  rw [List.getD_eq_getElem?_getD, List.getD_eq_getElem?_getD, List.getElem?_take_of_lt h]
theorem wf_nat {k : IntKind} {z : Int} {m : Nat} (h : (Lit.int k z).wf = true) (h0 : k.min = 0) (h1 : k.max = (m : Int)) : ∃ n : Nat, z = (n : Int) ∧ n < m + 1 := by
  have := (Lit.wf_int_iff k z).1 h
  rw [h0, h1] at this
  exact ⟨z.toNat, by omega, by omega⟩
theorem vh_row {w : World} {a : Option Addr} {len cap : Nat} {zs : List Int} (h : IsRowX .i16 w a len cap zs) : Vh w (.slice a len cap) (zs.take len) ∧ In16 (zs.take len) := by
  rcases h with ⟨rfl, rfl, rfl, rfl⟩ | ⟨x, rfl, hl, hm, hz, hc, hw⟩
  · exact ⟨⟨none, 0, rfl, fun i hi => absurd hi (Nat.not_lt_zero _)⟩, fun i hi => absurd hi (Nat.not_lt_zero _)⟩
  · have e : (zs.take len).length = len := by rw [List.length_take]; omega
    refine ⟨⟨some x, cap, by rw [e], fun i hi => ⟨x, rfl, ?_⟩⟩, fun i hi => ?_⟩
    · rw [e] at hi
      rw [zth_take hi]
      exact hc i (by omega)
    · rw [e] at hi
      rw [zth_take hi, zth_get (by omega)]
      have := (Lit.wf_int_iff .i16 _).1 (hw (zs[i]'(by omega)) (List.getElem_mem _))
      rw [IntKind.min_i16, IntKind.max_i16] at this
      omega
theorem run_neE {o : Oper} {ev : Operand → Value} {x y : Operand} {u : TypeId} (ho : o.op = .binOp .neq 54 x y u) {p : Nat} (hx : ev x = .agg (cells 16 (limb p))) (hy : ev y = .agg (cells 16 (limb p))) (hp : p < bp 16) (w : World) :
    (execOp ev o).run Tryz.prog w = .ok (.value (.bool false)) w := by
  unfold execOp
  simp only [ho, hx, hy, Sem.run_bind, run_eqGuard_agg _ _ _ _ _ _ _ (show Tryz.prog.eqGuardType Tryz.prog.depth 54 = false by kernel_rfl), Result.andThen_ok, run_neW hp hp, Sem.run_pure]
  simp
theorem mb_take {n c : Nat} {L L' : List Int} (hR : rt n L = true) (hc : c ≤ n) (h : Db (fun i j => ent n L i j) c c c L') : mnR c L' = (mnR n L).take c := by
  unfold mnR
  rw [hR, h.1, if_pos rfl, if_pos rfl]
  show mins c 1 (AM c L') = (mins n 1 (AM n L)).take c
  rw [← mins_take hc]
  refine mins_congr fun i j hi hj => ?_
  rw [AM_at hi hj, AM_at (by omega) (by omega), h.all (fun i j => ent_turn n L i j) i j hi hj]
theorem mnC_zero {N : Int} {L : List Int} (h : rt N L = true) : mnC N L = 0 := by unfold mnC; rw [h]; rfl
theorem zth_take2 {l : List Int} {k i : Nat} (h : i < (l.take k).length) : zth (l.take k) i = zth l i := by
  rw [List.length_take] at h
  exact zth_take (by omega)
set_option maxHeartbeats 8000000 in
theorem begin_w {w : World} {vh : Value} {hs : List Int} (n d k : Nat) (hg : Glob w)
    (hn : n < 256) (hd : d < 65536) (hvh : Vh w vh hs) (h16 : In16 hs) (hk : k < 256) :
    Calls Tryz.prog 7 #[.int .u8 (n : Nat), .int .u16 (d : Nat), vh, .int .u8 (k : Nat)] w fun r w' => r = .returned (.bool true) ∧ Up w w' := by
  have HK := hid (eknown_true hg)
  obtain ⟨ph, ch, rfl, hhc⟩ := hvh
  by_cases hC : hs.length ≤ 60
  · have HST := hid (fun w' (hu : Up w w') => seat_any n d hn hd (show Vh w' (.slice ph hs.length ch) hs from ⟨ph, ch, rfl, fun i hi => by obtain ⟨a, h1, h2⟩ := hhc i hi; exact ⟨a, h1, hu.cellEq h2⟩⟩) h16 hC)
    have d60 : decide ((60 : Int) < (hs.length : Int)) = false := decide_eq_false (by omega)
    clear hg hhc h16 hn hd
    go_enter Tryz.func7, Tryz.ntmps7
    go_upto_region 6 with (first
      | (go_at_call 22; (with_reducible refine HK.out.mono ?_); rintro r w1 ⟨rfl, hu1⟩)
      | (go_at_call 10; (with_reducible refine (HST.out _ hu1).mono ?_); rintro r w2 ⟨z2, N, L, rfl, hu2, hs2, hrt⟩; have hs2' := hs2; obtain ⟨s2, base2, rfl, hO2, -⟩ := hs2'; obtain ⟨p2, n2, c2, rfl⟩ := OwnI.slice hO2)
      | ((with_reducible apply stM_P); exact rfl; exact rfl; exact Blk.new _ _ rfl; exact rfl; exact rfl; exact two2 _ _ _ _ _
         refine wpL_folded (fun wd => Up w2 wd ∧ Blk wd w2.heap.size 24 #[.int .i64 N, .slice p2 n2 c2] ∧ SmO wd (.agg #[.int .i64 N, .slice p2 n2 c2]) N L) ⟨(by repeat (first | assumption | (with_reducible apply Up.of) | (with_reducible exact Below.refl _ _) | (with_reducible exact Up.refl _) | ((with_reducible apply bl_setRow); (focus (first | exact Nat.le_refl _ | (simp; done) | (simp; omega) | omega))) | (with_reducible apply below_drewN) | (with_reducible apply Below.drew) | ((with_reducible apply bl_alloc); (focus (first | exact Nat.le_refl _ | (simp; done) | (simp; omega) | omega))) | ((with_reducible apply bl_setCell); (focus (first | exact Nat.le_refl _ | (simp; done) | (simp; omega) | omega))) | ((with_reducible apply up_tr); assumption))), (by (repeat (first | assumption | ((with_reducible apply blk_new); (focus (first | rfl | (simp; done)))) | (with_reducible apply blk_alloc) | (with_reducible apply blk_drew) | (with_reducible apply blk_drewN) | ((with_reducible apply blk_up); assumption) | (with_reducible apply blk_same) | ((with_reducible apply blk_else); (focus (first | (simp; done) | (simp; omega) | omega)))))), (hs2.up (Up.alloc _ _)).setRow (Blk.new _ _ rfl)⟩ ?_
         rintro w3 ⟨hu3, hb3, hs3⟩))
    obtain ⟨N0, N8, -, -⟩ := rt_spec hrt
    obtain ⟨m, rfl⟩ : ∃ m : Nat, N = (m : Int) := ⟨N.toNat, by omega⟩
    obtain ⟨bM, hbM⟩ : ∃ y, w2.heap.size = y := ⟨_, rfl⟩
    rw [hbM] at hb3 ⊢
    have hU3 := (hu1.trans hu2).trans hu3
    obtain ⟨c, hc⟩ : ∃ c, k % (m + 1) = c := ⟨_, rfl⟩
    have hcm : c ≤ m := by have := Nat.mod_lt k (show 0 < m + 1 by omega); omega
    have ek : IntKind.i64.wrap (k : Int) = k := IntWalk.i64_in _ (by omega)
    have em : IntKind.i64.wrap ((m : Int) + 1) = (m : Int) + 1 := IntWalk.i64_in _ (by omega)
    have et : (k : Int).tmod ((m : Int) + 1) = (c : Int) := by rw [show (m : Int) + 1 = ((m + 1 : Nat) : Int) from rfl, ← Int.ofNat_tmod, hc]
    have ez : ((m : Int) + 1 == 0) = false := by simp; omega
    have ed : IntKind.i64.wrap ((m : Int) - c) = (m : Int) - c := IntWalk.i64_in _ (by omega)
    have hcc := hb3.cell 0 rfl
    have HDR := hid (fun w' (hu : Up w3 w') => dropb_any (hs3.sm.up hu) hrt hcm)
    have HM1 := hid (fun w' (hu : Up w3 w') => mnC_zero hrt ▸ minors_any (hs3.sm.up hu))
    have HRT := hid hrt
    clear hu1 hu2 hu3 hs2 hO2 hbM hs3 hrt hc HST hk
    go_upto_region 10 with (first
      | ((with_reducible apply ldM_P); exact rfl; exact rfl; (first | exact hb3 | exact hb5 | exact hb6); exact rfl)
      | (go_at_call 38; (with_reducible refine (HDR.out _ (Up.refl _)).mono ?_); rintro r w4 ⟨z4, rfl, hu4, L4, hs4, hD4⟩; have hs4' := hs4; obtain ⟨s4, base4, rfl, hO4, -⟩ := hs4'; obtain ⟨p4, n4, c4, rfl⟩ := OwnI.slice hO4)
      | ((with_reducible apply stM_P); exact rfl; exact rfl; exact Blk.new _ _ rfl; exact rfl; exact rfl; exact two2 _ _ _ _ _
         refine wpL_folded (fun wd => Up w4 wd ∧ Blk wd w4.heap.size 24 #[.int .i64 c, .slice p4 n4 c4] ∧ SmO wd (.agg #[.int .i64 c, .slice p4 n4 c4]) c L4) ⟨(by repeat (first | assumption | (with_reducible apply Up.of) | (with_reducible exact Below.refl _ _) | (with_reducible exact Up.refl _) | ((with_reducible apply bl_setRow); (focus (first | exact Nat.le_refl _ | (simp; done) | (simp; omega) | omega))) | (with_reducible apply below_drewN) | (with_reducible apply Below.drew) | ((with_reducible apply bl_alloc); (focus (first | exact Nat.le_refl _ | (simp; done) | (simp; omega) | omega))) | ((with_reducible apply bl_setCell); (focus (first | exact Nat.le_refl _ | (simp; done) | (simp; omega) | omega))) | ((with_reducible apply up_tr); assumption))), (by (repeat (first | assumption | ((with_reducible apply blk_new); (focus (first | rfl | (simp; done)))) | (with_reducible apply blk_alloc) | (with_reducible apply blk_drew) | (with_reducible apply blk_drewN) | ((with_reducible apply blk_up); assumption) | (with_reducible apply blk_same) | ((with_reducible apply blk_else); (focus (first | (simp; done) | (simp; omega) | omega)))))), (hs4.up (Up.alloc _ _)).setRow (Blk.new _ _ rfl)⟩ ?_
         rintro w5 ⟨hu5, hbn5, hs5⟩
         have hU5 := hu4.trans hu5
         have hb5 := hb3.up hU5
         obtain ⟨bN, hbN⟩ : ∃ y, w4.heap.size = y := ⟨_, rfl⟩
         rw [hbN] at hbn5 ⊢)
      | (go_at_call 25; first
          | ((with_reducible refine (HM1.out _ hU5).mono ?_); rintro r w6 ⟨z6, u6, rfl, hu6, hW6, he6⟩; obtain rfl := he6.elim (fun h => h.2) (fun h => absurd rfl h.1); obtain ⟨p6, c6, rfl⟩ := hW6.slice; have hb6 := hbn5.up hu6)
          | ((with_reducible refine (minors_any ((hs5.up hu6).sm)).mono ?_); rintro r w7 ⟨z7, u7, rfl, hu7, hW7, he7⟩; rw [mnC_zero hD4.1] at he7; obtain rfl := he7.elim (fun h => h.2) (fun h => absurd rfl h.1); rw [mb_take HRT.out hcm hD4] at hW7; obtain ⟨Y, hY⟩ : ∃ Y, List.take c (mnR (m : Int) L) = Y := ⟨_, rfl⟩; rw [hY] at hW7; obtain ⟨p7, c7, rfl⟩ := hW7.slice)))
    have gW6 := hW6.up hu7
    obtain ⟨X, hX⟩ : ∃ X, mnR (m : Int) L = X := ⟨_, rfl⟩
    rw [hX] at gW6 hY ⊢
    have hYl : Y.length = min c X.length := by rw [← hY, List.length_take]
    have HZ := hid (fun i (hi : i < Y.length) => show zth Y i = zth X i from by rw [← hY] at hi ⊢; exact zth_take2 hi)
    have dl1 : decide (X.length < Y.length) = false := decide_eq_false (by omega)
    have dl2 : decide ((Y.length : Int) < min (X.length : Int) (c : Int)) = false := decide_eq_false (by omega)
    have HLl := hid (show Y.length ≤ X.length from by omega)
    have hX8 : X.length ≤ 8 := hX ▸ mnR_len
    have gU := ((hU3.trans hU5).trans hu6).trans hu7
    clear hX hY hYl HRT HM1 HDR hs5 hD4 hu4 hu5 hu6 hu7 hb5 hb6 hbn5 hb3 hs4 hO4 hW6 hcc hU3 hU5 he6 he7
    go_wp2_with fail
    go_loopg [8, 17] Y.length (fun g t8 ti wr => ∃ i : Nat, i ≤ Y.length ∧ Y.length - i ≤ g ∧ ti = .int .i64 (i : Nat) ∧ Up w7 wr)
    case atStart => exact ⟨0, Nat.zero_le _, by omega, rfl, Up.refl _⟩
    case round =>
      obtain ⟨i, hi, hig, rfl, hu⟩ := hrel
      by_cases hlt : i < Y.length
      · have hlx : i < X.length := Nat.lt_of_lt_of_le hlt HLl.out
        obtain ⟨g1, cx, C1, hv1, -, hB1, ht1⟩ := gW6.open (by omega)
        injection hv1 with x1 _ x3
        subst x1 x3
        obtain ⟨g2, cy, C2, hv2, -, hB2, ht2⟩ := hW7.open (by omega)
        injection hv2 with y1 _ y3
        subst y1 y3
        have HR1 := hid (fun w' (hB : Blk w' g1 54 C1) => wv_range hB ht1 hlx)
        have HR2 := hid (fun w' (hB : Blk w' g2 54 C2) => HZ.out i hlt ▸ wv_range hB ht2 hlt)
        have hBx := hB1.up hu
        have hBy := hB2.up hu
        have e1 : IntKind.i64.wrap ((i : Int) + 1) = (i : Int) + 1 := IntWalk.i64_in _ (by omega)
        have HY := hid (show ¬ (Y.length ≤ i) from by omega)
        generalize zth X i = z at *
        clear ht1 ht2 hB1 hB2
        go_wp2_with fail
        refine wp_region_sp (n := 90) 9 [81, 82, 83, 84, 85, 86, 87, 88, 89] [SP.is (.slice (some ⟨g1, 0, none⟩) X.length c6), SP.is (.int .i64 (i : Nat)), SP.is (.pointer (some ⟨g1, i * 16, none⟩)), SP.is (.agg (cells 16 (limb (enc z)))), SP.is (.slice (some ⟨g2, 0, none⟩) Y.length c7), SP.is (.int .i64 (i : Nat)), SP.is (.pointer (some ⟨g2, i * 16, none⟩)), SP.is (.agg (cells 16 (limb (enc z)))), SP.is (.bool false)] (fun wq => Blk wq g1 54 C1 ∧ Blk wq g2 54 C2 ∧ Up w7 wq ∧ Below w.heap.size w wq) (by kernel_rfl) (by rfl) (by kernel_rfl) (by kernel_rfl) (fun _ _ h hu => ⟨(h.1).up hu, (h.2.1).up hu, (h.2.2.1).trans hu, below_up (h.2.2.2) hu⟩) ⟨(by first | assumption | ((repeat (first | assumption | ((with_reducible apply blk_new); (focus (first | rfl | (simp; done)))) | (with_reducible apply blk_alloc) | (with_reducible apply blk_drew) | (with_reducible apply blk_drewN) | ((with_reducible apply blk_up); assumption) | (with_reducible apply blk_same) | ((with_reducible apply blk_else); (focus (first | (simp; done) | (simp; omega) | omega))))))), (by first | assumption | ((repeat (first | assumption | ((with_reducible apply blk_new); (focus (first | rfl | (simp; done)))) | (with_reducible apply blk_alloc) | (with_reducible apply blk_drew) | (with_reducible apply blk_drewN) | ((with_reducible apply blk_up); assumption) | (with_reducible apply blk_same) | ((with_reducible apply blk_else); (focus (first | (simp; done) | (simp; omega) | omega))))))), (by first | exact Up.refl _ | assumption), (by repeat (first | assumption | (with_reducible apply Up.of) | (with_reducible exact Below.refl _ _) | (with_reducible exact Up.refl _) | ((with_reducible apply bl_setRow); (focus (first | exact Nat.le_refl _ | (simp; done) | (simp; omega) | omega))) | (with_reducible apply below_drewN) | (with_reducible apply Below.drew) | ((with_reducible apply bl_alloc); (focus (first | exact Nat.le_refl _ | (simp; done) | (simp; omega) | omega))) | ((with_reducible apply bl_setCell); (focus (first | exact Nat.le_refl _ | (simp; done) | (simp; omega) | omega))) | ((with_reducible apply up_tr); assumption)))⟩ (fun ev w9 hS9 i o hne hi hev => ?_) (fun gR wE hq hSE huE => ?_)
        · have ⟨hS1, hS2, hS3, hSB⟩ := hS9
          have hcC := hev.const
          have hcF := hev.func
          have hcG := hev.global
          rcases i with _ | _ | _ | _ | _ | _ | _ | _ | _ | i
          · obtain rfl := Option.some.inj (show some _ = some o from hi)
            have e13 := hev.other 13 (by kernel_rfl)
            simp [Act.eval] at e13
            exact leavesR_value (u := .slice (some ⟨g1, 0, none⟩) X.length c6) (by first | (go_simp; done) | (go_simp; exact rfl)) rfl
          · obtain rfl := Option.some.inj (show some _ = some o from hi)
            have e17 := hev.other 17 (by kernel_rfl)
            simp [Act.eval] at e17
            exact leavesR_value (u := .int .i64 (i : Nat)) (by first | (go_simp; done) | (go_simp; exact rfl)) rfl
          · obtain rfl := Option.some.inj (show some _ = some o from hi)
            have e81 : ev (.tmp 81) = (.slice (some ⟨g1, 0, none⟩) X.length c6) := hev.dep 0 81 (by kernel_rfl)
            have e82 : ev (.tmp 82) = (.int .i64 (i : Nat)) := hev.dep 1 82 (by kernel_rfl)
            exact leavesR_value (u := .pointer (some ⟨g1, i * 16, none⟩)) (by first | (go_simp; done) | (go_simp; exact rfl)) rfl
          · obtain rfl := Option.some.inj (show some _ = some o from hi)
            have e83 : ev (.tmp 83) = (.pointer (some ⟨g1, i * 16, none⟩)) := hev.dep 2 83 (by kernel_rfl)
            exact leavesR_value (run_ldW rfl e83 (HR1.out _ hS1)) rfl
          · obtain rfl := Option.some.inj (show some _ = some o from hi)
            have e15 := hev.other 15 (by kernel_rfl)
            simp [Act.eval] at e15
            exact leavesR_value (u := .slice (some ⟨g2, 0, none⟩) Y.length c7) (by first | (go_simp; done) | (go_simp; exact rfl)) rfl
          · obtain rfl := Option.some.inj (show some _ = some o from hi)
            have e17 := hev.other 17 (by kernel_rfl)
            simp [Act.eval] at e17
            exact leavesR_value (u := .int .i64 (i : Nat)) (by first | (go_simp; done) | (go_simp; exact rfl)) rfl
          · obtain rfl := Option.some.inj (show some _ = some o from hi)
            have e85 : ev (.tmp 85) = (.slice (some ⟨g2, 0, none⟩) Y.length c7) := hev.dep 4 85 (by kernel_rfl)
            have e86 : ev (.tmp 86) = (.int .i64 (i : Nat)) := hev.dep 5 86 (by kernel_rfl)
            exact leavesR_value (u := .pointer (some ⟨g2, i * 16, none⟩)) (by first | (go_simp; done) | (go_simp; exact rfl)) rfl
          · obtain rfl := Option.some.inj (show some _ = some o from hi)
            have e87 : ev (.tmp 87) = (.pointer (some ⟨g2, i * 16, none⟩)) := hev.dep 6 87 (by kernel_rfl)
            exact leavesR_value (run_ldW rfl e87 (HR2.out _ hS2)) rfl
          · obtain rfl := Option.some.inj (show some _ = some o from hi)
            have e84 : ev (.tmp 84) = (.agg (cells 16 (limb (enc z)))) := hev.dep 3 84 (by kernel_rfl)
            have e88 : ev (.tmp 88) = (.agg (cells 16 (limb (enc z)))) := hev.dep 7 88 (by kernel_rfl)
            exact leavesR_value (run_neE rfl e84 e88 (enc_lt z) _) rfl
          · exact absurd (show i + 9 < 9 from (Array.getElem?_eq_some_iff.1 hi).1) (by omega)
        have ⟨hS1, hS2, hS3, hSB⟩ := hSE
        have q0 : gR 81 = (.slice (some ⟨g1, 0, none⟩) X.length c6) := hq 0 81 (by decide) (by kernel_rfl)
        have q1 : gR 82 = (.int .i64 (i : Nat)) := hq 1 82 (by decide) (by kernel_rfl)
        have q2 : gR 83 = (.pointer (some ⟨g1, i * 16, none⟩)) := hq 2 83 (by decide) (by kernel_rfl)
        have q3 : gR 84 = (.agg (cells 16 (limb (enc z)))) := hq 3 84 (by decide) (by kernel_rfl)
        have q4 : gR 85 = (.slice (some ⟨g2, 0, none⟩) Y.length c7) := hq 4 85 (by decide) (by kernel_rfl)
        have q5 : gR 86 = (.int .i64 (i : Nat)) := hq 5 86 (by decide) (by kernel_rfl)
        have q6 : gR 87 = (.pointer (some ⟨g2, i * 16, none⟩)) := hq 6 87 (by decide) (by kernel_rfl)
        have q7 : gR 88 = (.agg (cells 16 (limb (enc z)))) := hq 7 88 (by decide) (by kernel_rfl)
        have q8 : gR 89 = (.bool false) := hq 8 89 (by decide) (by kernel_rfl)
        refine ⟨fun _ => ?_, fun o ho => by simp at ho⟩
        simp only [putL, List.map_cons, List.map_nil, q0, q1, q2, q3, q4, q5, q6, q7, q8, Act.put, List.setIfInBounds_toArray, List.set_cons_zero, List.set_cons_succ]
        clear hq hSE q0 q1 q2 q3 q4 q5 q6 q7 q8
        clear hS1 hS2 hSB
        go_wp2_with fail
        go_roundg (Y.length - (i + 1))
        case measure => omega
        case rel => exact ⟨i + 1, hlt, Nat.le_refl _, rfl, hS3⟩
      · obtain rfl : i = Y.length := by omega
        go_wp2_with fail
        go_ret
        exact ⟨rfl, gU.trans hu⟩
  · have d60 : decide ((60 : Int) < (hs.length : Int)) = true := decide_eq_true (by omega)
    clear hg hhc h16 hn hd
    go_enter Tryz.func7, Tryz.ntmps7
    go_wp2_with (first
      | (go_at_call 22; (with_reducible refine HK.out.mono ?_); rintro r w1 ⟨rfl, hu1⟩))
    go_ret
    exact ⟨rfl, hu1⟩
theorem begin_row {w : World} {a0 a1 a3 : Int} {p2 : Option Addr} {len2 cap2 : Nat} {z2 : List Int} (hg : Glob w) (w0 : (Lit.int .u8 a0).wf = true) (w1 : (Lit.int .u16 a1).wf = true) (w2 : IsRowX .i16 w p2 len2 cap2 z2) (w3 : (Lit.int .u8 a3).wf = true) :
    Calls Tryz.prog 7 #[.int .u8 a0, .int .u16 a1, .slice p2 len2 cap2, .int .u8 a3] w fun r w' => r = .returned (.bool true) ∧ Up w w' := by
  obtain ⟨n, rfl, hn⟩ := wf_nat (m := 255) w0 IntKind.min_u8 IntKind.max_u8
  obtain ⟨d, rfl, hd⟩ := wf_nat (m := 65535) w1 IntKind.min_u16 IntKind.max_u16
  obtain ⟨k, rfl, hk⟩ := wf_nat (m := 255) w3 IntKind.min_u8 IntKind.max_u8
  exact begin_w n d k hg hn hd (vh_row w2).1 (vh_row w2).2 hk
end Go.Proofs.YtdcpoamjmoceiaaGreatDoor
namespace Go.Proofs.YtdcpoamjmoceiaaGreatDoor
open Go.ChangeShapes Go.WideShapes Go.RowKit
set_option maxRecDepth 100000
theorem own4 : ownKnob Tryz.prog.godebug = none := by kernel_rfl
theorem et4 : Tryz.prog.globalNamed "errors.errorType" = some 0 := by kernel_rfl
theorem rt4 : (Tryz.prog.cutTypes.find? (·.1 == "internal/reflectlite.rtype")).map (·.2) = some 171 := by kernel_rfl
theorem oneRow4 : ((List.range 222).filter fun t => Tryz.prog.rowNamed t [101, 114, 114, 111, 114]) = [34] := by kernel_rfl
theorem size4 : Tryz.prog.types.size = 222 := by kernel_rfl
theorem glob_of_laid {W : World} (h : laidMetH Tryz.prog [("errors.errorType", Rows.laid_errors_errorType)] W) : Glob W := by
  have h' : laidMet Tryz.prog [] W ∧ handlesMet Tryz.prog [("errors.errorType", Rows.laid_errors_errorType)] W := h
  obtain ⟨name, u, ty, e1, e2, e3, e4, e5⟩ := h'.2 _ (List.mem_singleton.2 rfl)
  have en : name = [101, 114, 114, 111, 114] := (Option.some.inj e1).symm
  subst en
  obtain rfl := Option.some.inj (rt4.symm.trans e2)
  have hm : ty ∈ (List.range 222).filter fun t => Tryz.prog.rowNamed t [101, 114, 114, 111, 114] := List.mem_filter.2 ⟨List.mem_range.2 (by rw [← size4]; exact e3), e4⟩
  rw [oneRow4] at hm
  obtain rfl := List.mem_singleton.1 hm
  have hh : typeHandle Tryz.prog 34 = .pointer (some ⟨3, 34, none⟩) := by kernel_rfl
  rw [hh] at e5
  unfold Glob
  simpa using World.var?_cell et4 e5 0
noncomputable def laidWorld (os : Os) : World :=
  let w0 := World.holding Tryz.prog os ⟨#[], #[], []⟩
  { w0 with heap := w0.heap.modify 0 fun
      | .cells _ t frozen => .cells #[.iface 171 (.agg #[.pointer (some ⟨3, 34, none⟩)])] t frozen
      | o => o }
theorem laidWorld_met (os : Os) (args : Array Value) : laidMetH Tryz.prog [("errors.errorType", Rows.laid_errors_errorType)] ((laidWorld os).forCall (fun _ _ => 0) ⟨#[], args, []⟩).memory :=
  laidMetH_of_parts (laidMet_nil _ _) (by kernel_rfl)
end Go.Proofs.YtdcpoamjmoceiaaGreatDoor
