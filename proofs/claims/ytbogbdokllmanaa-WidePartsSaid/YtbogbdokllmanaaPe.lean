/-
  What the claim's law is built of: RefE, RefF, RefG, RefH, I64, RefI, RefJ, RefK, RefL, RefM.
-/
import Derived.Test.YtbogbdokllmanaaPd
import Derived.OwnWalk
import Derived.Laws.CopyOwn
/-
  The reference's sums and differences of whole numbers.
-/
namespace Go.Proofs.Ytbogbdokllmanaa
open Go Go.RowKit
set_option maxRecDepth 100000

theorem Am.setRow {w : World} {v : Value} {x g : Nat} {C D : Array Value} (h : Am w v x) (hg : Blk w g 30 C) : Am (w.setRow g D) v x := by
  obtain ⟨a, c, h1, h2, h3⟩ := h
  refine ⟨a, c, h1, h2, fun h0 => ?_⟩
  obtain ⟨b, E, h4, h6, h7⟩ := h3 h0
  refine ⟨b, E, h4, h6.row_other D ?_, h7⟩
  rintro rfl
  unfold Blk at *
  rw [hg] at h6
  simp at h6
theorem Big.setRow {w : World} {v : Value} {z : Int} {g : Nat} {C D : Array Value} (h : Big w v z) (hg : Blk w g 30 C) : Big (w.setRow g D) v z := by
  obtain ⟨a, c, h1, h2⟩ := h
  exact ⟨a, c, h1, h2.setRow hg⟩
theorem Big.shape {w : World} {v : Value} {z : Int} (h : Big w v z) : ∃ b a n c, v = .agg #[.bool b, .slice a n c] := by
  obtain ⟨a, c, h1, _⟩ := h
  exact ⟨_, a, _, c, h1⟩
theorem pm_int (z : Int) : z = pm (decide (z < 0)) z.natAbs := by
  by_cases h : z < 0 <;> simp [pm, h] <;> omega
theorem pm_same (p : Bool) (X Y : Nat) : pm p X + pm p Y = pm p (X + Y) := by cases p <;> simp [pm] <;> omega
theorem pm_more {p : Bool} {X Y : Nat} (h : Y ≤ X) : pm p X + pm (!p) Y = pm p (X - Y) := by cases p <;> simp [pm] <;> omega
theorem pm_less {p : Bool} {X Y : Nat} (h : X < Y) : pm p X + pm (!p) Y = pm (!p) (Y - X) := by cases p <;> simp [pm] <;> omega
set_option maxHeartbeats 1000000 in
theorem add_pm (p q : Bool) (X Y : Nat) (a b : Option Addr) (ca cb : Nat) (w : World) (hA : Am w (.slice a (nl X) ca) X) (hB : Am w (.slice b (nl Y) cb) Y) (hx : nl X < 50000) (hy : nl Y < 50000) :
    Calls Try.prog 16 #[.agg #[.bool p, .slice a (nl X) ca], .agg #[.bool q, .slice b (nl Y) cb]] w fun e w' => Up w w' ∧ ∃ v, e = .returned v ∧ Big w' v (pm p X + pm q Y) := by
  by_cases hpq : p = q
  · subst hpq
    rw [pm_same]
    go_enter Try.func16, Try.ntmps16
    go_wp2
    refine wp_region_upH (S := (fun wq => Blk wq (w.heap.size + 1 + 1) 30 #[.bool false, .slice none 0 0] ∧ wq.cell? ⟨w.heap.size, 0, none⟩ = some (.bool p) ∧ wq.cell? ⟨w.heap.size, 1, none⟩ = some (.slice a (nl X) ca) ∧ wq.cell? ⟨w.heap.size + 1, 1, none⟩ = some (.slice b (nl Y) cb) ∧ Below w.heap.size w wq)) (req := (fun j => j != 8)) (by kernel_rfl) (fun _ _ h hu => ⟨(h.1).up hu, hu.cell (h.2.1), hu.cell (h.2.2.1), hu.cell (h.2.2.2.1), below_up (h.2.2.2.2) hu⟩) ⟨(by (repeat (first | assumption | ((with_reducible apply blk_new); (focus (first | rfl | (simp; done)))) | (with_reducible apply blk_alloc) | (with_reducible apply blk_drew) | (with_reducible apply blk_drewN) | ((with_reducible apply blk_up); assumption) | (with_reducible apply blk_same) | ((with_reducible apply blk_else); (focus (first | (simp; done) | (simp; omega) | omega)))))), (by first | assumption | (apply Blk.cell; (focus (repeat (first | assumption | ((with_reducible apply blk_new); (focus (first | rfl | (simp; done)))) | (with_reducible apply blk_alloc) | (with_reducible apply blk_drew) | (with_reducible apply blk_drewN) | ((with_reducible apply blk_up); assumption) | (with_reducible apply blk_same) | ((with_reducible apply blk_else); (focus (first | (simp; done) | (simp; omega) | omega)))))); exact rfl)), (by first | assumption | (apply Blk.cell; (focus (repeat (first | assumption | ((with_reducible apply blk_new); (focus (first | rfl | (simp; done)))) | (with_reducible apply blk_alloc) | (with_reducible apply blk_drew) | (with_reducible apply blk_drewN) | ((with_reducible apply blk_up); assumption) | (with_reducible apply blk_same) | ((with_reducible apply blk_else); (focus (first | (simp; done) | (simp; omega) | omega)))))); exact rfl)), (by first | assumption | (apply Blk.cell; (focus (repeat (first | assumption | ((with_reducible apply blk_new); (focus (first | rfl | (simp; done)))) | (with_reducible apply blk_alloc) | (with_reducible apply blk_drew) | (with_reducible apply blk_drewN) | ((with_reducible apply blk_up); assumption) | (with_reducible apply blk_same) | ((with_reducible apply blk_else); (focus (first | (simp; done) | (simp; omega) | omega)))))); exact rfl)), (by repeat (first | assumption | (with_reducible apply Up.of) | (with_reducible exact Below.refl _ _) | (with_reducible exact Up.refl _) | ((with_reducible apply bl_setRow); (focus (first | exact Nat.le_refl _ | (simp; done) | (simp; omega) | omega))) | (with_reducible apply below_drewN) | (with_reducible apply Below.drew) | ((with_reducible apply bl_alloc); (focus (first | exact Nat.le_refl _ | (simp; done) | (simp; omega) | omega))) | ((with_reducible apply bl_setCell); (focus (first | exact Nat.le_refl _ | (simp; done) | (simp; omega) | omega))) | ((with_reducible apply up_tr); assumption)))⟩ (fun wS hSS hSu => ?_)
    have ⟨hS1, hS2, hS3, hS4, hSB⟩ := hSS
    refine wpAnyU_pure (i := 0) (d := (some 10)) (v := ?_) rfl rfl (by kernel_rfl) (fun _ _ _ h => h) hSu.out (Or.inl ⟨by rfl, fun w' _ => yu_value ?_⟩) ?_
    rotate_left
    · (go_simp; (try exact rfl))
    try simp only [Act.put, pu1, pu2, pu3]
    refine wpAnyU_take (i := 1) (d := (some 11)) (v := ?_) rfl rfl (by kernel_rfl) (fun _ _ _ h => h) hSu.out hSS (Or.inl ⟨by rfl, fun w' hSw => yu_value ?_⟩) ?_
    rotate_left
    · ((try dsimp only at hSw); (try obtain ⟨_, _, _, _, _⟩ := hSw); go_simp; (try exact rfl))
    try simp only [Act.put, pu1, pu2, pu3]
    refine wpAnyU_pure (i := 2) (d := (some 12)) (v := ?_) rfl rfl (by kernel_rfl) (fun _ _ _ h => h) hSu.out (Or.inl ⟨by rfl, fun w' _ => yu_value ?_⟩) ?_
    rotate_left
    · (go_simp; (try exact rfl))
    try simp only [Act.put, pu1, pu2, pu3]
    refine wpAnyU_take (i := 3) (d := (some 13)) (v := ?_) rfl rfl (by kernel_rfl) (fun _ _ _ h => h) hSu.out hSS (Or.inl ⟨by rfl, fun w' hSw => yu_value ?_⟩) ?_
    rotate_left
    · ((try dsimp only at hSw); (try obtain ⟨_, _, _, _, _⟩ := hSw); go_simp; (try exact rfl))
    try simp only [Act.put, pu1, pu2, pu3]
    refine wpAnyU_pure (i := 4) (d := (some 14)) (v := ?_) rfl rfl (by kernel_rfl) (fun _ _ _ h => h) hSu.out (Or.inl ⟨by rfl, fun w' _ => yu_value ?_⟩) ?_
    rotate_left
    · (go_simp; (try exact rfl))
    try simp only [Act.put, pu1, pu2, pu3]
    refine wpAnyU_take (i := 5) (d := (some 15)) (v := ?_) rfl rfl (by kernel_rfl) (fun _ _ _ h => h) hSu.out hSS (Or.inl ⟨by rfl, fun w' hSw => yu_value ?_⟩) ?_
    rotate_left
    · ((try dsimp only at hSw); (try obtain ⟨_, _, _, _, _⟩ := hSw); go_simp; (try exact rfl))
    try simp only [Act.put, pu1, pu2, pu3]
    refine wpAnyU_callE (i := 6) (d := (some 16)) rfl rfl (by kernel_rfl) (by rfl) hSu.out (fun w' => by go_simp) (fun w' hw' => plus_am (hA.up (below_up hSB hw')) (hB.up (below_up hSB hw')) (by omega) (by omega)) fun vP wP hwP hRP => ?_
    try simp only [Act.put, pu1, pu2, pu3]
    obtain ⟨a1, c1, rfl⟩ := hRP.shape
    refine wpAnyU_callE (i := 7) (d := (some 17)) rfl rfl (by kernel_rfl) (by rfl) hSu.out (fun w' => by go_simp) (fun w' hw' => callE_of (made_any p a1 (nl (X + Y)) c1 w')) fun vM wM hwM hRM => ?_
    try simp only [Act.put, pu1, pu2, pu3]
    subst hRM
    refine wpAnyU_one (i := 8) rfl (by kernel_rfl) (by rfl) fun w2 hw2 => ?_
    have gK := ((hS1.up hwP).up hwM).up hw2
    refine wp_stB rfl rfl rfl rfl gK rfl rfl (one2 _ _ _ _) ?_
    refine ⟨fun h => by simp at h, ?_⟩
    try simp only [Act.put, pu1, pu2, pu3]
    refine wpAnyU_done (by kernel_rfl) (fun wF huE => ?_) _
    have gR := (gK.setRow #[.bool (p && decide (0 < nl (X + Y))), .slice a1 (nl (X + Y)) c1]).up huE
    have gA := (((hRP.up hwM).up hw2).setRow (D := #[.bool (p && decide (0 < nl (X + Y))), .slice a1 (nl (X + Y)) c1]) gK).up huE
    have gB := below_up (below_setRow (below_up (below_up (below_up hSB hwP) hwM) hw2) (show w.heap.size ≤ w.heap.size + 1 + 1 by omega) #[.bool (p && decide (0 < nl (X + Y))), .slice a1 (nl (X + Y)) c1]) huE
    have gBig := big_made p gA
    clear gK hRP hwP hwM hw2 huE hS1 hS2 hS3 hS4 hSB hSS gA
    go_wp2
    exact bodyPost_ret (resB rfl rfl gR rfl) rfl ⟨gB, _, rfl, gBig⟩
  · have hq : q = !p := by cases p <;> cases q <;> simp_all
    subst hq
    have d0 : (p == !p) = false := by cases p <;> rfl
    clear hpq
    by_cases hc : Y ≤ X
    · rw [pm_more hc]
      have d1 : decide (0 ≤ ordZ X Y) = true := by
        unfold ordZ
        rw [if_neg (by omega)]
        split <;> simp
      go_enter Try.func16, Try.ntmps16
      go_wp2_with (first | (go_at_call 36; (with_reducible refine (cmp_am (hA.up (by repeat (first | assumption | (with_reducible apply Up.of) | (with_reducible exact Below.refl _ _) | (with_reducible exact Up.refl _) | ((with_reducible apply bl_setRow); (focus (first | exact Nat.le_refl _ | (simp; done) | (simp; omega) | omega))) | (with_reducible apply below_drewN) | (with_reducible apply Below.drew) | ((with_reducible apply bl_alloc); (focus (first | exact Nat.le_refl _ | (simp; done) | (simp; omega) | omega))) | ((with_reducible apply bl_setCell); (focus (first | exact Nat.le_refl _ | (simp; done) | (simp; omega) | omega))) | ((with_reducible apply up_tr); assumption)))) (hB.up (by repeat (first | assumption | (with_reducible apply Up.of) | (with_reducible exact Below.refl _ _) | (with_reducible exact Up.refl _) | ((with_reducible apply bl_setRow); (focus (first | exact Nat.le_refl _ | (simp; done) | (simp; omega) | omega))) | (with_reducible apply below_drewN) | (with_reducible apply Below.drew) | ((with_reducible apply bl_alloc); (focus (first | exact Nat.le_refl _ | (simp; done) | (simp; omega) | omega))) | ((with_reducible apply bl_setCell); (focus (first | exact Nat.le_refl _ | (simp; done) | (simp; omega) | omega))) | ((with_reducible apply up_tr); assumption)))) (by omega) (by omega)).mono ?_); rintro e wC ⟨rfl, huC⟩))
      refine wp_region_upH (S := (fun wq => Blk wq (w.heap.size + 1 + 1) 30 #[.bool false, .slice none 0 0] ∧ wq.cell? ⟨w.heap.size, 0, none⟩ = some (.bool p) ∧ wq.cell? ⟨w.heap.size, 1, none⟩ = some (.slice a (nl X) ca) ∧ wq.cell? ⟨w.heap.size + 1, 1, none⟩ = some (.slice b (nl Y) cb) ∧ Below w.heap.size w wq)) (req := (fun j => j != 8)) (by kernel_rfl) (fun _ _ h hu => ⟨(h.1).up hu, hu.cell (h.2.1), hu.cell (h.2.2.1), hu.cell (h.2.2.2.1), below_up (h.2.2.2.2) hu⟩) ⟨(by (repeat (first | assumption | ((with_reducible apply blk_new); (focus (first | rfl | (simp; done)))) | (with_reducible apply blk_alloc) | (with_reducible apply blk_drew) | (with_reducible apply blk_drewN) | ((with_reducible apply blk_up); assumption) | (with_reducible apply blk_same) | ((with_reducible apply blk_else); (focus (first | (simp; done) | (simp; omega) | omega)))))), (by first | assumption | (apply Blk.cell; (focus (repeat (first | assumption | ((with_reducible apply blk_new); (focus (first | rfl | (simp; done)))) | (with_reducible apply blk_alloc) | (with_reducible apply blk_drew) | (with_reducible apply blk_drewN) | ((with_reducible apply blk_up); assumption) | (with_reducible apply blk_same) | ((with_reducible apply blk_else); (focus (first | (simp; done) | (simp; omega) | omega)))))); exact rfl)), (by first | assumption | (apply Blk.cell; (focus (repeat (first | assumption | ((with_reducible apply blk_new); (focus (first | rfl | (simp; done)))) | (with_reducible apply blk_alloc) | (with_reducible apply blk_drew) | (with_reducible apply blk_drewN) | ((with_reducible apply blk_up); assumption) | (with_reducible apply blk_same) | ((with_reducible apply blk_else); (focus (first | (simp; done) | (simp; omega) | omega)))))); exact rfl)), (by first | assumption | (apply Blk.cell; (focus (repeat (first | assumption | ((with_reducible apply blk_new); (focus (first | rfl | (simp; done)))) | (with_reducible apply blk_alloc) | (with_reducible apply blk_drew) | (with_reducible apply blk_drewN) | ((with_reducible apply blk_up); assumption) | (with_reducible apply blk_same) | ((with_reducible apply blk_else); (focus (first | (simp; done) | (simp; omega) | omega)))))); exact rfl)), (by repeat (first | assumption | (with_reducible apply Up.of) | (with_reducible exact Below.refl _ _) | (with_reducible exact Up.refl _) | ((with_reducible apply bl_setRow); (focus (first | exact Nat.le_refl _ | (simp; done) | (simp; omega) | omega))) | (with_reducible apply below_drewN) | (with_reducible apply Below.drew) | ((with_reducible apply bl_alloc); (focus (first | exact Nat.le_refl _ | (simp; done) | (simp; omega) | omega))) | ((with_reducible apply bl_setCell); (focus (first | exact Nat.le_refl _ | (simp; done) | (simp; omega) | omega))) | ((with_reducible apply up_tr); assumption)))⟩ (fun wS hSS hSu => ?_)
      have ⟨hS1, hS2, hS3, hS4, hSB⟩ := hSS
      refine wpAnyU_pure (i := 0) (d := (some 24)) (v := ?_) rfl rfl (by kernel_rfl) (fun _ _ _ h => h) hSu.out (Or.inl ⟨by rfl, fun w' _ => yu_value ?_⟩) ?_
      rotate_left
      · (go_simp; (try exact rfl))
      try simp only [Act.put, pu1, pu2, pu3]
      refine wpAnyU_take (i := 1) (d := (some 25)) (v := ?_) rfl rfl (by kernel_rfl) (fun _ _ _ h => h) hSu.out hSS (Or.inl ⟨by rfl, fun w' hSw => yu_value ?_⟩) ?_
      rotate_left
      · ((try dsimp only at hSw); (try obtain ⟨_, _, _, _, _⟩ := hSw); go_simp; (try exact rfl))
      try simp only [Act.put, pu1, pu2, pu3]
      refine wpAnyU_pure (i := 2) (d := (some 26)) (v := ?_) rfl rfl (by kernel_rfl) (fun _ _ _ h => h) hSu.out (Or.inl ⟨by rfl, fun w' _ => yu_value ?_⟩) ?_
      rotate_left
      · (go_simp; (try exact rfl))
      try simp only [Act.put, pu1, pu2, pu3]
      refine wpAnyU_take (i := 3) (d := (some 27)) (v := ?_) rfl rfl (by kernel_rfl) (fun _ _ _ h => h) hSu.out hSS (Or.inl ⟨by rfl, fun w' hSw => yu_value ?_⟩) ?_
      rotate_left
      · ((try dsimp only at hSw); (try obtain ⟨_, _, _, _, _⟩ := hSw); go_simp; (try exact rfl))
      try simp only [Act.put, pu1, pu2, pu3]
      refine wpAnyU_pure (i := 4) (d := (some 28)) (v := ?_) rfl rfl (by kernel_rfl) (fun _ _ _ h => h) hSu.out (Or.inl ⟨by rfl, fun w' _ => yu_value ?_⟩) ?_
      rotate_left
      · (go_simp; (try exact rfl))
      try simp only [Act.put, pu1, pu2, pu3]
      refine wpAnyU_take (i := 5) (d := (some 29)) (v := ?_) rfl rfl (by kernel_rfl) (fun _ _ _ h => h) hSu.out hSS (Or.inl ⟨by rfl, fun w' hSw => yu_value ?_⟩) ?_
      rotate_left
      · ((try dsimp only at hSw); (try obtain ⟨_, _, _, _, _⟩ := hSw); go_simp; (try exact rfl))
      try simp only [Act.put, pu1, pu2, pu3]
      refine wpAnyU_callE (i := 6) (d := (some 30)) rfl rfl (by kernel_rfl) (by rfl) hSu.out (fun w' => by go_simp) (fun w' hw' => minus_am (hA.up (below_up hSB hw')) (hB.up (below_up hSB hw')) (by omega) hc) fun vP wP hwP hRP => ?_
      try simp only [Act.put, pu1, pu2, pu3]
      obtain ⟨a1, c1, rfl⟩ := hRP.shape
      refine wpAnyU_callE (i := 7) (d := (some 31)) rfl rfl (by kernel_rfl) (by rfl) hSu.out (fun w' => by go_simp) (fun w' hw' => callE_of (made_any p a1 (nl (X - Y)) c1 w')) fun vM wM hwM hRM => ?_
      try simp only [Act.put, pu1, pu2, pu3]
      subst hRM
      refine wpAnyU_one (i := 8) rfl (by kernel_rfl) (by rfl) fun w2 hw2 => ?_
      have gK := ((hS1.up hwP).up hwM).up hw2
      refine wp_stB rfl rfl rfl rfl gK rfl rfl (one2 _ _ _ _) ?_
      refine ⟨fun h => by simp at h, ?_⟩
      try simp only [Act.put, pu1, pu2, pu3]
      refine wpAnyU_done (by kernel_rfl) (fun wF huE => ?_) _
      have gR := (gK.setRow #[.bool (p && decide (0 < nl (X - Y))), .slice a1 (nl (X - Y)) c1]).up huE
      have gA := (((hRP.up hwM).up hw2).setRow (D := #[.bool (p && decide (0 < nl (X - Y))), .slice a1 (nl (X - Y)) c1]) gK).up huE
      have gB := below_up (below_setRow (below_up (below_up (below_up hSB hwP) hwM) hw2) (show w.heap.size ≤ w.heap.size + 1 + 1 by omega) #[.bool (p && decide (0 < nl (X - Y))), .slice a1 (nl (X - Y)) c1]) huE
      have gBig := big_made p gA
      clear gK hRP hwP hwM hw2 huE hS1 hS2 hS3 hS4 hSB hSS gA
      go_wp2
      exact bodyPost_ret (resB rfl rfl gR rfl) rfl ⟨gB, _, rfl, gBig⟩
    · rw [pm_less (by omega)]
      have d1 : decide (0 ≤ ordZ X Y) = false := by
        unfold ordZ
        rw [if_pos (by omega)]
        rfl
      go_enter Try.func16, Try.ntmps16
      go_wp2_with (first | (go_at_call 36; (with_reducible refine (cmp_am (hA.up (by repeat (first | assumption | (with_reducible apply Up.of) | (with_reducible exact Below.refl _ _) | (with_reducible exact Up.refl _) | ((with_reducible apply bl_setRow); (focus (first | exact Nat.le_refl _ | (simp; done) | (simp; omega) | omega))) | (with_reducible apply below_drewN) | (with_reducible apply Below.drew) | ((with_reducible apply bl_alloc); (focus (first | exact Nat.le_refl _ | (simp; done) | (simp; omega) | omega))) | ((with_reducible apply bl_setCell); (focus (first | exact Nat.le_refl _ | (simp; done) | (simp; omega) | omega))) | ((with_reducible apply up_tr); assumption)))) (hB.up (by repeat (first | assumption | (with_reducible apply Up.of) | (with_reducible exact Below.refl _ _) | (with_reducible exact Up.refl _) | ((with_reducible apply bl_setRow); (focus (first | exact Nat.le_refl _ | (simp; done) | (simp; omega) | omega))) | (with_reducible apply below_drewN) | (with_reducible apply Below.drew) | ((with_reducible apply bl_alloc); (focus (first | exact Nat.le_refl _ | (simp; done) | (simp; omega) | omega))) | ((with_reducible apply bl_setCell); (focus (first | exact Nat.le_refl _ | (simp; done) | (simp; omega) | omega))) | ((with_reducible apply up_tr); assumption)))) (by omega) (by omega)).mono ?_); rintro e wC ⟨rfl, huC⟩))
      refine wp_region_upH (S := (fun wq => Blk wq (w.heap.size + 1 + 1) 30 #[.bool false, .slice none 0 0] ∧ wq.cell? ⟨w.heap.size + 1, 0, none⟩ = some (.bool (!p)) ∧ wq.cell? ⟨w.heap.size + 1, 1, none⟩ = some (.slice b (nl Y) cb) ∧ wq.cell? ⟨w.heap.size, 1, none⟩ = some (.slice a (nl X) ca) ∧ Below w.heap.size w wq)) (req := (fun j => j != 8)) (by kernel_rfl) (fun _ _ h hu => ⟨(h.1).up hu, hu.cell (h.2.1), hu.cell (h.2.2.1), hu.cell (h.2.2.2.1), below_up (h.2.2.2.2) hu⟩) ⟨(by (repeat (first | assumption | ((with_reducible apply blk_new); (focus (first | rfl | (simp; done)))) | (with_reducible apply blk_alloc) | (with_reducible apply blk_drew) | (with_reducible apply blk_drewN) | ((with_reducible apply blk_up); assumption) | (with_reducible apply blk_same) | ((with_reducible apply blk_else); (focus (first | (simp; done) | (simp; omega) | omega)))))), (by first | assumption | (apply Blk.cell; (focus (repeat (first | assumption | ((with_reducible apply blk_new); (focus (first | rfl | (simp; done)))) | (with_reducible apply blk_alloc) | (with_reducible apply blk_drew) | (with_reducible apply blk_drewN) | ((with_reducible apply blk_up); assumption) | (with_reducible apply blk_same) | ((with_reducible apply blk_else); (focus (first | (simp; done) | (simp; omega) | omega)))))); exact rfl)), (by first | assumption | (apply Blk.cell; (focus (repeat (first | assumption | ((with_reducible apply blk_new); (focus (first | rfl | (simp; done)))) | (with_reducible apply blk_alloc) | (with_reducible apply blk_drew) | (with_reducible apply blk_drewN) | ((with_reducible apply blk_up); assumption) | (with_reducible apply blk_same) | ((with_reducible apply blk_else); (focus (first | (simp; done) | (simp; omega) | omega)))))); exact rfl)), (by first | assumption | (apply Blk.cell; (focus (repeat (first | assumption | ((with_reducible apply blk_new); (focus (first | rfl | (simp; done)))) | (with_reducible apply blk_alloc) | (with_reducible apply blk_drew) | (with_reducible apply blk_drewN) | ((with_reducible apply blk_up); assumption) | (with_reducible apply blk_same) | ((with_reducible apply blk_else); (focus (first | (simp; done) | (simp; omega) | omega)))))); exact rfl)), (by repeat (first | assumption | (with_reducible apply Up.of) | (with_reducible exact Below.refl _ _) | (with_reducible exact Up.refl _) | ((with_reducible apply bl_setRow); (focus (first | exact Nat.le_refl _ | (simp; done) | (simp; omega) | omega))) | (with_reducible apply below_drewN) | (with_reducible apply Below.drew) | ((with_reducible apply bl_alloc); (focus (first | exact Nat.le_refl _ | (simp; done) | (simp; omega) | omega))) | ((with_reducible apply bl_setCell); (focus (first | exact Nat.le_refl _ | (simp; done) | (simp; omega) | omega))) | ((with_reducible apply up_tr); assumption)))⟩ (fun wS hSS hSu => ?_)
      have ⟨hS1, hS2, hS3, hS4, hSB⟩ := hSS
      refine wpAnyU_pure (i := 0) (d := (some 32)) (v := ?_) rfl rfl (by kernel_rfl) (fun _ _ _ h => h) hSu.out (Or.inl ⟨by rfl, fun w' _ => yu_value ?_⟩) ?_
      rotate_left
      · (go_simp; (try exact rfl))
      try simp only [Act.put, pu1, pu2, pu3]
      refine wpAnyU_take (i := 1) (d := (some 33)) (v := ?_) rfl rfl (by kernel_rfl) (fun _ _ _ h => h) hSu.out hSS (Or.inl ⟨by rfl, fun w' hSw => yu_value ?_⟩) ?_
      rotate_left
      · ((try dsimp only at hSw); (try obtain ⟨_, _, _, _, _⟩ := hSw); go_simp; (try exact rfl))
      try simp only [Act.put, pu1, pu2, pu3]
      refine wpAnyU_pure (i := 2) (d := (some 34)) (v := ?_) rfl rfl (by kernel_rfl) (fun _ _ _ h => h) hSu.out (Or.inl ⟨by rfl, fun w' _ => yu_value ?_⟩) ?_
      rotate_left
      · (go_simp; (try exact rfl))
      try simp only [Act.put, pu1, pu2, pu3]
      refine wpAnyU_take (i := 3) (d := (some 35)) (v := ?_) rfl rfl (by kernel_rfl) (fun _ _ _ h => h) hSu.out hSS (Or.inl ⟨by rfl, fun w' hSw => yu_value ?_⟩) ?_
      rotate_left
      · ((try dsimp only at hSw); (try obtain ⟨_, _, _, _, _⟩ := hSw); go_simp; (try exact rfl))
      try simp only [Act.put, pu1, pu2, pu3]
      refine wpAnyU_pure (i := 4) (d := (some 36)) (v := ?_) rfl rfl (by kernel_rfl) (fun _ _ _ h => h) hSu.out (Or.inl ⟨by rfl, fun w' _ => yu_value ?_⟩) ?_
      rotate_left
      · (go_simp; (try exact rfl))
      try simp only [Act.put, pu1, pu2, pu3]
      refine wpAnyU_take (i := 5) (d := (some 37)) (v := ?_) rfl rfl (by kernel_rfl) (fun _ _ _ h => h) hSu.out hSS (Or.inl ⟨by rfl, fun w' hSw => yu_value ?_⟩) ?_
      rotate_left
      · ((try dsimp only at hSw); (try obtain ⟨_, _, _, _, _⟩ := hSw); go_simp; (try exact rfl))
      try simp only [Act.put, pu1, pu2, pu3]
      refine wpAnyU_callE (i := 6) (d := (some 38)) rfl rfl (by kernel_rfl) (by rfl) hSu.out (fun w' => by go_simp) (fun w' hw' => minus_am (hB.up (below_up hSB hw')) (hA.up (below_up hSB hw')) (by omega) (by omega)) fun vP wP hwP hRP => ?_
      try simp only [Act.put, pu1, pu2, pu3]
      obtain ⟨a1, c1, rfl⟩ := hRP.shape
      refine wpAnyU_callE (i := 7) (d := (some 39)) rfl rfl (by kernel_rfl) (by rfl) hSu.out (fun w' => by go_simp) (fun w' hw' => callE_of (made_any (!p) a1 (nl (Y - X)) c1 w')) fun vM wM hwM hRM => ?_
      try simp only [Act.put, pu1, pu2, pu3]
      subst hRM
      refine wpAnyU_one (i := 8) rfl (by kernel_rfl) (by rfl) fun w2 hw2 => ?_
      have gK := ((hS1.up hwP).up hwM).up hw2
      refine wp_stB rfl rfl rfl rfl gK rfl rfl (one2 _ _ _ _) ?_
      refine ⟨fun h => by simp at h, ?_⟩
      try simp only [Act.put, pu1, pu2, pu3]
      refine wpAnyU_done (by kernel_rfl) (fun wF huE => ?_) _
      have gR := (gK.setRow #[.bool ((!p) && decide (0 < nl (Y - X))), .slice a1 (nl (Y - X)) c1]).up huE
      have gA := (((hRP.up hwM).up hw2).setRow (D := #[.bool ((!p) && decide (0 < nl (Y - X))), .slice a1 (nl (Y - X)) c1]) gK).up huE
      have gB := below_up (below_setRow (below_up (below_up (below_up hSB hwP) hwM) hw2) (show w.heap.size ≤ w.heap.size + 1 + 1 by omega) #[.bool ((!p) && decide (0 < nl (Y - X))), .slice a1 (nl (Y - X)) c1]) huE
      have gBig := big_made (!p) gA
      clear gK hRP hwP hwM hw2 huE hS1 hS2 hS3 hS4 hSB hSS gA
      go_wp2
      exact bodyPost_ret (resB rfl rfl gR rfl) rfl ⟨gB, _, rfl, gBig⟩
theorem add_big {x y : Int} {va vb : Value} {w : World} (ha : Big w va x) (hb : Big w vb y) (hx : nl x.natAbs < 50000) (hy : nl y.natAbs < 50000) :
    Calls Try.prog 16 #[va, vb] w fun e w' => Up w w' ∧ ∃ v, e = .returned v ∧ Big w' v (x + y) := by
  obtain ⟨a, ca, rfl, hA⟩ := ha
  obtain ⟨b, cb, rfl, hB⟩ := hb
  have h := add_pm (decide (x < 0)) (decide (y < 0)) x.natAbs y.natAbs a b ca cb w hA hB hx hy
  rw [← pm_int, ← pm_int] at h
  exact h
end Go.Proofs.Ytbogbdokllmanaa
/-
  The reference's products of amounts.
-/
namespace Go.Proofs.Ytbogbdokllmanaa
open Go Go.RowKit
set_option maxRecDepth 100000

theorem mul64_up (x y : Nat) (hx : x < 18446744073709551616) (hy : y < 18446744073709551616) {h l : Nat} (eh : h = x * y / 18446744073709551616) (el : l = x * y % 18446744073709551616) (w : World) :
    Calls Try.prog 53 #[.int .u64 x, .int .u64 y] w fun e w' => e = .returned (.tuple #[.int .u64 (h : Nat), .int .u64 (l : Nat)]) ∧ Up w w' := by
  refine (Try.bits_Mul64 x y hx hy w).mono ?_
  rintro e w' ⟨rfl, rfl⟩
  exact ⟨by rw [eh, el], Up.refl _⟩
set_option maxHeartbeats 2000000 in
theorem times_am {x y : Nat} {va vb : Value} {w : World} (ha : Am w va x) (hb : Am w vb y) (hx : nl x < 100000) (hy : nl y < 100000) :
    Calls Try.prog 38 #[va, vb] w fun e w' => Up w w' ∧ ∃ v, e = .returned v ∧ Am w' v (x * y) := by
  obtain ⟨a, ca, rfl, hca1, hca0⟩ := ha.open
  obtain ⟨b, cb, rfl, hcb1, hcb0⟩ := hb.open
  have HSX := hid (sum_nl x)
  have HSY := hid (sum_nl y)
  clear ha hb
  generalize nl x = n at *
  generalize nl y = m at *
  go_enter Try.func38, Try.ntmps38
  go_wp2_with (first | ((with_reducible apply mkP (n := n + m)); exact rfl; (first | rfl | omega); omega))
  go_loopw [6] (fun ti wr => ∃ (i : Nat) (S : Nat → Nat), i ≤ n ∧ ti = .int .i64 (i : Nat) ∧ (∀ j, j < n + m → S j < 18446744073709551616) ∧ sumL S (n + m) = sumL (limb x) i * sumL (limb y) m ∧ (∀ j, i + m ≤ j → j < n + m → S j = 0) ∧ Row wr w.heap.size 25 (n + m) S ∧ Below w.heap.size w wr)
    (fun ti _ => n - (intOf ti).toNat)
  case atStart => exact ⟨0, fun _ => 0, by omega, rfl, fun _ _ => by simp, by rw [sumL_zero, Nat.zero_mul]; exact sumL_zeros _, fun _ _ _ => rfl, row_newc _ _ _ rfl, (by repeat (first | assumption | (with_reducible exact Below.refl _ _) | ((with_reducible apply bl_alloc); (focus (first | exact Nat.le_refl _ | (simp; done) | (simp; omega) | omega)))))⟩
  case round =>
    obtain ⟨i, S, hi, rfl, hSb, hsum, hz, hM, hB⟩ := hrel
    have HSb := hid hSb
    have Hsum := hid hsum
    have Hz := hid hz
    clear hSb hsum hz
    obtain ⟨wo, rfl⟩ : ∃ wo : World, wo = wr := ⟨_, rfl⟩
    by_cases hlt : i < n
    · obtain ⟨ba, rfl, hba, hca⟩ := hca0 i hlt
      go_wp2
      go_loopw [7, 8] (fun tc tk wi => ∃ (k c : Nat) (S' : Nat → Nat), k ≤ m ∧ tk = .int .i64 (k : Nat) ∧ tc = .int .u64 (c : Nat) ∧ c < 18446744073709551616 ∧ (∀ j, j < n + m → S' j < 18446744073709551616) ∧
          sumL S' (n + m) + c * (bp i * bp k) = sumL (limb x) i * sumL (limb y) m + limb x i * bp i * sumL (limb y) k ∧ (∀ j, i + m ≤ j → j < n + m → S' j = 0) ∧ Row wi w.heap.size 25 (n + m) S' ∧ Below w.heap.size w wi)
        (fun _ tk _ => m - (intOf tk).toNat)
      case atStart => exact ⟨0, 0, S, by omega, rfl, rfl, by omega, HSb.out, by rw [sumL_zero, Hsum.out]; omega, Hz.out, hM, hB⟩
      case round =>
        clear hM hB HSb Hsum Hz
        obtain ⟨k, c, S', hk, rfl, rfl, hc, hSb, hsum, hz, hM, hB⟩ := hrel
        have HSb := hid hSb
        have Hsum := hid hsum
        have Hz := hid hz
        clear hSb hsum hz
        by_cases hkt : k < m
        · obtain ⟨bb, rfl, hbb, hcb⟩ := hcb0 k hkt
          have hcx := hca _ hB
          have hcy := hcb _ hB
          obtain ⟨h, eh⟩ : ∃ h, h = limb x i * limb y k / 18446744073709551616 := ⟨_, rfl⟩
          obtain ⟨l, el⟩ : ∃ l, l = limb x i * limb y k % 18446744073709551616 := ⟨_, rfl⟩
          have hlx' := limb_lt x i
          have hly' := limb_lt y k
          have HM := hid (fun w => mul64_up _ _ hlx' hly' eh el w)
          have hsk := HSb.out (i + k) (by omega)
          obtain ⟨r1, c1, HA, e1, f1⟩ : ∃ r c : Nat, (∀ w, (callFunc 28 #[.int .u64 (l : Nat), .int .u64 (S' (i + k) : Nat), .int .u64 0]).run Try.prog w = .ok (.value (.tuple #[.int .u64 (r : Nat), .int .u64 (c : Nat)])) w) ∧
            r = (l + S' (i + k) + 0) % 18446744073709551616 ∧ c = (l + S' (i + k) + 0) / 18446744073709551616 := ⟨_, _, run_add l (S' (i + k)) 0 (by omega), rfl, rfl⟩
          obtain ⟨r2, c2, HA2, e2, f2⟩ : ∃ r cc : Nat, (∀ w, (callFunc 28 #[.int .u64 (r1 : Nat), .int .u64 (c : Nat), .int .u64 0]).run Try.prog w = .ok (.value (.tuple #[.int .u64 (r : Nat), .int .u64 (cc : Nat)])) w) ∧
            r = (r1 + c + 0) % 18446744073709551616 ∧ cc = (r1 + c + 0) / 18446744073709551616 := ⟨_, _, run_add r1 c 0 (by omega), rfl, rfl⟩
          obtain ⟨g1, g2, g3⟩ := step_arith hlx' hly' hsk hc eh el e1 f1 e2 f2
          obtain ⟨hr, hc', hrc⟩ := step_bound hlx' hly' hsk hc g2 g3
          have Hrc := hid hrc
          obtain ⟨h1, eh1⟩ : ∃ h1, h1 = h + c1 := ⟨_, rfl⟩
          obtain ⟨h2, eh2⟩ : ∃ h2, h2 = h1 + c2 := ⟨_, rfl⟩
          have w1 : IntKind.u64.wrap ((h : Int) + c1) = (h1 : Nat) := by rw [IntKind.wrap_u64]; omega
          have w2 : IntKind.u64.wrap ((h1 : Int) + c2) = (h2 : Nat) := by rw [IntKind.wrap_u64]; omega
          have hh2 : h2 < 18446744073709551616 := by omega
          have Hh2 := hid (show h + c1 + c2 = h2 by omega)
          clear e1 f1 e2 f2 g1 g2 g3 hrc eh el eh1 eh2 hc'
          go_wp2
          refine wp_region_upH (S := (fun wq => Row wq w.heap.size 25 (n + m) S' ∧ wq.cell? ⟨ba, i, none⟩ = some (.int .u64 (limb x i : Nat)) ∧ wq.cell? ⟨bb, k, none⟩ = some (.int .u64 (limb y k : Nat)) ∧ Below w.heap.size w wq)) (req := (fun _ => true)) (by kernel_rfl) (fun _ _ h hu => ⟨(h.1).up hu, hu.cell (h.2.1), hu.cell (h.2.2.1), below_up (h.2.2.2) hu⟩) ⟨(by (repeat (first | assumption | ((with_reducible apply row_newc); (focus (first | rfl | (simp; done)))) | ((with_reducible apply row_newz); (focus (first | rfl | (simp; done)))) | (with_reducible apply row_same) | ((with_reducible apply row_else); (focus (first | (simp; done) | (simp; omega) | omega))) | (with_reducible apply row_alloc) | (with_reducible apply row_drew) | (with_reducible apply row_drewN) | ((with_reducible apply row_up); assumption)))), (by first | assumption | (apply Blk.cell; (focus (repeat (first | assumption | ((with_reducible apply blk_new); (focus (first | rfl | (simp; done)))) | (with_reducible apply blk_alloc) | (with_reducible apply blk_drew) | (with_reducible apply blk_drewN) | ((with_reducible apply blk_up); assumption) | (with_reducible apply blk_same) | ((with_reducible apply blk_else); (focus (first | (simp; done) | (simp; omega) | omega)))))); exact rfl)), (by first | assumption | (apply Blk.cell; (focus (repeat (first | assumption | ((with_reducible apply blk_new); (focus (first | rfl | (simp; done)))) | (with_reducible apply blk_alloc) | (with_reducible apply blk_drew) | (with_reducible apply blk_drewN) | ((with_reducible apply blk_up); assumption) | (with_reducible apply blk_same) | ((with_reducible apply blk_else); (focus (first | (simp; done) | (simp; omega) | omega)))))); exact rfl)), (by repeat (first | assumption | (with_reducible apply Up.of) | (with_reducible exact Below.refl _ _) | (with_reducible exact Up.refl _) | ((with_reducible apply bl_setRow); (focus (first | exact Nat.le_refl _ | (simp; done) | (simp; omega) | omega))) | (with_reducible apply below_drewN) | (with_reducible apply Below.drew) | ((with_reducible apply bl_alloc); (focus (first | exact Nat.le_refl _ | (simp; done) | (simp; omega) | omega))) | ((with_reducible apply bl_setCell); (focus (first | exact Nat.le_refl _ | (simp; done) | (simp; omega) | omega))) | ((with_reducible apply up_tr); assumption)))⟩ (fun wS hSS hSu => ?_)
          have ⟨hS1, hS2, hS3, hSB⟩ := hSS
          clear hcx hcy hM hB
          refine wpAnyU_pure (i := 0) (d := (some 31)) (v := ?_) rfl rfl (by kernel_rfl) (fun _ _ _ h => h) hSu.out (Or.inl ⟨by rfl, fun w' _ => yu_value ?_⟩) ?_
          rotate_left
          · (go_simp; (try exact rfl))
          try simp only [Act.put, pu1, pu2, pu3]
          refine wpAnyU_pure (i := 1) (d := (some 32)) (v := ?_) rfl rfl (by kernel_rfl) (fun _ _ _ h => h) hSu.out (Or.inl ⟨by rfl, fun w' _ => yu_value ?_⟩) ?_
          rotate_left
          · (go_simp; (try exact rfl))
          try simp only [Act.put, pu1, pu2, pu3]
          refine wpAnyU_pure (i := 2) (d := (some 33)) (v := ?_) rfl rfl (by kernel_rfl) (fun _ _ _ h => h) hSu.out (Or.inl ⟨by rfl, fun w' _ => yu_value ?_⟩) ?_
          rotate_left
          · (go_simp; (try exact rfl))
          try simp only [Act.put, pu1, pu2, pu3]
          refine wpAnyU_take (i := 3) (d := (some 34)) (v := ?_) rfl rfl (by kernel_rfl) (fun _ _ _ h => h) hSu.out hSS (Or.inl ⟨by rfl, fun w' hSw => yu_value ?_⟩) ?_
          rotate_left
          · ((try dsimp only at hSw); (try obtain ⟨_, _, _, _⟩ := hSw); go_simp; (try exact rfl))
          try simp only [Act.put, pu1, pu2, pu3]
          refine wpAnyU_pure (i := 4) (d := (some 35)) (v := ?_) rfl rfl (by kernel_rfl) (fun _ _ _ h => h) hSu.out (Or.inl ⟨by rfl, fun w' _ => yu_value ?_⟩) ?_
          rotate_left
          · (go_simp; (try exact rfl))
          try simp only [Act.put, pu1, pu2, pu3]
          refine wpAnyU_pure (i := 5) (d := (some 36)) (v := ?_) rfl rfl (by kernel_rfl) (fun _ _ _ h => h) hSu.out (Or.inl ⟨by rfl, fun w' _ => yu_value ?_⟩) ?_
          rotate_left
          · (go_simp; (try exact rfl))
          try simp only [Act.put, pu1, pu2, pu3]
          refine wpAnyU_pure (i := 6) (d := (some 37)) (v := ?_) rfl rfl (by kernel_rfl) (fun _ _ _ h => h) hSu.out (Or.inl ⟨by rfl, fun w' _ => yu_value ?_⟩) ?_
          rotate_left
          · (go_simp; (try exact rfl))
          try simp only [Act.put, pu1, pu2, pu3]
          refine wpAnyU_take (i := 7) (d := (some 38)) (v := ?_) rfl rfl (by kernel_rfl) (fun _ _ _ h => h) hSu.out hSS (Or.inl ⟨by rfl, fun w' hSw => yu_value ?_⟩) ?_
          rotate_left
          · ((try dsimp only at hSw); (try obtain ⟨_, _, _, _⟩ := hSw); go_simp; (try exact rfl))
          try simp only [Act.put, pu1, pu2, pu3]
          refine wpAnyU_take (i := 8) (d := (some 39)) (v := _) rfl rfl (by kernel_rfl) (fun _ _ _ h => h) hSu.out hSS (Or.inl ⟨by rfl, fun w' hSw => yu_call ?_ (HM.out _)⟩) ?_
          · go_simp
          try simp only [Act.put, pu1, pu2, pu3]
          refine wpAnyU_pure (i := 9) (d := (some 30)) (v := ?_) rfl rfl (by kernel_rfl) (fun _ _ _ h => h) hSu.out (Or.inl ⟨by rfl, fun w' _ => yu_value ?_⟩) ?_
          rotate_left
          · (go_simp; (try exact rfl))
          try simp only [Act.put, pu1, pu2, pu3]
          refine wpAnyU_pure (i := 10) (d := (some 40)) (v := ?_) rfl rfl (by kernel_rfl) (fun _ _ _ h => h) hSu.out (Or.inl ⟨by rfl, fun w' _ => yu_value ?_⟩) ?_
          rotate_left
          · (go_simp; (try exact rfl))
          try simp only [Act.put, pu1, pu2, pu3]
          refine wpAnyU_pure (i := 11) (d := (some 41)) (v := ?_) rfl rfl (by kernel_rfl) (fun _ _ _ h => h) hSu.out (Or.inl ⟨by rfl, fun w' _ => yu_value ?_⟩) ?_
          rotate_left
          · (go_simp; (try exact rfl))
          try simp only [Act.put, pu1, pu2, pu3]
          refine wpAnyU_pure (i := 12) (d := (some 9)) (v := ?_) rfl rfl (by kernel_rfl) (fun _ _ _ h => h) hSu.out (Or.inl ⟨by rfl, fun w' _ => yu_value ?_⟩) ?_
          rotate_left
          · (go_simp; (try exact rfl))
          try simp only [Act.put, pu1, pu2, pu3]
          refine wpAnyU_pure (i := 13) (d := (some 10)) (v := ?_) rfl rfl (by kernel_rfl) (fun _ _ _ h => h) hSu.out (Or.inl ⟨by rfl, fun w' _ => yu_value ?_⟩) ?_
          rotate_left
          · (go_simp; (try exact rfl))
          try simp only [Act.put, pu1, pu2, pu3]
          refine wpAnyU_done (by kernel_rfl) (fun wE huE => ?_) _
          have ⟨hS1, hS2, hS3, hSB⟩ := hSu.out _ _ hSS huE
          clear huE hSS
          have E2 : ((i : Int) + (k : Int)).toNat = i + k := by omega
          have E3 : ((n + m : Nat) : Int) = (n : Int) + m := by omega
          have hik : (i : Int) + (k : Int) < (n : Int) + m := by omega
          have hcs := hS1.cell (i + k) (by omega)
          have hfs := hS1.frozen (i + k)
          have gM := hS1.set (i + k) r2
          have gB := hSB.setCell (p := ⟨w.heap.size, i + k, none⟩) (Nat.le_refl _) (.int .u64 (r2 : Nat))
          clear hS1 hS2 hS3 hSB
          go_wp2
          go_roundw
          case rel =>
            refine ⟨k + 1, h2, upd S' (i + k) r2, by omega, by go_num, rfl, hh2, upd_lt HSb.out hr, ?_, fun j h1 h2 => by rw [upd_other _ _ _ (by omega)]; exact Hz.out j h1 h2, gM, gB⟩
            have hu := sumL_upd S' r2 (show i + k < n + m by omega)
            have hr' := Hrc.out
            rw [bp_add] at hu
            rw [Hh2.out] at hr'
            rw [bp_succ, sumL_succ (limb y) k, ← Nat.mul_assoc (bp i)]
            exact times_step Hsum.out hu hr'
          case measure => simp [intOf] <;> omega
        · obtain rfl : k = m := by omega
          have E2 : ((i : Int) + (k : Int)).toNat = i + k := by omega
          have E3 : ((n + k : Nat) : Int) = (n : Int) + k := by omega
          have hik : (i : Int) + (k : Int) < (n : Int) + k := by omega
          have hcs := hM.cell (i + k) (by omega)
          have hfs := hM.frozen (i + k)
          have gM := hM.set (i + k) c
          have gB := hB.setCell (p := ⟨w.heap.size, i + k, none⟩) (Nat.le_refl _) (.int .u64 (c : Nat))
          clear hM hB
          go_wp2
          go_roundw
          case rel =>
            refine ⟨i + 1, upd S' (i + k) c, by omega, by go_num, upd_lt HSb.out hc, ?_, fun j h1 h2 => by rw [upd_other _ _ _ (by omega)]; exact Hz.out j (by omega) h2, gM, gB⟩
            have h2 := sumL_upd S' c (show i + k < n + k by omega)
            have h3 := Hz.out (i + k) (Nat.le_refl _) (by omega)
            have h4 := Hsum.out
            rw [bp_add, h3, Nat.zero_mul, Nat.add_zero] at h2
            rw [h2, sumL_succ (limb x) i, Nat.add_mul]
            exact h4
          case measure => simp [intOf] <;> omega
    · obtain rfl : i = n := by omega
      have he := Hsum.out
      rw [HSX.out, HSY.out] at he
      have ht := trim_row w.heap.size (i + m) (i + m) (i + m) S wo hM (Nat.le_refl _) (Nat.le_refl _) (by omega)
      have hres := am_row (c := i + m) hM (Nat.le_refl _) (Nat.le_refl _) HSb.out
      rw [he] at hres
      have HT := hid ht
      have HR := hid hres
      clear ht hres he HSb Hsum Hz hM
      go_wp2_with (go_at_call 27; (with_reducible refine HT.out.mono ?_); rintro e w' ⟨rfl, hu⟩)
      go_ret
      exact ⟨below_up hB hu, _, rfl, HR.out.up hu⟩
end Go.Proofs.Ytbogbdokllmanaa
/-
  The reference's differences, products, order of whole numbers; numbers of 64 bits that come and go.
-/
namespace Go.Proofs.Ytbogbdokllmanaa
open Go Go.RowKit
set_option maxRecDepth 100000

theorem pm_times (p q : Bool) (X Y : Nat) : pm p X * pm q Y = pm (p != q) (X * Y) := by
  cases p <;> cases q <;> simp [pm, Int.natCast_mul, Int.neg_mul, Int.mul_neg]
set_option maxHeartbeats 1000000 in
theorem sub_big {x y : Int} {va vb : Value} {w : World} (ha : Big w va x) (hb : Big w vb y) (hx : nl x.natAbs < 50000) (hy : nl y.natAbs < 50000) :
    Calls Try.prog 41 #[va, vb] w fun e w' => Up w w' ∧ ∃ v, e = .returned v ∧ Big w' v (x - y) := by
  obtain ⟨p, a, n, ca, rfl⟩ := ha.shape
  obtain ⟨q, b, m, cb, hq, hn⟩ := big_neg hb
  subst hq
  have hA := hid ha
  have hN := hid hn
  rw [Int.sub_eq_add_neg]
  have hy' : nl (-y).natAbs < 50000 := by rw [Int.natAbs_neg]; exact hy
  clear ha hb hn
  go_enter Try.func41, Try.ntmps41
  go_wp2
  refine wp_region_upH (S := (fun wq => Blk wq (w.heap.size + 1 + 1) 30 #[.bool false, .slice none 0 0] ∧ Blk wq w.heap.size 30 #[.bool p, .slice a n ca] ∧ Blk wq (w.heap.size + 1) 30 #[.bool q, .slice b m cb] ∧ Below w.heap.size w wq)) (req := (fun j => j != 4)) (by kernel_rfl) (fun _ _ h hu => ⟨(h.1).up hu, (h.2.1).up hu, (h.2.2.1).up hu, below_up (h.2.2.2) hu⟩) ⟨(by (repeat (first | assumption | ((with_reducible apply blk_new); (focus (first | rfl | (simp; done)))) | (with_reducible apply blk_alloc) | (with_reducible apply blk_drew) | (with_reducible apply blk_drewN) | ((with_reducible apply blk_up); assumption) | (with_reducible apply blk_same) | ((with_reducible apply blk_else); (focus (first | (simp; done) | (simp; omega) | omega)))))), (by (repeat (first | assumption | ((with_reducible apply blk_new); (focus (first | rfl | (simp; done)))) | (with_reducible apply blk_alloc) | (with_reducible apply blk_drew) | (with_reducible apply blk_drewN) | ((with_reducible apply blk_up); assumption) | (with_reducible apply blk_same) | ((with_reducible apply blk_else); (focus (first | (simp; done) | (simp; omega) | omega)))))), (by (repeat (first | assumption | ((with_reducible apply blk_new); (focus (first | rfl | (simp; done)))) | (with_reducible apply blk_alloc) | (with_reducible apply blk_drew) | (with_reducible apply blk_drewN) | ((with_reducible apply blk_up); assumption) | (with_reducible apply blk_same) | ((with_reducible apply blk_else); (focus (first | (simp; done) | (simp; omega) | omega)))))), (by repeat (first | assumption | (with_reducible apply Up.of) | (with_reducible exact Below.refl _ _) | (with_reducible exact Up.refl _) | ((with_reducible apply bl_setRow); (focus (first | exact Nat.le_refl _ | (simp; done) | (simp; omega) | omega))) | (with_reducible apply below_drewN) | (with_reducible apply Below.drew) | ((with_reducible apply bl_alloc); (focus (first | exact Nat.le_refl _ | (simp; done) | (simp; omega) | omega))) | ((with_reducible apply bl_setCell); (focus (first | exact Nat.le_refl _ | (simp; done) | (simp; omega) | omega))) | ((with_reducible apply up_tr); assumption)))⟩ (fun wS hSS hSu => ?_)
  have ⟨hS1, hS2, hS3, hSB⟩ := hSS
  refine wpAnyU_take (i := 0) (d := (some 5)) (v := _) rfl rfl (by kernel_rfl) (fun _ _ _ h => h) hSu.out hSS (Or.inl ⟨by rfl, fun w' hSw => yu_value (run_ldB rfl rfl hSw.2.1 rfl)⟩) ?_
  try simp only [Act.put, pu1, pu2, pu3]
  refine wpAnyU_take (i := 1) (d := (some 6)) (v := _) rfl rfl (by kernel_rfl) (fun _ _ _ h => h) hSu.out hSS (Or.inl ⟨by rfl, fun w' hSw => yu_value (run_ldB rfl rfl hSw.2.2.1 rfl)⟩) ?_
  try simp only [Act.put, pu1, pu2, pu3]
  refine wpAnyU_take (i := 2) (d := (some 7)) (v := _) rfl rfl (by kernel_rfl) (fun _ _ _ h => h) hSu.out hSS (Or.inl ⟨by rfl, fun w' hSw => yu_call ?_ (neg_any q b m cb w')⟩) ?_
  · go_simp
  try simp only [Act.put, pu1, pu2, pu3]
  refine wpAnyU_callE (i := 3) (d := (some 8)) rfl rfl (by kernel_rfl) (by rfl) hSu.out (fun w' => by go_simp) (fun w' hw' => add_big (hA.out.up (below_up hSB hw')) (hN.out.up (below_up hSB hw')) hx hy') fun vA wA hwA hRA => ?_
  try simp only [Act.put, pu1, pu2, pu3]
  obtain ⟨b1, a1, n1, c1, rfl⟩ := hRA.shape
  refine wpAnyU_one (i := 4) rfl (by kernel_rfl) (by rfl) fun w2 hw2 => ?_
  have gK := (hS1.up hwA).up hw2
  refine wp_stB rfl rfl rfl rfl gK rfl rfl (one2 _ _ _ _) ?_
  refine ⟨fun h => by simp at h, ?_⟩
  try simp only [Act.put, pu1, pu2, pu3]
  refine wpAnyU_done (by kernel_rfl) (fun wF huE => ?_) _
  have gR := (gK.setRow #[.bool b1, .slice a1 n1 c1]).up huE
  have gA := ((hRA.up hw2).setRow (D := #[.bool b1, .slice a1 n1 c1]) gK).up huE
  have gB := below_up (below_setRow (below_up (below_up hSB hwA) hw2) (show w.heap.size ≤ w.heap.size + 1 + 1 by omega) #[.bool b1, .slice a1 n1 c1]) huE
  clear gK hRA hwA hw2 huE hS1 hS2 hS3 hSB hSS
  go_wp2
  exact bodyPost_ret (resB rfl rfl gR rfl) rfl ⟨gB, _, rfl, gA⟩
set_option maxHeartbeats 1000000 in
theorem mul_pm (p q : Bool) (X Y : Nat) (a b : Option Addr) (ca cb : Nat) (w : World) (hA : Am w (.slice a (nl X) ca) X) (hB : Am w (.slice b (nl Y) cb) Y) (hx : nl X < 50000) (hy : nl Y < 50000) :
    Calls Try.prog 15 #[.agg #[.bool p, .slice a (nl X) ca], .agg #[.bool q, .slice b (nl Y) cb]] w fun e w' => Up w w' ∧ ∃ v, e = .returned v ∧ Big w' v (pm p X * pm q Y) := by
  rw [pm_times]
  go_enter Try.func15, Try.ntmps15
  go_wp2
  refine wp_region_upH (S := (fun wq => Blk wq (w.heap.size + 1 + 1) 30 #[.bool false, .slice none 0 0] ∧ wq.cell? ⟨w.heap.size, 0, none⟩ = some (.bool p) ∧ wq.cell? ⟨w.heap.size + 1, 0, none⟩ = some (.bool q) ∧ wq.cell? ⟨w.heap.size, 1, none⟩ = some (.slice a (nl X) ca) ∧ wq.cell? ⟨w.heap.size + 1, 1, none⟩ = some (.slice b (nl Y) cb) ∧ Below w.heap.size w wq)) (req := (fun j => j != 11)) (by kernel_rfl) (fun _ _ h hu => ⟨(h.1).up hu, hu.cell (h.2.1), hu.cell (h.2.2.1), hu.cell (h.2.2.2.1), hu.cell (h.2.2.2.2.1), below_up (h.2.2.2.2.2) hu⟩) ⟨(by (repeat (first | assumption | ((with_reducible apply blk_new); (focus (first | rfl | (simp; done)))) | (with_reducible apply blk_alloc) | (with_reducible apply blk_drew) | (with_reducible apply blk_drewN) | ((with_reducible apply blk_up); assumption) | (with_reducible apply blk_same) | ((with_reducible apply blk_else); (focus (first | (simp; done) | (simp; omega) | omega)))))), (by first | assumption | (apply Blk.cell; (focus (repeat (first | assumption | ((with_reducible apply blk_new); (focus (first | rfl | (simp; done)))) | (with_reducible apply blk_alloc) | (with_reducible apply blk_drew) | (with_reducible apply blk_drewN) | ((with_reducible apply blk_up); assumption) | (with_reducible apply blk_same) | ((with_reducible apply blk_else); (focus (first | (simp; done) | (simp; omega) | omega)))))); exact rfl)), (by first | assumption | (apply Blk.cell; (focus (repeat (first | assumption | ((with_reducible apply blk_new); (focus (first | rfl | (simp; done)))) | (with_reducible apply blk_alloc) | (with_reducible apply blk_drew) | (with_reducible apply blk_drewN) | ((with_reducible apply blk_up); assumption) | (with_reducible apply blk_same) | ((with_reducible apply blk_else); (focus (first | (simp; done) | (simp; omega) | omega)))))); exact rfl)), (by first | assumption | (apply Blk.cell; (focus (repeat (first | assumption | ((with_reducible apply blk_new); (focus (first | rfl | (simp; done)))) | (with_reducible apply blk_alloc) | (with_reducible apply blk_drew) | (with_reducible apply blk_drewN) | ((with_reducible apply blk_up); assumption) | (with_reducible apply blk_same) | ((with_reducible apply blk_else); (focus (first | (simp; done) | (simp; omega) | omega)))))); exact rfl)), (by first | assumption | (apply Blk.cell; (focus (repeat (first | assumption | ((with_reducible apply blk_new); (focus (first | rfl | (simp; done)))) | (with_reducible apply blk_alloc) | (with_reducible apply blk_drew) | (with_reducible apply blk_drewN) | ((with_reducible apply blk_up); assumption) | (with_reducible apply blk_same) | ((with_reducible apply blk_else); (focus (first | (simp; done) | (simp; omega) | omega)))))); exact rfl)), (by repeat (first | assumption | (with_reducible apply Up.of) | (with_reducible exact Below.refl _ _) | (with_reducible exact Up.refl _) | ((with_reducible apply bl_setRow); (focus (first | exact Nat.le_refl _ | (simp; done) | (simp; omega) | omega))) | (with_reducible apply below_drewN) | (with_reducible apply Below.drew) | ((with_reducible apply bl_alloc); (focus (first | exact Nat.le_refl _ | (simp; done) | (simp; omega) | omega))) | ((with_reducible apply bl_setCell); (focus (first | exact Nat.le_refl _ | (simp; done) | (simp; omega) | omega))) | ((with_reducible apply up_tr); assumption)))⟩ (fun wS hSS hSu => ?_)
  have ⟨hS1, hS2, hS3, hS4, hS5, hSB⟩ := hSS
  refine wpAnyU_pure (i := 0) (d := (some 5)) (v := ?_) rfl rfl (by kernel_rfl) (fun _ _ _ h => h) hSu.out (Or.inl ⟨by rfl, fun w' _ => yu_value ?_⟩) ?_
  rotate_left
  · (go_simp; (try exact rfl))
  try simp only [Act.put, pu1, pu2, pu3]
  refine wpAnyU_take (i := 1) (d := (some 6)) (v := ?_) rfl rfl (by kernel_rfl) (fun _ _ _ h => h) hSu.out hSS (Or.inl ⟨by rfl, fun w' hSw => yu_value ?_⟩) ?_
  rotate_left
  · ((try dsimp only at hSw); (try obtain ⟨_, _, _, _, _, _⟩ := hSw); go_simp; (try exact rfl))
  try simp only [Act.put, pu1, pu2, pu3]
  refine wpAnyU_pure (i := 2) (d := (some 7)) (v := ?_) rfl rfl (by kernel_rfl) (fun _ _ _ h => h) hSu.out (Or.inl ⟨by rfl, fun w' _ => yu_value ?_⟩) ?_
  rotate_left
  · (go_simp; (try exact rfl))
  try simp only [Act.put, pu1, pu2, pu3]
  refine wpAnyU_take (i := 3) (d := (some 8)) (v := ?_) rfl rfl (by kernel_rfl) (fun _ _ _ h => h) hSu.out hSS (Or.inl ⟨by rfl, fun w' hSw => yu_value ?_⟩) ?_
  rotate_left
  · ((try dsimp only at hSw); (try obtain ⟨_, _, _, _, _, _⟩ := hSw); go_simp; (try exact rfl))
  try simp only [Act.put, pu1, pu2, pu3]
  refine wpAnyU_pure (i := 4) (d := (some 9)) (v := ?_) rfl rfl (by kernel_rfl) (fun _ _ _ h => h) hSu.out (Or.inl ⟨by rfl, fun w' _ => yu_value ?_⟩) ?_
  rotate_left
  · (go_simp; (try exact rfl))
  try simp only [Act.put, pu1, pu2, pu3]
  refine wpAnyU_pure (i := 5) (d := (some 10)) (v := ?_) rfl rfl (by kernel_rfl) (fun _ _ _ h => h) hSu.out (Or.inl ⟨by rfl, fun w' _ => yu_value ?_⟩) ?_
  rotate_left
  · (go_simp; (try exact rfl))
  try simp only [Act.put, pu1, pu2, pu3]
  refine wpAnyU_take (i := 6) (d := (some 11)) (v := ?_) rfl rfl (by kernel_rfl) (fun _ _ _ h => h) hSu.out hSS (Or.inl ⟨by rfl, fun w' hSw => yu_value ?_⟩) ?_
  rotate_left
  · ((try dsimp only at hSw); (try obtain ⟨_, _, _, _, _, _⟩ := hSw); go_simp; (try exact rfl))
  try simp only [Act.put, pu1, pu2, pu3]
  refine wpAnyU_pure (i := 7) (d := (some 12)) (v := ?_) rfl rfl (by kernel_rfl) (fun _ _ _ h => h) hSu.out (Or.inl ⟨by rfl, fun w' _ => yu_value ?_⟩) ?_
  rotate_left
  · (go_simp; (try exact rfl))
  try simp only [Act.put, pu1, pu2, pu3]
  refine wpAnyU_take (i := 8) (d := (some 13)) (v := ?_) rfl rfl (by kernel_rfl) (fun _ _ _ h => h) hSu.out hSS (Or.inl ⟨by rfl, fun w' hSw => yu_value ?_⟩) ?_
  rotate_left
  · ((try dsimp only at hSw); (try obtain ⟨_, _, _, _, _, _⟩ := hSw); go_simp; (try exact rfl))
  try simp only [Act.put, pu1, pu2, pu3]
  refine wpAnyU_callE (i := 9) (d := (some 14)) rfl rfl (by kernel_rfl) (by rfl) hSu.out (fun w' => by go_simp) (fun w' hw' => times_am (hA.up (below_up hSB hw')) (hB.up (below_up hSB hw')) (by omega) (by omega)) fun vP wP hwP hRP => ?_
  try simp only [Act.put, pu1, pu2, pu3]
  obtain ⟨a1, c1, rfl⟩ := hRP.shape
  refine wpAnyU_callE (i := 10) (d := (some 15)) rfl rfl (by kernel_rfl) (by rfl) hSu.out (fun w' => by go_simp) (fun w' hw' => callE_of (made_any (!(p == q)) a1 (nl (X * Y)) c1 w')) fun vM wM hwM hRM => ?_
  try simp only [Act.put, pu1, pu2, pu3]
  subst hRM
  refine wpAnyU_one (i := 11) rfl (by kernel_rfl) (by rfl) fun w2 hw2 => ?_
  have gK := ((hS1.up hwP).up hwM).up hw2
  refine wp_stB rfl rfl rfl rfl gK rfl rfl (one2 _ _ _ _) ?_
  refine ⟨fun h => by simp at h, ?_⟩
  try simp only [Act.put, pu1, pu2, pu3]
  refine wpAnyU_done (by kernel_rfl) (fun wF huE => ?_) _
  have gR := (gK.setRow #[.bool ((!(p == q)) && decide (0 < nl (X * Y))), .slice a1 (nl (X * Y)) c1]).up huE
  have gA := (((hRP.up hwM).up hw2).setRow (D := #[.bool ((!(p == q)) && decide (0 < nl (X * Y))), .slice a1 (nl (X * Y)) c1]) gK).up huE
  have gB := below_up (below_setRow (below_up (below_up (below_up hSB hwP) hwM) hw2) (show w.heap.size ≤ w.heap.size + 1 + 1 by omega) #[.bool ((!(p == q)) && decide (0 < nl (X * Y))), .slice a1 (nl (X * Y)) c1]) huE
  have gBig := big_made (!(p == q)) gA
  clear gK hRP hwP hwM hw2 huE hS1 hS2 hS3 hS4 hS5 hSB hSS gA
  go_wp2
  exact bodyPost_ret (resB rfl rfl gR rfl) rfl ⟨gB, _, rfl, gBig⟩
theorem mul_big {x y : Int} {va vb : Value} {w : World} (ha : Big w va x) (hb : Big w vb y) (hx : nl x.natAbs < 50000) (hy : nl y.natAbs < 50000) :
    Calls Try.prog 15 #[va, vb] w fun e w' => Up w w' ∧ ∃ v, e = .returned v ∧ Big w' v (x * y) := by
  obtain ⟨a, ca, rfl, hA⟩ := ha
  obtain ⟨b, cb, rfl, hB⟩ := hb
  have h := mul_pm (decide (x < 0)) (decide (y < 0)) x.natAbs y.natAbs a b ca cb w hA hB hx hy
  rw [← pm_int, ← pm_int] at h
  exact h
theorem row_one {w : World} {b X : Nat} (h : b = w.heap.size) : Row (w.alloc (.cells #[.int .u64 (X : Nat)] 25)) b 25 1 (fun _ => X) :=
  row_new _ 1 _ _ h (by unfold cells; rfl)
theorem am_one {w : World} {b X : Nat} (hX : X < 18446744073709551616) (h0 : 0 < X) (hR : Row w b 25 1 (fun _ => X)) : Am w (.slice (some ⟨b, 0, none⟩) 1 1) X ∧ nl X = 1 := by
  have h := am_row (n := 1) (c := 1) hR (Nat.le_refl _) (Nat.le_refl _) (fun _ _ => hX)
  have e1 : sumL (fun _ => X) 1 = X := by rw [sumL_succ, sumL_zero, bp_zero]; omega
  have e2 : lenL (fun _ => X) 1 = 1 := by rw [lenL_succ, if_neg (by omega)]
  have e3 := nl_sum (S := fun _ => X) (n := 1) (fun _ _ => hX)
  rw [e1, e2] at h e3
  exact ⟨h, e3⟩
end Go.Proofs.Ytbogbdokllmanaa
/-
  The reference's numbers of 64 bits that come and go; its order of whole numbers.
-/
namespace Go.Proofs.Ytbogbdokllmanaa
open Go Go.RowKit
set_option maxRecDepth 100000

theorem of_big (v : Int) (h1 : -9223372036854775808 ≤ v) (h2 : v < 9223372036854775808) (w : World) :
    Calls Try.prog 13 #[.int .i64 v] w fun e w' => Up w w' ∧ ∃ u, e = .returned u ∧ Big w' u v := by
  obtain ⟨X, hX⟩ : ∃ X, X = v.natAbs := ⟨_, rfl⟩
  by_cases h0 : v < 0
  · have d0 : decide (v < 0) = true := decide_eq_true h0
    have e1 : IntKind.i64.wrap (v + 1) = v + 1 := IntWalk.i64_in _ (by omega)
    have e2 : IntKind.i64.wrap (-(v + 1)) = -(v + 1) := IntWalk.i64_in _ (by omega)
    obtain ⟨Y, hY⟩ : ∃ Y : Nat, (Y : Int) = -(v + 1) := ⟨(-(v + 1)).toNat, by omega⟩
    have e3 : IntKind.u64.wrap (-(v + 1)) = (Y : Nat) := by rw [IntKind.wrap_u64]; omega
    have e4 : IntKind.u64.wrap ((Y : Int) + 1) = (X : Nat) := by rw [IntKind.wrap_u64]; omega
    have HM := hid (fun a n c w => made_any true a n c w)
    have HX := hid hX
    have HX64 := hid (show X < 18446744073709551616 ∧ 0 < X by omega)
    clear hX hY
    go_enter Try.func13, Try.ntmps13
    go_wp2_with (first | ((with_reducible apply stB_P); exact rfl; exact rfl; (focus (repeat (first | assumption | ((with_reducible apply blk_new); (focus (first | rfl | (simp; done)))) | (with_reducible apply blk_alloc) | (with_reducible apply blk_drew) | (with_reducible apply blk_drewN) | ((with_reducible apply blk_up); assumption) | (with_reducible apply blk_same) | ((with_reducible apply blk_else); (focus (first | (simp; done) | (simp; omega) | omega)))))); exact rfl; exact rfl; exact one2 _ _ _ _) | (go_at_call 26; (with_reducible refine (HM.out _ _ _ _).mono ?_); rintro e wM ⟨rfl, hu⟩))
    have hR : Row ((w.alloc (Obj.cells #[Value.bool false, Value.slice none 0 0] 30)).alloc (Obj.cells #[Value.int IntKind.u64 (X : Nat)] 25)) (w.heap.size + 1) 25 1 (fun _ => X) := row_one (by simp)
    have hA := am_one HX64.out.1 HX64.out.2 (hR.up hu)
    have hB := big_made true (hA.2.symm ▸ hA.1)
    have hv : pm true X = v := by have := HX.out; simp only [pm, if_true]; omega
    rw [hv, hA.2, show (true && decide (0 < 1)) = true from rfl] at hB
    have hK : Blk wM w.heap.size 30 #[.bool false, .slice none 0 0] := (by (repeat (first | assumption | ((with_reducible apply blk_new); (focus (first | rfl | (simp; done)))) | (with_reducible apply blk_alloc) | (with_reducible apply blk_drew) | (with_reducible apply blk_drewN) | ((with_reducible apply blk_up); assumption) | (with_reducible apply blk_same) | ((with_reducible apply blk_else); (focus (first | (simp; done) | (simp; omega) | omega))))))
    exact bodyPost_ret (resB rfl rfl (hK.setRow _) rfl) rfl ⟨(by repeat (first | assumption | (with_reducible apply Up.of) | (with_reducible exact Below.refl _ _) | (with_reducible exact Up.refl _) | ((with_reducible apply bl_setRow); (focus (first | exact Nat.le_refl _ | (simp; done) | (simp; omega) | omega))) | (with_reducible apply below_drewN) | (with_reducible apply Below.drew) | ((with_reducible apply bl_alloc); (focus (first | exact Nat.le_refl _ | (simp; done) | (simp; omega) | omega))) | ((with_reducible apply bl_setCell); (focus (first | exact Nat.le_refl _ | (simp; done) | (simp; omega) | omega))) | ((with_reducible apply up_tr); assumption))), _, rfl, hB.setRow hK⟩
  · have d0 : decide (v < 0) = false := decide_eq_false h0
    have e3 : IntKind.u64.wrap v = (X : Nat) := by rw [IntKind.wrap_u64]; omega
    have HM := hid (fun a n c w => made_any false a n c w)
    have HX := hid hX
    have HX64 := hid (show X < 18446744073709551616 by omega)
    clear hX
    have eS : sumL (fun _ => X) 1 = X := by rw [sumL_succ, sumL_zero, bp_zero]; omega
    have eL : lenL (fun _ => X) 1 = nl X := by
      have e3 := nl_sum (S := fun _ => X) (n := 1) (fun _ _ => HX64.out)
      rw [eS] at e3
      exact e3.symm
    have hR : Row ((w.alloc (Obj.cells #[Value.bool false, Value.slice none 0 0] 30)).alloc (Obj.cells #[Value.int IntKind.u64 (X : Nat)] 25)) (w.heap.size + 1) 25 1 (fun _ => X) := row_one (by simp)
    have hT := trim_row (w.heap.size + 1) 1 1 1 (fun _ => X) _ hR (Nat.le_refl _) (Nat.le_refl _) (by decide)
    have hA := am_row (c := 1) hR (Nat.le_refl _) (Nat.le_refl _) (fun _ _ => HX64.out)
    rw [eL] at hT hA
    rw [eS] at hA
    have HT := hid hT
    have HA := hid hA
    clear hT hA hR eL eS
    go_enter Try.func13, Try.ntmps13
    go_wp2_with (first | ((with_reducible apply stB_P); exact rfl; exact rfl; (focus (repeat (first | assumption | ((with_reducible apply blk_new); (focus (first | rfl | (simp; done)))) | (with_reducible apply blk_alloc) | (with_reducible apply blk_drew) | (with_reducible apply blk_drewN) | ((with_reducible apply blk_up); assumption) | (with_reducible apply blk_same) | ((with_reducible apply blk_else); (focus (first | (simp; done) | (simp; omega) | omega)))))); exact rfl; exact rfl; exact one2 _ _ _ _) | (go_at_call 26; (with_reducible refine (HM.out _ _ _ _).mono ?_); rintro e wM ⟨rfl, hu⟩) | (go_at_call 27; (with_reducible refine HT.out.mono ?_); rintro e wT ⟨rfl, hv⟩))
    have hB := big_made false ((HA.out.up hv).up hu)
    have hv' : pm false X = v := by have := HX.out; simp only [pm, Bool.false_eq_true, if_false]; omega
    rw [hv', Bool.false_and] at hB
    have hK : Blk wM w.heap.size 30 #[.bool false, .slice none 0 0] := (by (repeat (first | assumption | ((with_reducible apply blk_new); (focus (first | rfl | (simp; done)))) | (with_reducible apply blk_alloc) | (with_reducible apply blk_drew) | (with_reducible apply blk_drewN) | ((with_reducible apply blk_up); assumption) | (with_reducible apply blk_same) | ((with_reducible apply blk_else); (focus (first | (simp; done) | (simp; omega) | omega))))))
    exact bodyPost_ret (resB rfl rfl (hK.setRow _) rfl) rfl ⟨(by repeat (first | assumption | (with_reducible apply Up.of) | (with_reducible exact Below.refl _ _) | (with_reducible exact Up.refl _) | ((with_reducible apply bl_setRow); (focus (first | exact Nat.le_refl _ | (simp; done) | (simp; omega) | omega))) | (with_reducible apply below_drewN) | (with_reducible apply Below.drew) | ((with_reducible apply bl_alloc); (focus (first | exact Nat.le_refl _ | (simp; done) | (simp; omega) | omega))) | ((with_reducible apply bl_setCell); (focus (first | exact Nat.le_refl _ | (simp; done) | (simp; omega) | omega))) | ((with_reducible apply up_tr); assumption))), _, rfl, hB.setRow hK⟩
end Go.Proofs.Ytbogbdokllmanaa
/-
  A whole number told as an int64, or that there is none: the two ways.
-/
namespace Go.Proofs.Ytbogbdokllmanaa
open Go Go.RowKit
set_option maxRecDepth 100000

end Go.Proofs.Ytbogbdokllmanaa
/-
  The reference's Int64.
-/
namespace Go.Proofs.Ytbogbdokllmanaa
open Go Go.RowKit
set_option maxRecDepth 100000

theorem nl_one {X : Nat} (h : nl X = 1) : X < 18446744073709551616 ∧ 0 < X ∧ limb X 0 = X := by
  have h1 := lt_bp_nl X
  rw [h, bp_succ, bp_zero] at h1
  have h2 := nl_pos_iff.1 (show 0 < nl X by omega)
  refine ⟨by omega, h2, ?_⟩
  rw [limb0, Nat.mod_eq_of_lt (by omega)]
end Go.Proofs.Ytbogbdokllmanaa
/-
  The reference's numbers out of wide ones.
-/
namespace Go.Proofs.Ytbogbdokllmanaa
open Go Go.RowKit
set_option maxRecDepth 100000

/-- append to nil of a whole array of limbs. -/
theorem appendP {ops : Array Oper} {rest : List Oper} {Q : Exit → Act → World → Prop} {a : Act} {w : World} {d : Option Tmp} {s : Tmp} {ty : TypeId} {pos : String} {af : Array Edge} {g c : Nat} {t : TypeId} {f : Nat → Nat}
    (hx : a.eval (.tmp s) = .slice (some ⟨g, 0, none⟩) 16 c) (hR : Row w g t 16 f)
    (h : ∀ (b cap : Nat) (C : Array Value) (w' : World), Up w w' → 16 ≤ cap → Blk w' b 25 C → (∀ i, i < 16 → C[i]? = some (.int .u64 (f i : Nat))) → wpList Try.prog ops Q rest (a.put d (.slice (some ⟨b, 0, none⟩) 16 cap)) w') :
    wpList Try.prog ops Q ({ dst := d, op := .call { callee := .builtin .append, args := #[.const (.slice none 0 0), .tmp s], argTypes := #[22, 22] }, type := ty, pos := pos, after := af, guard := none } :: rest) a w := by
  obtain ⟨i0, hi, hz0, hz1, hz2⟩ := info_parts infoU
  refine wpList_append_own w rfl _ _ 22 rfl 0 25 i0 (.int .u64 0) 1 8 undS hi hz0 hz1 hz2 rfl (by decide) (.slice none 0 0) 0 [] rfl (World.ownsRow_nil _ _ _ _) ⟨g, 0, none⟩ 16 c (cells 16 f).toList hx (by simp [cells_size]) ?_ ?_ (by decide) (by decide) (Nat.zero_le _) ?_
  · intro j u hj
    have hj16 : j < 16 := by
      have := (List.getElem?_eq_some_iff.1 hj).1
      simpa [cells_size] using this
    have hadd : (⟨g, 0, none⟩ : Addr).add j = ⟨g, j, none⟩ := by unfold Addr.add; split <;> simp_all
    rw [hadd, hR.cell j hj16]
    rw [Array.getElem?_toList, cells_get 16 f j hj16] at hj
    exact hj
  · intro u hu
    obtain ⟨j, hj⟩ := List.mem_iff_getElem?.1 hu
    have hj16 : j < 16 := by
      have := (List.getElem?_eq_some_iff.1 hj).1
      simpa [cells_size] using this
    rw [Array.getElem?_toList, cells_get 16 f j hj16] at hj
    cases hj
    rfl
  · intro v' w' hown hgrow _
    obtain ⟨hlen, hor⟩ := hown
    rcases hor with ⟨_, h0⟩ | ⟨b, cap, cur, rfl, _, hb, hcap, _, hsz, htake⟩
    · simp at h0
    · rw [Nat.zero_add] at hcap htake ⊢
      refine h b cap cur w' ⟨hgrow.os, hgrow.tape, hgrow.output, hgrow.size, fun k hk => hgrow.block k hk (by simp [Value.ownBlock])⟩ hcap hb fun i hi => ?_
      have h1 : (cur.toList.take (16 * 1))[i]? = ([] ++ (cells 16 f).toList)[i]? := by rw [htake]
      rw [List.getElem?_take_of_lt (by omega), List.nil_append, Array.getElem?_toList, Array.getElem?_toList, cells_get 16 f i hi] at h1
      exact h1
theorem xor_all {x : Nat} (h : x < 2 ^ 64) : (2 ^ 64 - 1) ^^^ x = 2 ^ 64 - (x + 1) := by
  apply Nat.eq_of_testBit_eq
  intro i
  rw [Nat.testBit_xor, Nat.testBit_two_pow_sub_one, Nat.testBit_two_pow_sub_succ h]
  by_cases hi : i < 64
  · simp [hi]
  · have : x.testBit i = false := Nat.testBit_lt_two_pow (Nat.lt_of_lt_of_le h (Nat.pow_le_pow_right (by decide) (by omega)))
    simp [hi, this]
theorem bits_not {x : Nat} (h : x < 18446744073709551616) : bits BinOp.xor IntKind.u64 IntKind.u64.max (x : Int) = ((18446744073709551615 - x : Nat) : Int) := by
  have h1 := bits_xor_u64_nat 18446744073709551615 x (by decide) h
  have h2 := xor_all (x := x) h
  rw [show (2 ^ 64 - 1 : Nat) = 18446744073709551615 from rfl, show (2 ^ 64 : Nat) = 18446744073709551616 from rfl] at h2
  rw [h2] at h1
  rw [show (IntKind.u64.max : Int) = ((18446744073709551615 : Nat) : Int) from rfl, h1]
  omega
theorem mkC {ops : Array Oper} {rest : List Oper} {Q : Exit → Act → World → Prop} {a : Act} {w : World} {d : Option Tmp} {ty : TypeId} {pos : String} {af : Array Edge} {L : Int} {n : Nat} (hL : L = (n : Int)) (hn : n < 1000000)
    (h : wpList Try.prog ops Q rest (a.put d (.slice (some ⟨w.heap.size, 0, none⟩) n n)) (w.alloc (.cells (cells n (fun _ => 0)) 25))) :
    wpList Try.prog ops Q ({ dst := d, op := .makeSlice 22 (.const (.int .i64 L)) (.const (.int .i64 L)), type := ty, pos := pos, after := af, guard := none } :: rest) a w := by
  refine wpList_plain rfl fun _ hK => ?_
  have hi := infoU
  cases hq : Try.prog.info? 25 with
  | none => rw [hq] at hi; simp at hi
  | some i =>
    rw [hq] at hi
    simp only [Option.map_some, Option.some.injEq, Prod.mk.injEq] at hi
    have hr := run_make (P := Try.prog) (w := w) 22 25 i (.int .u64 0) undS hq hi.1 .i64 .i64 L L (by omega) (by omega) (by rw [hi.2.2]; omega) (by omega)
    rw [hi.2.1, Nat.mul_one, hL, Int.toNat_natCast, zeros_made] at hr
    unfold Oper.wp execOp
    simp only [Act.eval, hL, Sem.run_bind, Sem.run_pure, Result.andThen_ok, hr]
    exact hK _ _ h
theorem comp_step {S : Nat → Nat} {X A B c r c' i : Nat} (h : sumL S i + c * bp i + A = B) (hB : B = bp i) (hr : r + c' * 18446744073709551616 + X = 18446744073709551615 + c) : sumL (upd S i r) (i + 1) + c' * bp (i + 1) + (A + X * bp i) = bp (i + 1) := by
  subst hB
  rw [sumL_upd_succ, bp_succ]
  have h2 : (r + c' * 18446744073709551616 + X) * bp i = (18446744073709551615 + c) * bp i := by rw [hr]
  have h3 : r * bp i + c' * (bp i * 18446744073709551616) + X * bp i = 18446744073709551615 * bp i + c * bp i := by grind
  omega
set_option maxHeartbeats 2000000 in
theorem from_wide {z : Int} (hz : InR z) (w : World) :
    Calls Try.prog 6 #[wideV (enc z)] w fun e w' => Up w w' ∧ ∃ v, e = .returned v ∧ Big w' v z := by
  have hlt := enc_lt z
  have htop := top_iff hlt
  have hc15 := cells_get 16 (limb (enc z)) 15 (by decide)
  have hl15 := limb_lt (enc z) 15
  have hsum := sumL_limb (enc z) 16
  rw [Nat.mod_eq_of_lt hlt] at hsum
  have hr := hz.out
  have hb16 := bp16
  by_cases h0 : z < 0
  · have hen := (enc_neg hz h0)
    have hd : ((limb (enc z) 15 : Nat) : Int) / 9223372036854775808 = 1 := by
      have := htop.2 hen.2
      omega
    have HE := hid hen.1
    have HZ := hid h0
    have HR := hid (show 0 < z.natAbs ∧ z.natAbs < bp 16 by have := hb_pos; omega)
    have HSum := hid hsum
    have HFl := hid (fun i => limb_lt (enc z) i)
    clear htop hsum hr hb16 hen hlt
    unfold wideV
    generalize hf : limb (enc z) = f at *
    generalize hff : f 15 = top at *
    go_enter Try.func6, Try.ntmps6
    go_wp2_with (first | ((with_reducible apply mkC (n := 16)); exact rfl; omega))
    go_loopw [3, 5] (fun tc ti wr => ∃ (i cc : Nat) (S : Nat → Nat), i ≤ 16 ∧ tc = .int .u64 (cc : Nat) ∧ ti = .int .i64 (i : Nat) ∧ cc ≤ 1 ∧ (∀ j, j < 16 → S j < 18446744073709551616) ∧ sumL S i + cc * bp i + sumL f i = bp i ∧
        Row wr w.heap.size 27 16 f ∧ Blk wr (w.heap.size + 1) 30 #[.bool false, .slice none 0 0] ∧ Row wr (w.heap.size + 1 + 1) 25 16 S ∧ Below w.heap.size w wr)
      (fun _ ti _ => 16 - (intOf ti).toNat)
    case atStart => exact ⟨0, 1, fun _ => 0, by omega, rfl, rfl, by omega, fun _ _ => by simp, by simp [sumL_zero, bp_zero], (by (repeat (first | assumption | ((with_reducible apply row_newc); (focus (first | rfl | (simp; done)))) | ((with_reducible apply row_newz); (focus (first | rfl | (simp; done)))) | (with_reducible apply row_same) | ((with_reducible apply row_else); (focus (first | (simp; done) | (simp; omega) | omega))) | (with_reducible apply row_alloc) | (with_reducible apply row_drew) | (with_reducible apply row_drewN) | ((with_reducible apply row_up); assumption)))), (by (repeat (first | assumption | ((with_reducible apply blk_new); (focus (first | rfl | (simp; done)))) | (with_reducible apply blk_alloc) | (with_reducible apply blk_drew) | (with_reducible apply blk_drewN) | ((with_reducible apply blk_up); assumption) | (with_reducible apply blk_same) | ((with_reducible apply blk_else); (focus (first | (simp; done) | (simp; omega) | omega)))))), (by (repeat (first | assumption | ((with_reducible apply row_newc); (focus (first | rfl | (simp; done)))) | ((with_reducible apply row_newz); (focus (first | rfl | (simp; done)))) | (with_reducible apply row_same) | ((with_reducible apply row_else); (focus (first | (simp; done) | (simp; omega) | omega))) | (with_reducible apply row_alloc) | (with_reducible apply row_drew) | (with_reducible apply row_drewN) | ((with_reducible apply row_up); assumption)))), (by repeat (first | assumption | (with_reducible apply Up.of) | (with_reducible exact Below.refl _ _) | (with_reducible exact Up.refl _) | ((with_reducible apply bl_setRow); (focus (first | exact Nat.le_refl _ | (simp; done) | (simp; omega) | omega))) | (with_reducible apply below_drewN) | (with_reducible apply Below.drew) | ((with_reducible apply bl_alloc); (focus (first | exact Nat.le_refl _ | (simp; done) | (simp; omega) | omega))) | ((with_reducible apply bl_setCell); (focus (first | exact Nat.le_refl _ | (simp; done) | (simp; omega) | omega))) | ((with_reducible apply up_tr); assumption)))⟩
    case round =>
      obtain ⟨i, cc, S, hi, rfl, rfl, hcc, hSb, hsum, hF, hK, hS, hB⟩ := hrel
      have HSb := hid hSb
      have Hsum := hid hsum
      clear hSb hsum
      by_cases hlt : i < 16
      · have hcx := hF.cell i hlt
        have hfi := HFl.out i
        obtain ⟨r, c', hadd, hrc, hrl, hc1⟩ : ∃ r c' : Nat, (∀ w, (callFunc 28 #[.int .u64 (18446744073709551615 - f i : Nat), .int .u64 0, .int .u64 (cc : Nat)]).run Try.prog w = .ok (.value (.tuple #[.int .u64 (r : Nat), .int .u64 (c' : Nat)])) w) ∧ Hid (r + c' * 18446744073709551616 + f i = 18446744073709551615 + cc) ∧ r < 18446744073709551616 ∧ c' ≤ 1 := by
          have h := run_add (18446744073709551615 - f i) 0 cc hcc
          simp only [show ((0 : Nat) : Int) = 0 from rfl] at h
          exact ⟨_, _, h, hid (by omega), Nat.mod_lt _ (by decide), by omega⟩
        have hxor := bits_not hfi
        obtain ⟨Y, hY⟩ : ∃ Y, 18446744073709551615 - f i = Y := ⟨_, rfl⟩
        rw [hY] at hadd hxor
        clear hY
        have hcs := hS.cell i hlt
        have hfs := hS.frozen i
        have gF := hF.other ⟨w.heap.size + 1 + 1, i, none⟩ (.int .u64 (r : Nat)) (by simp; omega)
        have gK := hK.other ⟨w.heap.size + 1 + 1, i, none⟩ (.int .u64 (r : Nat)) (by simp)
        have gS := hS.set i r
        have gB := hB.setCell (p := ⟨w.heap.size + 1 + 1, i, none⟩) (by simp; omega) (.int .u64 (r : Nat))
        clear hF hK hS hB
        go_wp2
        go_roundw
        case rel =>
          refine ⟨i + 1, c', upd S i r, by omega, rfl, by go_num, hc1, upd_lt HSb.out hrl, ?_, gF, gK, gS, gB⟩
          rw [sumL_succ f i]
          exact comp_step Hsum.out rfl hrc.out
        case measure => simp [intOf] <;> omega
      · obtain rfl : i = 16 := by omega
        have he : sumL S 16 = z.natAbs := by
          have h1 := Hsum.out
          have h2 := HSum.out
          have h3 := HE.out
          have h4 := HR.out
          have h5 := sumL_lt HSb.out
          rcases Nat.eq_zero_or_pos cc with h0 | h0
          · subst h0; omega
          · have : 1 * bp 16 ≤ cc * bp 16 := Nat.mul_le_mul_right _ h0
            omega
        have ht := trim_row (w.heap.size + 1 + 1) 16 16 16 S wr hS (Nat.le_refl _) (Nat.le_refl _) (by decide)
        have hres := am_row (c := 16) hS (Nat.le_refl _) (Nat.le_refl _) HSb.out
        have hn := nl_sum HSb.out
        rw [he] at hres hn
        rw [← hn] at ht hres
        have HT := hid ht
        have HA := hid hres
        clear ht hres he HSb Hsum hS hF hn
        go_wp2_with (first | (go_at_call 27; (with_reducible refine HT.out.mono ?_); rintro e wT ⟨rfl, huT⟩) | (go_at_call 26; (with_reducible refine (made_any _ _ _ _ _).mono ?_); rintro e wM ⟨rfl, huM⟩) | ((with_reducible apply stB_P); exact rfl; exact rfl; (focus (repeat (first | assumption | ((with_reducible apply blk_new); (focus (first | rfl | (simp; done)))) | (with_reducible apply blk_alloc) | (with_reducible apply blk_drew) | (with_reducible apply blk_drewN) | ((with_reducible apply blk_up); assumption) | (with_reducible apply blk_same) | ((with_reducible apply blk_else); (focus (first | (simp; done) | (simp; omega) | omega)))))); exact rfl; exact rfl; exact one2 _ _ _ _))
        have hB' := big_made true ((HA.out.up huT).up huM)
        have hv : pm true z.natAbs = z := by have h2 := HZ.out; simp only [pm, if_true]; omega
        rw [hv, Bool.true_and] at hB'
        have hK' : Blk wM (w.heap.size + 1) 30 #[.bool false, .slice none 0 0] := (hK.up huT).up huM
        exact bodyPost_ret (resB rfl rfl (hK'.setRow _) rfl) rfl ⟨(by repeat (first | assumption | (with_reducible apply Up.of) | (with_reducible exact Below.refl _ _) | (with_reducible exact Up.refl _) | ((with_reducible apply bl_setRow); (focus (first | exact Nat.le_refl _ | (simp; done) | (simp; omega) | omega))) | (with_reducible apply below_drewN) | (with_reducible apply Below.drew) | ((with_reducible apply bl_alloc); (focus (first | exact Nat.le_refl _ | (simp; done) | (simp; omega) | omega))) | ((with_reducible apply bl_setCell); (focus (first | exact Nat.le_refl _ | (simp; done) | (simp; omega) | omega))) | ((with_reducible apply up_tr); assumption))), _, rfl, hB'.setRow hK'⟩
  · have hen := (enc_nn hz (by omega))
    have hd : ((limb (enc z) 15 : Nat) : Int) / 9223372036854775808 = 0 := by
      have : ¬ 9223372036854775808 ≤ limb (enc z) 15 := fun h => by have := htop.1 h; omega
      omega
    have hS : ∀ i, i < 16 → limb (enc z) i < 18446744073709551616 := fun i _ => limb_lt _ i
    have hl1 := lenL_le (limb (enc z)) 16
    have HE := hid (show enc z = z.natAbs by omega)
    have HZ := hid (show decide (z < 0) = false from decide_eq_false h0)
    have HN := hid (nl_sum hS)
    rw [hsum] at HN
    have HSum := hid hsum
    have HS := hid hS
    clear htop hsum hr hb16 hen hlt hS
    unfold wideV
    generalize hf : limb (enc z) = f at *
    generalize hff : f 15 = top at *
    go_enter Try.func6, Try.ntmps6
    go_wp2_with (first | ((with_reducible apply appendP); exact rfl; (focus (repeat (first | assumption | ((with_reducible apply row_newc); (focus (first | rfl | (simp; done)))) | (with_reducible apply row_alloc)))); rintro ba cap C wA huA hcap hBA hCA) | (go_at_call 27; (with_reducible refine (trim_cells _ 16 cap f _ (fun i hi => hBA.cell i (hCA i hi)) hcap (by decide)).mono ?_); rintro e wT ⟨rfl, huT⟩) | (go_at_call 26; (with_reducible refine (made_any _ _ _ _ _).mono ?_); rintro e wM ⟨rfl, huM⟩) | ((with_reducible apply stB_P); exact rfl; exact rfl; (focus (repeat (first | assumption | ((with_reducible apply blk_new); (focus (first | rfl | (simp; done)))) | (with_reducible apply blk_alloc) | (with_reducible apply blk_drew) | (with_reducible apply blk_drewN) | ((with_reducible apply blk_up); assumption) | (with_reducible apply blk_same) | ((with_reducible apply blk_else); (focus (first | (simp; done) | (simp; omega) | omega)))))); exact rfl; exact rfl; exact one2 _ _ _ _))
    have hA := am_blk ((hBA.up huT).up huM) hCA hcap HS.out
    rw [HSum.out, ← HN.out] at hA
    have hB := big_made false hA
    have hv : pm false (enc z) = z := by
      have h1 := HE.out
      have h2 := of_decide_eq_false HZ.out
      simp only [pm, Bool.false_eq_true, if_false]
      omega
    rw [HN.out, Bool.false_and, hv] at hB
    have hK : Blk wM (w.heap.size + 1) 30 #[.bool false, .slice none 0 0] := (by (repeat (first | assumption | ((with_reducible apply blk_new); (focus (first | rfl | (simp; done)))) | (with_reducible apply blk_alloc) | (with_reducible apply blk_drew) | (with_reducible apply blk_drewN) | ((with_reducible apply blk_up); assumption) | (with_reducible apply blk_same) | ((with_reducible apply blk_else); (focus (first | (simp; done) | (simp; omega) | omega))))))
    exact bodyPost_ret (resB rfl rfl (hK.setRow _) rfl) rfl ⟨(by repeat (first | assumption | (with_reducible apply Up.of) | (with_reducible exact Below.refl _ _) | (with_reducible exact Up.refl _) | ((with_reducible apply bl_setRow); (focus (first | exact Nat.le_refl _ | (simp; done) | (simp; omega) | omega))) | (with_reducible apply below_drewN) | (with_reducible apply Below.drew) | ((with_reducible apply bl_alloc); (focus (first | exact Nat.le_refl _ | (simp; done) | (simp; omega) | omega))) | ((with_reducible apply bl_setCell); (focus (first | exact Nat.le_refl _ | (simp; done) | (simp; omega) | omega))) | ((with_reducible apply up_tr); assumption))), _, rfl, hB.setRow hK⟩
end Go.Proofs.Ytbogbdokllmanaa
/-
  The reference's lengths, and the least wide number's amount.
-/
namespace Go.Proofs.Ytbogbdokllmanaa
open Go Go.RowKit
set_option maxRecDepth 100000

theorem blen_nl {x : Nat} (h : 0 < nl x) : blen x = 64 * (nl x - 1) + Lib.bitLen (limb x (nl x - 1)) := by
  have h1 := blen_limbs (f := limb x) (n := x) (fun i _ => limb_lt x i) h
  rw [sumL_limb, Nat.mod_eq_of_lt (lt_bp_self x)] at h1
  exact h1
theorem size_am {x : Nat} {v : Value} {w : World} (h : Am w v x) (hx : nl x < 50000) :
    Calls Try.prog 35 #[v] w fun e w' => e = .returned (.int .i64 (blen x : Nat)) ∧ Up w w' := by
  obtain ⟨a, c, rfl, hc, hcell⟩ := h.open
  by_cases h0 : nl x = 0
  · have e : blen x = 0 := by
      have : x = 0 := by
        rcases Nat.eq_zero_or_pos x with h1 | h1
        · exact h1
        · have := nl_pos h1; omega
      rw [this]; rfl
    rw [e, h0]
    clear hcell e
    go_enter Try.func35, Try.ntmps35
    go_wp2
    go_ret
    exact ⟨rfl, (by repeat (first | assumption | (with_reducible apply Up.of) | (with_reducible exact Below.refl _ _) | (with_reducible exact Up.refl _) | ((with_reducible apply bl_setRow); (focus (first | exact Nat.le_refl _ | (simp; done) | (simp; omega) | omega))) | (with_reducible apply below_drewN) | (with_reducible apply Below.drew) | ((with_reducible apply bl_alloc); (focus (first | exact Nat.le_refl _ | (simp; done) | (simp; omega) | omega))) | ((with_reducible apply bl_setCell); (focus (first | exact Nat.le_refl _ | (simp; done) | (simp; omega) | omega))) | ((with_reducible apply up_tr); assumption)))⟩
  · obtain ⟨j, hj⟩ : ∃ j, nl x = j + 1 := ⟨nl x - 1, by omega⟩
    have hb := blen_nl (x := x) (by omega)
    have hl := limb_lt x j
    obtain ⟨b, rfl, hb1, hcb⟩ := hcell j (by omega)
    have hcW := hcb w (Up.refl _)
    rw [hj, Nat.add_sub_cancel] at hb
    have hbl := fun w' => Try.bits_Len64 (limb x j : Nat) w' (by omega) (by omega)
    simp only [Int.toNat_natCast] at hbl
    have HB := hid hbl
    have hle : Lib.bitLen (limb x j) ≤ 64 := by
      rcases Nat.eq_zero_or_pos (limb x j) with h1 | h1
      · rw [h1]; decide
      · exact (bitLen_spec hl (by omega)).2.2.2
    rw [hb, hj]
    clear hcell hcb hbl hb
    generalize limb x j = t at *
    generalize Lib.bitLen t = l at *
    go_enter Try.func35, Try.ntmps35
    go_wp2_with (go_at_call 56; refine (HB.out _).mono ?_; rintro e w' ⟨rfl, rfl⟩)
    go_ret
    exact ⟨ret_int (by omega), (by repeat (first | assumption | (with_reducible apply Up.of) | (with_reducible exact Below.refl _ _) | (with_reducible exact Up.refl _) | ((with_reducible apply bl_setRow); (focus (first | exact Nat.le_refl _ | (simp; done) | (simp; omega) | omega))) | (with_reducible apply below_drewN) | (with_reducible apply Below.drew) | ((with_reducible apply bl_alloc); (focus (first | exact Nat.le_refl _ | (simp; done) | (simp; omega) | omega))) | ((with_reducible apply bl_setCell); (focus (first | exact Nat.le_refl _ | (simp; done) | (simp; omega) | omega))) | ((with_reducible apply up_tr); assumption)))⟩
theorem hb_sum : sumL (upd (fun _ => 0) 15 9223372036854775808) 17 = hb := by
  have h1 := sumL_upd (fun _ => 0) (k := 15) (n := 17) 9223372036854775808 (by decide)
  rw [sumL_zeros] at h1
  unfold hb
  omega
set_option maxHeartbeats 1000000 in
theorem left_hb (b : Nat) (w : World) (hcell : ∀ w', Up w w' → w'.cell? ⟨b, 0, none⟩ = some (.int .u64 1)) (_ : b < w.heap.size) :
    Calls Try.prog 37 #[.slice (some ⟨b, 0, none⟩) 1 1, .int .i64 1023] w fun e w' => Up w w' ∧ ∃ v, e = .returned v ∧ Am w' v hb := by
  go_enter Try.func37, Try.ntmps37
  go_wp2_with (first | ((with_reducible apply mkP (n := 17)); exact rfl; (first | rfl | omega); omega))
  go_loopw [7] (fun ti wr => ∃ (i : Nat) (S : Nat → Nat), i ≤ 1 ∧ ti = .int .i64 (i : Nat) ∧ (i = 0 → S = fun _ => 0) ∧ (i = 1 → S = upd (fun _ => 0) 15 9223372036854775808) ∧ Row wr w.heap.size 25 17 S ∧ Below w.heap.size w wr)
    (fun ti _ => 1 - (intOf ti).toNat)
  case atStart => exact ⟨0, fun _ => 0, by omega, rfl, fun _ => rfl, fun h => by omega, (by (repeat (first | assumption | ((with_reducible apply row_newc); (focus (first | rfl | (simp; done)))) | ((with_reducible apply row_newz); (focus (first | rfl | (simp; done)))) | (with_reducible apply row_same) | ((with_reducible apply row_else); (focus (first | (simp; done) | (simp; omega) | omega))) | (with_reducible apply row_alloc) | (with_reducible apply row_drew) | (with_reducible apply row_drewN) | ((with_reducible apply row_up); assumption)))), (by repeat (first | assumption | (with_reducible apply Up.of) | (with_reducible exact Below.refl _ _) | (with_reducible exact Up.refl _) | ((with_reducible apply bl_setRow); (focus (first | exact Nat.le_refl _ | (simp; done) | (simp; omega) | omega))) | (with_reducible apply below_drewN) | (with_reducible apply Below.drew) | ((with_reducible apply bl_alloc); (focus (first | exact Nat.le_refl _ | (simp; done) | (simp; omega) | omega))) | ((with_reducible apply bl_setCell); (focus (first | exact Nat.le_refl _ | (simp; done) | (simp; omega) | omega))) | ((with_reducible apply up_tr); assumption)))⟩
  case round =>
    obtain ⟨i, S, hi, rfl, hS0, hS1, hS, hB⟩ := hrel
    by_cases hlt : i < 1
    · obtain rfl : i = 0 := by omega
      obtain rfl := hS0 rfl
      have hcx := hcell _ hB
      clear hS0 hS1
      have hc15 := hS.cell 15 (by decide)
      go_wp2
      refine wp_region_upH (S := (fun wq => Row wq w.heap.size 25 17 (fun _ => 0) ∧ wq.cell? ⟨b, 0, none⟩ = some (.int .u64 1) ∧ wq.cell? ⟨w.heap.size, 15, none⟩ = some (.int .u64 0) ∧ Below w.heap.size w wq)) (req := (fun j => j != 15)) (by kernel_rfl) (fun _ _ h hu => ⟨(h.1).up hu, hu.cell (h.2.1), hu.cell (h.2.2.1), below_up (h.2.2.2) hu⟩) ⟨(by (repeat (first | assumption | ((with_reducible apply row_newc); (focus (first | rfl | (simp; done)))) | ((with_reducible apply row_newz); (focus (first | rfl | (simp; done)))) | (with_reducible apply row_same) | ((with_reducible apply row_else); (focus (first | (simp; done) | (simp; omega) | omega))) | (with_reducible apply row_alloc) | (with_reducible apply row_drew) | (with_reducible apply row_drewN) | ((with_reducible apply row_up); assumption)))), (by first | assumption | (apply Blk.cell; (focus (repeat (first | assumption | ((with_reducible apply blk_new); (focus (first | rfl | (simp; done)))) | (with_reducible apply blk_alloc) | (with_reducible apply blk_drew) | (with_reducible apply blk_drewN) | ((with_reducible apply blk_up); assumption) | (with_reducible apply blk_same) | ((with_reducible apply blk_else); (focus (first | (simp; done) | (simp; omega) | omega)))))); exact rfl)), (by first | assumption | (apply Blk.cell; (focus (repeat (first | assumption | ((with_reducible apply blk_new); (focus (first | rfl | (simp; done)))) | (with_reducible apply blk_alloc) | (with_reducible apply blk_drew) | (with_reducible apply blk_drewN) | ((with_reducible apply blk_up); assumption) | (with_reducible apply blk_same) | ((with_reducible apply blk_else); (focus (first | (simp; done) | (simp; omega) | omega)))))); exact rfl)), (by repeat (first | assumption | (with_reducible apply Up.of) | (with_reducible exact Below.refl _ _) | (with_reducible exact Up.refl _) | ((with_reducible apply bl_setRow); (focus (first | exact Nat.le_refl _ | (simp; done) | (simp; omega) | omega))) | (with_reducible apply below_drewN) | (with_reducible apply Below.drew) | ((with_reducible apply bl_alloc); (focus (first | exact Nat.le_refl _ | (simp; done) | (simp; omega) | omega))) | ((with_reducible apply bl_setCell); (focus (first | exact Nat.le_refl _ | (simp; done) | (simp; omega) | omega))) | ((with_reducible apply up_tr); assumption)))⟩ (fun wS hSS hSu => ?_)
      have ⟨hS1, hS2, hS3, hSB⟩ := hSS
      clear hcx hc15 hB
      have e15 : IntKind.i64.wrap 15 = 15 := by rw [IntKind.wrap_i64]; rfl
      have e16 : IntKind.i64.wrap 16 = 16 := by rw [IntKind.wrap_i64]; rfl
      have e63 : IntKind.u64.wrap 9223372036854775808 = 9223372036854775808 := by rw [IntKind.wrap_u64]; rfl
      have eor : bits BinOp.or IntKind.u64 0 9223372036854775808 = 9223372036854775808 := by
        have := bits_or_u64_nat 0 9223372036854775808 (by decide) (by decide)
        rw [Nat.zero_or] at this
        exact this
      have eoz : bits BinOp.or IntKind.u64 0 0 = 0 := by
        have := bits_or_u64_nat 0 0 (by decide) (by decide)
        rw [Nat.zero_or] at this
        exact this
      refine wpAnyU_pure (i := 0) (d := (some 26)) (v := ?_) rfl rfl (by kernel_rfl) (fun _ _ _ h => h) hSu.out (Or.inl ⟨by rfl, fun w' _ => yu_value ?_⟩) ?_
      rotate_left
      · (go_simp; (try exact rfl))
      try simp only [Act.put, pu1, pu2, pu3]
      refine wpAnyU_pure (i := 1) (d := (some 27)) (v := ?_) rfl rfl (by kernel_rfl) (fun _ _ _ h => h) hSu.out (Or.inl ⟨by rfl, fun w' _ => yu_value ?_⟩) ?_
      rotate_left
      · (go_simp; (try exact rfl))
      try simp only [Act.put, pu1, pu2, pu3]
      refine wpAnyU_pure (i := 2) (d := (some 28)) (v := ?_) rfl rfl (by kernel_rfl) (fun _ _ _ h => h) hSu.out (Or.inl ⟨by rfl, fun w' _ => yu_value ?_⟩) ?_
      rotate_left
      · (go_simp; (try exact rfl))
      try simp only [Act.put, pu1, pu2, pu3]
      refine wpAnyU_pure (i := 3) (d := (some 29)) (v := ?_) rfl rfl (by kernel_rfl) (fun _ _ _ h => h) hSu.out (Or.inl ⟨by rfl, fun w' _ => yu_value ?_⟩) ?_
      rotate_left
      · (go_simp; (try exact rfl))
      try simp only [Act.put, pu1, pu2, pu3]
      refine wpAnyU_pure (i := 4) (d := (some 30)) (v := ?_) rfl rfl (by kernel_rfl) (fun _ _ _ h => h) hSu.out (Or.inl ⟨by rfl, fun w' _ => yu_value ?_⟩) ?_
      rotate_left
      · (go_simp; (try exact rfl))
      try simp only [Act.put, pu1, pu2, pu3]
      refine wpAnyU_pure (i := 5) (d := (some 31)) (v := ?_) rfl rfl (by kernel_rfl) (fun _ _ _ h => h) hSu.out (Or.inl ⟨by rfl, fun w' _ => yu_value ?_⟩) ?_
      rotate_left
      · (go_simp; (try exact rfl))
      try simp only [Act.put, pu1, pu2, pu3]
      refine wpAnyU_take (i := 6) (d := (some 32)) (v := ?_) rfl rfl (by kernel_rfl) (fun _ _ _ h => h) hSu.out hSS (Or.inl ⟨by rfl, fun w' hSw => yu_value ?_⟩) ?_
      rotate_left
      · ((try dsimp only at hSw); (try obtain ⟨_, _, _, _⟩ := hSw); go_simp; (try exact rfl))
      try simp only [Act.put, pu1, pu2, pu3]
      refine wpAnyU_pure (i := 7) (d := (some 33)) (v := ?_) rfl rfl (by kernel_rfl) (fun _ _ _ h => h) hSu.out (Or.inl ⟨by rfl, fun w' _ => yu_value ?_⟩) ?_
      rotate_left
      · (go_simp; (try exact rfl))
      try simp only [Act.put, pu1, pu2, pu3]
      refine wpAnyU_pure (i := 8) (d := (some 34)) (v := ?_) rfl rfl (by kernel_rfl) (fun _ _ _ h => h) hSu.out (Or.inl ⟨by rfl, fun w' _ => yu_value ?_⟩) ?_
      rotate_left
      · (go_simp; (try exact rfl))
      try simp only [Act.put, pu1, pu2, pu3]
      refine wpAnyU_pure (i := 9) (d := (some 35)) (v := ?_) rfl rfl (by kernel_rfl) (fun _ _ _ h => h) hSu.out (Or.inl ⟨by rfl, fun w' _ => yu_value ?_⟩) ?_
      rotate_left
      · (go_simp; (try exact rfl))
      try simp only [Act.put, pu1, pu2, pu3]
      refine wpAnyU_take (i := 10) (d := (some 36)) (v := ?_) rfl rfl (by kernel_rfl) (fun _ _ _ h => h) hSu.out hSS (Or.inl ⟨by rfl, fun w' hSw => yu_value ?_⟩) ?_
      rotate_left
      · ((try dsimp only at hSw); (try obtain ⟨_, _, _, _⟩ := hSw); go_simp; (try exact rfl))
      try simp only [Act.put, pu1, pu2, pu3]
      refine wpAnyU_pure (i := 11) (d := (some 37)) (v := ?_) rfl rfl (by kernel_rfl) (fun _ _ _ h => h) hSu.out (Or.inl ⟨by rfl, fun w' _ => yu_value ?_⟩) ?_
      rotate_left
      · (go_simp; (try exact rfl))
      try simp only [Act.put, pu1, pu2, pu3]
      refine wpAnyU_pure (i := 12) (d := (some 38)) (v := ?_) rfl rfl (by kernel_rfl) (fun _ _ _ h => h) hSu.out (Or.inl ⟨by rfl, fun w' _ => yu_value ?_⟩) ?_
      rotate_left
      · (go_simp; (try exact rfl))
      try simp only [Act.put, pu1, pu2, pu3]
      refine wpAnyU_pure (i := 13) (d := (some 39)) (v := ?_) rfl rfl (by kernel_rfl) (fun _ _ _ h => h) hSu.out (Or.inl ⟨by rfl, fun w' _ => yu_value ?_⟩) ?_
      rotate_left
      · (go_simp; (try exact rfl))
      try simp only [Act.put, pu1, pu2, pu3]
      refine wpAnyU_pure (i := 14) (d := (some 40)) (v := ?_) rfl rfl (by kernel_rfl) (fun _ _ _ h => h) hSu.out (Or.inl ⟨by rfl, fun w' _ => yu_value ?_⟩) ?_
      rotate_left
      · (go_simp; (try exact rfl))
      try simp only [Act.put, pu1, pu2, pu3]
      refine wpAnyU_one (i := 15) rfl (by kernel_rfl) (by rfl) fun w1 hw1 => ?_
      have hcW := (hS1.up hw1).cell 15 (by omega)
      have hfW := (hS1.up hw1).frozen 15
      go_simp
      clear hcW hfW
      refine wpAnyU_done (by kernel_rfl) (fun wF huE => ?_) _
      have gS := ((hS1.up hw1).set 15 9223372036854775808).up huE
      have gB := below_up ((below_up hSB hw1).setCell (p := ⟨w.heap.size, 15, none⟩) (Nat.le_refl _) (.int .u64 (9223372036854775808 : Nat))) huE
      clear hS1 hS2 hS3 hSB hSS hw1 huE
      have hcx := hcell _ gB
      have hc16 := gS.cell 16 (by decide)
      rw [show upd (fun _ => 0) 15 9223372036854775808 16 = 0 from rfl] at hc16
      go_wp2
      refine wp_region_upH (S := (fun wq => Row wq w.heap.size 25 17 (upd (fun _ => 0) 15 9223372036854775808) ∧ wq.cell? ⟨b, 0, none⟩ = some (.int .u64 1) ∧ wq.cell? ⟨w.heap.size, 16, none⟩ = some (.int .u64 0) ∧ Below w.heap.size w wq)) (req := (fun j => j != 17)) (by kernel_rfl) (fun _ _ h hu => ⟨(h.1).up hu, hu.cell (h.2.1), hu.cell (h.2.2.1), below_up (h.2.2.2) hu⟩) ⟨(by (repeat (first | assumption | ((with_reducible apply row_newc); (focus (first | rfl | (simp; done)))) | ((with_reducible apply row_newz); (focus (first | rfl | (simp; done)))) | (with_reducible apply row_same) | ((with_reducible apply row_else); (focus (first | (simp; done) | (simp; omega) | omega))) | (with_reducible apply row_alloc) | (with_reducible apply row_drew) | (with_reducible apply row_drewN) | ((with_reducible apply row_up); assumption)))), (by first | assumption | (apply Blk.cell; (focus (repeat (first | assumption | ((with_reducible apply blk_new); (focus (first | rfl | (simp; done)))) | (with_reducible apply blk_alloc) | (with_reducible apply blk_drew) | (with_reducible apply blk_drewN) | ((with_reducible apply blk_up); assumption) | (with_reducible apply blk_same) | ((with_reducible apply blk_else); (focus (first | (simp; done) | (simp; omega) | omega)))))); exact rfl)), (by first | assumption | (apply Blk.cell; (focus (repeat (first | assumption | ((with_reducible apply blk_new); (focus (first | rfl | (simp; done)))) | (with_reducible apply blk_alloc) | (with_reducible apply blk_drew) | (with_reducible apply blk_drewN) | ((with_reducible apply blk_up); assumption) | (with_reducible apply blk_same) | ((with_reducible apply blk_else); (focus (first | (simp; done) | (simp; omega) | omega)))))); exact rfl)), (by repeat (first | assumption | (with_reducible apply Up.of) | (with_reducible exact Below.refl _ _) | (with_reducible exact Up.refl _) | ((with_reducible apply bl_setRow); (focus (first | exact Nat.le_refl _ | (simp; done) | (simp; omega) | omega))) | (with_reducible apply below_drewN) | (with_reducible apply Below.drew) | ((with_reducible apply bl_alloc); (focus (first | exact Nat.le_refl _ | (simp; done) | (simp; omega) | omega))) | ((with_reducible apply bl_setCell); (focus (first | exact Nat.le_refl _ | (simp; done) | (simp; omega) | omega))) | ((with_reducible apply up_tr); assumption)))⟩ (fun wS hSS hSu => ?_)
      have ⟨hS1, hS2, hS3, hSB⟩ := hSS
      clear hcx hc16 gB gS
      refine wpAnyU_pure (i := 0) (d := (some 43)) (v := ?_) rfl rfl (by kernel_rfl) (fun _ _ _ h => h) hSu.out (Or.inl ⟨by rfl, fun w' _ => yu_value ?_⟩) ?_
      rotate_left
      · (go_simp; (try exact rfl))
      try simp only [Act.put, pu1, pu2, pu3]
      refine wpAnyU_pure (i := 1) (d := (some 44)) (v := ?_) rfl rfl (by kernel_rfl) (fun _ _ _ h => h) hSu.out (Or.inl ⟨by rfl, fun w' _ => yu_value ?_⟩) ?_
      rotate_left
      · (go_simp; (try exact rfl))
      try simp only [Act.put, pu1, pu2, pu3]
      refine wpAnyU_pure (i := 2) (d := (some 45)) (v := ?_) rfl rfl (by kernel_rfl) (fun _ _ _ h => h) hSu.out (Or.inl ⟨by rfl, fun w' _ => yu_value ?_⟩) ?_
      rotate_left
      · (go_simp; (try exact rfl))
      try simp only [Act.put, pu1, pu2, pu3]
      refine wpAnyU_pure (i := 3) (d := (some 46)) (v := ?_) rfl rfl (by kernel_rfl) (fun _ _ _ h => h) hSu.out (Or.inl ⟨by rfl, fun w' _ => yu_value ?_⟩) ?_
      rotate_left
      · (go_simp; (try exact rfl))
      try simp only [Act.put, pu1, pu2, pu3]
      refine wpAnyU_pure (i := 4) (d := (some 47)) (v := ?_) rfl rfl (by kernel_rfl) (fun _ _ _ h => h) hSu.out (Or.inl ⟨by rfl, fun w' _ => yu_value ?_⟩) ?_
      rotate_left
      · (go_simp; (try exact rfl))
      try simp only [Act.put, pu1, pu2, pu3]
      refine wpAnyU_pure (i := 5) (d := (some 48)) (v := ?_) rfl rfl (by kernel_rfl) (fun _ _ _ h => h) hSu.out (Or.inl ⟨by rfl, fun w' _ => yu_value ?_⟩) ?_
      rotate_left
      · (go_simp; (try exact rfl))
      try simp only [Act.put, pu1, pu2, pu3]
      refine wpAnyU_pure (i := 6) (d := (some 49)) (v := ?_) rfl rfl (by kernel_rfl) (fun _ _ _ h => h) hSu.out (Or.inl ⟨by rfl, fun w' _ => yu_value ?_⟩) ?_
      rotate_left
      · (go_simp; (try exact rfl))
      try simp only [Act.put, pu1, pu2, pu3]
      refine wpAnyU_take (i := 7) (d := (some 50)) (v := ?_) rfl rfl (by kernel_rfl) (fun _ _ _ h => h) hSu.out hSS (Or.inl ⟨by rfl, fun w' hSw => yu_value ?_⟩) ?_
      rotate_left
      · ((try dsimp only at hSw); (try obtain ⟨_, _, _, _⟩ := hSw); go_simp; (try exact rfl))
      try simp only [Act.put, pu1, pu2, pu3]
      refine wpAnyU_pure (i := 8) (d := (some 51)) (v := ?_) rfl rfl (by kernel_rfl) (fun _ _ _ h => h) hSu.out (Or.inl ⟨by rfl, fun w' _ => yu_value ?_⟩) ?_
      rotate_left
      · (go_simp; (try exact rfl))
      try simp only [Act.put, pu1, pu2, pu3]
      refine wpAnyU_pure (i := 9) (d := (some 52)) (v := ?_) rfl rfl (by kernel_rfl) (fun _ _ _ h => h) hSu.out (Or.inl ⟨by rfl, fun w' _ => yu_value ?_⟩) ?_
      rotate_left
      · (go_simp; (try exact rfl))
      try simp only [Act.put, pu1, pu2, pu3]
      refine wpAnyU_pure (i := 10) (d := (some 53)) (v := ?_) rfl rfl (by kernel_rfl) (fun _ _ _ h => h) hSu.out (Or.inl ⟨by rfl, fun w' _ => yu_value ?_⟩) ?_
      rotate_left
      · (go_simp; (try exact rfl))
      try simp only [Act.put, pu1, pu2, pu3]
      refine wpAnyU_take (i := 11) (d := (some 54)) (v := ?_) rfl rfl (by kernel_rfl) (fun _ _ _ h => h) hSu.out hSS (Or.inl ⟨by rfl, fun w' hSw => yu_value ?_⟩) ?_
      rotate_left
      · ((try dsimp only at hSw); (try obtain ⟨_, _, _, _⟩ := hSw); go_simp; (try exact rfl))
      try simp only [Act.put, pu1, pu2, pu3]
      refine wpAnyU_pure (i := 12) (d := (some 55)) (v := ?_) rfl rfl (by kernel_rfl) (fun _ _ _ h => h) hSu.out (Or.inl ⟨by rfl, fun w' _ => yu_value ?_⟩) ?_
      rotate_left
      · (go_simp; (try exact rfl))
      try simp only [Act.put, pu1, pu2, pu3]
      refine wpAnyU_pure (i := 13) (d := (some 56)) (v := ?_) rfl rfl (by kernel_rfl) (fun _ _ _ h => h) hSu.out (Or.inl ⟨by rfl, fun w' _ => yu_value ?_⟩) ?_
      rotate_left
      · (go_simp; (try exact rfl))
      try simp only [Act.put, pu1, pu2, pu3]
      refine wpAnyU_pure (i := 14) (d := (some 57)) (v := ?_) rfl rfl (by kernel_rfl) (fun _ _ _ h => h) hSu.out (Or.inl ⟨by rfl, fun w' _ => yu_value ?_⟩) ?_
      rotate_left
      · (go_simp; (try exact rfl))
      try simp only [Act.put, pu1, pu2, pu3]
      refine wpAnyU_pure (i := 15) (d := (some 58)) (v := ?_) rfl rfl (by kernel_rfl) (fun _ _ _ h => h) hSu.out (Or.inl ⟨by rfl, fun w' _ => yu_value ?_⟩) ?_
      rotate_left
      · (go_simp; (try exact rfl))
      try simp only [Act.put, pu1, pu2, pu3]
      refine wpAnyU_pure (i := 16) (d := (some 59)) (v := ?_) rfl rfl (by kernel_rfl) (fun _ _ _ h => h) hSu.out (Or.inl ⟨by rfl, fun w' _ => yu_value ?_⟩) ?_
      rotate_left
      · (go_simp; (try exact rfl))
      try simp only [Act.put, pu1, pu2, pu3]
      refine wpAnyU_one (i := 17) rfl (by kernel_rfl) (by rfl) fun w1 hw1 => ?_
      have hcW := (hS1.up hw1).cell 16 (by omega)
      have hfW := (hS1.up hw1).frozen 16
      go_simp
      clear hcW hfW
      refine wpAnyU_done (by kernel_rfl) (fun wF huE => ?_) _
      have gS := ((hS1.up hw1).set 16 0).up huE
      have gB := below_up ((below_up hSB hw1).setCell (p := ⟨w.heap.size, 16, none⟩) (Nat.le_refl _) (.int .u64 (0 : Nat))) huE
      clear hS1 hS2 hS3 hSB hSS hw1 huE
      go_wp2
      go_roundw
      case rel => exact ⟨1, _, by omega, rfl, fun h => by omega, fun _ => rfl, gS.congr fun i _ => by unfold upd; split <;> (first | rfl | (subst_vars; rfl) | simp_all), gB⟩
      case measure => simp [intOf]
    · obtain rfl : i = 1 := by omega
      obtain rfl := hS1 rfl
      clear hS0 hS1
      have hSb : ∀ j, j < 17 → upd (fun _ => 0) 15 9223372036854775808 j < 18446744073709551616 := upd_lt (fun _ _ => by simp) (by decide)
      have ht := trim_row w.heap.size 17 17 17 (upd (fun _ => 0) 15 9223372036854775808) wr hS (Nat.le_refl _) (Nat.le_refl _) (by omega)
      have hres := am_row (c := 17) hS (Nat.le_refl _) (Nat.le_refl _) hSb
      rw [hb_sum] at hres
      have HT := hid ht
      have HR := hid hres
      clear ht hres hSb hS
      generalize lenL (upd (fun _ => 0) 15 9223372036854775808) 17 = n at *
      go_wp2_with (go_at_call 27; (with_reducible refine HT.out.mono ?_); rintro e w' ⟨rfl, hu⟩)
      go_ret
      exact ⟨below_up hB hu, _, rfl, HR.out.up hu⟩
end Go.Proofs.Ytbogbdokllmanaa
/-
  The reference's wide numbers out of whole ones.
-/
namespace Go.Proofs.Ytbogbdokllmanaa
open Go Go.RowKit
set_option maxRecDepth 100000

theorem blen_small {x : Nat} (h : x < hb) : blen x < 1024 := by
  obtain ⟨c, hc⟩ : ∃ c, c = 1023 := ⟨_, rfl⟩
  rw [hb_pow c hc] at h
  rcases Nat.lt_or_ge (blen x) 1024 with h1 | h1
  · exact h1
  · have h0 : x ≠ 0 := fun e => by subst e; simp [blen] at h1
    have h2 := blen_le h0
    have h3 : 2 ^ c ≤ 2 ^ (blen x - 1) := Nat.pow_le_pow_right (by decide) (by omega)
    omega
theorem blen_mid {x : Nat} (h1 : hb ≤ x) (h2 : x < bp 16) : blen x = 1024 := by
  obtain ⟨c, hc⟩ : ∃ c, c = 1023 := ⟨_, rfl⟩
  have h3 := bp16
  rw [hb_pow c hc] at h1 h3
  have := blen_of (x := x) (k := c) h1 (by rw [Nat.pow_succ]; omega)
  omega
theorem blen_over {x : Nat} (h : bp 16 ≤ x) : 1024 < blen x := by
  obtain ⟨c, hc⟩ : ∃ c, c = 1024 := ⟨_, rfl⟩
  have h3 := bp_two 16
  rw [show 64 * 16 = c by omega] at h3
  rw [h3] at h
  rcases Nat.lt_or_ge 1024 (blen x) with h1 | h1
  · exact h1
  · have h2 := blen_lt x
    have h4 : 2 ^ blen x ≤ 2 ^ c := Nat.pow_le_pow_right (by decide) (by omega)
    omega
theorem wp_copy {K : Act → World → Prop} {Q : Exit → Act → World → Prop} {a : Act} {w : World} {o : Oper} {d s : Operand} {x g c : Nat} {sp : Option Addr} (hgd : o.guard = none) (ho : o.op = .call { callee := .builtin .copy, args := #[d, s], argTypes := #[22, 22] })
    (hd : a.eval d = .slice (some ⟨g, 0, none⟩) 16 16) (hs : a.eval s = .slice sp (nl x) c) (hA : Am w (.slice sp (nl x) c) x) (hx : nl x ≤ 16) (hg : Row w g 27 16 (fun _ => 0))
    (h : ∀ w', Row w' g 27 16 (limb x) → Below g w w' → K (a.put o.dst (goInt (nl x))) w') : o.wp Try.prog a w K Q := by
  obtain ⟨a', c', he, hc, hC⟩ := hA
  obtain ⟨rfl, rfl⟩ : sp = a' ∧ c = c' := by simpa using he
  have hlen : ((cells 16 (limb x)).toList.take (nl x)).length = nl x := by simp [cells_size]; omega
  have hiU : (Try.prog.info? 25).map (·.size) = some 1 := by
    have := infoU
    cases hq : Try.prog.info? 25 with
    | none => rw [hq] at this; simp at this
    | some i =>
      rw [hq] at this
      simp only [Option.map_some, Option.some.injEq, Prod.mk.injEq] at this
      simp [this.2.1]
  have hcs : ∀ j v, ((cells 16 (limb x)).toList.take (nl x))[j]? = some v → j < nl x ∧ v = .int .u64 (limb x j : Nat) := fun j v hj => by
    have h1 : j < nl x := by
      have := (List.getElem?_eq_some_iff.1 hj).1
      rw [hlen] at this
      exact this
    rw [List.getElem?_take_of_lt h1, Array.getElem?_toList, cells_get 16 _ j (by omega)] at hj
    cases hj
    exact ⟨h1, rfl⟩
  have hst := step_copy_splice (P := Try.prog) (ops := #[]) (o := o) (a := a) (w := w) (K := K) (Q := Q) (E := True) hgd d s 22 22 ho 25 undS hiU (some ⟨g, 0, none⟩) sp 16 16 (nl x) c hd hs g 0 (cells 16 (fun _ => 0)).toList 27 hg ((cells 16 (limb x)).toList.take (nl x)) (by rw [hlen]; exact (Nat.min_eq_left hx).symm)
    (fun h0 => by
      rw [hlen] at h0
      obtain ⟨b, C, rfl, hB, hC'⟩ := hC h0
      refine ⟨rfl, _, rfl, fun j v hj => ?_⟩
      obtain ⟨h1, rfl⟩ := hcs j v hj
      have hadd : (⟨b, 0, none⟩ : Addr).add j = ⟨b, j, none⟩ := by unfold Addr.add; split <;> simp_all
      rw [hadd]
      exact hB.cell j (hC' j h1))
    (by rw [hlen]; simp [cells_size]; omega)
    (fun v hv => by
      obtain ⟨j, hj⟩ := List.mem_iff_getElem?.1 hv
      obtain ⟨_, rfl⟩ := hcs j v hj
      rfl) g w (Below.refl _ _) (Nat.le_refl _)
    (fun w' h1 h2 => by
      rw [hlen]
      refine h w' ?_ h2
      have h3 := h1.out
      unfold Row Blk
      rw [h3]
      congr 2
      apply Array.ext
      · rw [List.size_toArray, length_splice _ _ _ (by rw [hlen]; simp [cells_size]; omega)]; simp [cells_size]
      · intro i hi1 hi2
        rw [cells_size] at hi2
        have e1 : (splice (cells 16 (fun _ => 0)).toList 0 ((cells 16 (limb x)).toList.take (nl x)))[i]? = some (.int .u64 (limb x i : Nat)) := by
          unfold splice
          rw [hlen, List.take_zero, List.nil_append, Nat.zero_add]
          by_cases hin : i < nl x
          · rw [List.getElem?_append_left (by rw [hlen]; exact hin), List.getElem?_take_of_lt hin, Array.getElem?_toList, cells_get 16 _ i hi2]
          · rw [List.getElem?_append_right (by rw [hlen]; omega), hlen, List.getElem?_drop, Array.getElem?_toList, show nl x + (i - nl x) = i by omega, cells_get 16 _ i hi2, limb_nl (by omega)]
        have e2 := cells_get 16 (limb x) i hi2
        have e3 : (splice (cells 16 (fun _ => 0)).toList 0 ((cells 16 (limb x)).toList.take (nl x))).toArray[i]? = (cells 16 (limb x))[i]? := by rw [e2, List.getElem?_toArray, e1]
        rw [Array.getElem?_eq_getElem hi1, Array.getElem?_eq_getElem (by rw [cells_size]; exact hi2)] at e3
        exact Option.some.inj e3)
  rw [if_pos (by simp [Region.wanted, hgd])] at hst
  exact hst
end Go.Proofs.Ytbogbdokllmanaa
/-
  The reference's wide numbers out of whole ones.
-/
namespace Go.Proofs.Ytbogbdokllmanaa
open Go Go.RowKit
set_option maxRecDepth 100000

theorem Row.belowU {w w' : World} {B b n : Nat} {t : TypeId} {f : Nat → Nat} (hb : Below B w w') (hB : b < B) (h : Row w b t n f) : Row w' b t n f := by
  unfold Row Blk at *; rw [hb.block b hB]; exact h
theorem Blk.belowU {w w' : World} {B b : Nat} {t : TypeId} {C : Array Value} (hb : Below B w w') (hB : b < B) (h : Blk w b t C) : Blk w' b t C := by
  unfold Blk at *; rw [hb.block b hB]; exact h
set_option maxRecDepth 100000 in
set_option maxHeartbeats 4000000 in
theorem to_small {z : Int} {v : Value} {w : World} (h : Big w v z) (hlt : z.natAbs < hb) :
    Calls Try.prog 14 #[v] w fun e w' => e = .returned (opt z) ∧ Up w w' := by
  have hbp := hb_pos
  have hb16 := bp16
  have hz : InR z := InR.mk' (by omega)
  rw [opt_yes hz]
  obtain ⟨a, c, rfl, hA⟩ := h
  have hn16 : nl z.natAbs ≤ 16 := nl_le (by omega)
  have hsz := fun w' (h : Up w w') => size_am (hA.up h) (by omega)
  have hbl := blen_small hlt
  have hen := enc_neg hz
  have hep := enc_nn hz
  obtain ⟨p, hp⟩ : ∃ p, decide (z < 0) = p := ⟨_, rfl⟩
  obtain ⟨x, hx⟩ : ∃ x, z.natAbs = x := ⟨_, rfl⟩
  rw [hp, hx]
  rw [hx] at hlt hn16 hsz hbl hA
  have d1 : decide ((1024 : Int) < (blen x : Nat)) = false := decide_eq_false (by omega)
  have d2 : (((blen x : Nat) : Int) == 1024) = false := by simp; omega
  have HSZ := hid hsz
  clear hsz
  generalize blen x = n at *
  cases p with
  | false =>
    have HE := hid (show x = enc z by have := of_decide_eq_false hp; have := (hep (by omega)).1; omega)
    clear hen hep hp hx hz hb16 hbp hlt
    unfold wideV
    go_enter Try.func14, Try.ntmps14
    go_wp2_with (first | (go_at_call 35; (with_reducible refine (HSZ.out _ (by repeat (first | assumption | (with_reducible apply Up.of) | (with_reducible exact Below.refl _ _) | (with_reducible exact Up.refl _) | ((with_reducible apply bl_setRow); (focus (first | exact Nat.le_refl _ | (simp; done) | (simp; omega) | omega))) | (with_reducible apply below_drewN) | (with_reducible apply Below.drew) | ((with_reducible apply bl_alloc); (focus (first | exact Nat.le_refl _ | (simp; done) | (simp; omega) | omega))) | ((with_reducible apply bl_setCell); (focus (first | exact Nat.le_refl _ | (simp; done) | (simp; omega) | omega))) | ((with_reducible apply up_tr); assumption)))).mono ?_); rintro e wQ ⟨rfl, huS⟩))
    have hszS := huS.size
    have hgt : w.heap.size + 1 < wQ.heap.size := by simp at hszS; omega
    refine wp_region_upH (S := (fun wq => Row wq (w.heap.size + 1) 27 16 (fun _ => 0) ∧ Row wq wQ.heap.size 27 16 (fun _ => 0) ∧ Blk wq w.heap.size 30 #[.bool false, .slice a (nl x) c] ∧ wq.cell? ⟨w.heap.size, 0, none⟩ = some (.bool false) ∧ wq.cell? ⟨w.heap.size, 1, none⟩ = some (.slice a (nl x) c) ∧ Below w.heap.size w wq)) (req := (fun _ => true)) (by kernel_rfl) (fun _ _ h hu => ⟨(h.1).up hu, (h.2.1).up hu, (h.2.2.1).up hu, hu.cell (h.2.2.2.1), hu.cell (h.2.2.2.2.1), below_up (h.2.2.2.2.2) hu⟩) ⟨(by (repeat (first | assumption | ((with_reducible apply row_newc); (focus (first | rfl | (simp; done)))) | ((with_reducible apply row_newz); (focus (first | rfl | (simp; done)))) | (with_reducible apply row_same) | ((with_reducible apply row_else); (focus (first | (simp; done) | (simp; omega) | omega))) | (with_reducible apply row_alloc) | (with_reducible apply row_drew) | (with_reducible apply row_drewN) | ((with_reducible apply row_up); assumption)))), (by (repeat (first | assumption | ((with_reducible apply row_newc); (focus (first | rfl | (simp; done)))) | ((with_reducible apply row_newz); (focus (first | rfl | (simp; done)))) | (with_reducible apply row_same) | ((with_reducible apply row_else); (focus (first | (simp; done) | (simp; omega) | omega))) | (with_reducible apply row_alloc) | (with_reducible apply row_drew) | (with_reducible apply row_drewN) | ((with_reducible apply row_up); assumption)))), (by (repeat (first | assumption | ((with_reducible apply blk_new); (focus (first | rfl | (simp; done)))) | (with_reducible apply blk_alloc) | (with_reducible apply blk_drew) | (with_reducible apply blk_drewN) | ((with_reducible apply blk_up); assumption) | (with_reducible apply blk_same) | ((with_reducible apply blk_else); (focus (first | (simp; done) | (simp; omega) | omega)))))), (by first | assumption | (apply Blk.cell; (focus (repeat (first | assumption | ((with_reducible apply blk_new); (focus (first | rfl | (simp; done)))) | (with_reducible apply blk_alloc) | (with_reducible apply blk_drew) | (with_reducible apply blk_drewN) | ((with_reducible apply blk_up); assumption) | (with_reducible apply blk_same) | ((with_reducible apply blk_else); (focus (first | (simp; done) | (simp; omega) | omega)))))); exact rfl)), (by first | assumption | (apply Blk.cell; (focus (repeat (first | assumption | ((with_reducible apply blk_new); (focus (first | rfl | (simp; done)))) | (with_reducible apply blk_alloc) | (with_reducible apply blk_drew) | (with_reducible apply blk_drewN) | ((with_reducible apply blk_up); assumption) | (with_reducible apply blk_same) | ((with_reducible apply blk_else); (focus (first | (simp; done) | (simp; omega) | omega)))))); exact rfl)), (by repeat (first | assumption | (with_reducible apply Up.of) | (with_reducible exact Below.refl _ _) | (with_reducible exact Up.refl _) | ((with_reducible apply bl_setRow); (focus (first | exact Nat.le_refl _ | (simp; done) | (simp; omega) | omega))) | (with_reducible apply below_drewN) | (with_reducible apply Below.drew) | ((with_reducible apply bl_alloc); (focus (first | exact Nat.le_refl _ | (simp; done) | (simp; omega) | omega))) | ((with_reducible apply bl_setCell); (focus (first | exact Nat.le_refl _ | (simp; done) | (simp; omega) | omega))) | ((with_reducible apply up_tr); assumption)))⟩ (fun wS hSS hSu => ?_)
    have ⟨hS1, hS2, hS3, hS4, hS5, hSB⟩ := hSS
    refine wpAnyU_pure (i := 0) (d := (some 11)) (v := ?_) rfl rfl (by kernel_rfl) (fun _ _ _ h => h) hSu.out (Or.inl ⟨by rfl, fun w' _ => yu_value ?_⟩) ?_
    rotate_left
    · (go_simp; (try exact rfl))
    try simp only [Act.put, pu1, pu2, pu3]
    refine wpAnyU_pure (i := 1) (d := (some 12)) (v := ?_) rfl rfl (by kernel_rfl) (fun _ _ _ h => h) hSu.out (Or.inl ⟨by rfl, fun w' _ => yu_value ?_⟩) ?_
    rotate_left
    · (go_simp; (try exact rfl))
    try simp only [Act.put, pu1, pu2, pu3]
    refine wpAnyU_pure (i := 2) (d := (some 13)) (v := ?_) rfl rfl (by kernel_rfl) (fun _ _ _ h => h) hSu.out (Or.inl ⟨by rfl, fun w' _ => yu_value ?_⟩) ?_
    rotate_left
    · (go_simp; (try exact rfl))
    try simp only [Act.put, pu1, pu2, pu3]
    refine wpAnyU_pure (i := 3) (d := (some 14)) (v := ?_) rfl rfl (by kernel_rfl) (fun _ _ _ h => h) hSu.out (Or.inl ⟨by rfl, fun w' _ => yu_value ?_⟩) ?_
    rotate_left
    · (go_simp; (try exact rfl))
    try simp only [Act.put, pu1, pu2, pu3]
    refine wpAnyU_pure (i := 4) (d := (some 15)) (v := ?_) rfl rfl (by kernel_rfl) (fun _ _ _ h => h) hSu.out (Or.inl ⟨by rfl, fun w' _ => yu_value ?_⟩) ?_
    rotate_left
    · (go_simp; (try exact rfl))
    try simp only [Act.put, pu1, pu2, pu3]
    refine wpAnyU_pure (i := 5) (d := (some 16)) (v := ?_) rfl rfl (by kernel_rfl) (fun _ _ _ h => h) hSu.out (Or.inl ⟨by rfl, fun w' _ => yu_value ?_⟩) ?_
    rotate_left
    · (go_simp; (try exact rfl))
    try simp only [Act.put, pu1, pu2, pu3]
    refine wpAnyU_pure (i := 6) (d := (some 17)) (v := undef) rfl rfl (by kernel_rfl) (fun _ _ _ h => h) hSu.out (Or.inr ⟨by rfl, rfl⟩) ?_
    try simp only [Act.put, pu1, pu2, pu3]
    refine wpAnyU_pure (i := 7) (d := (some 18)) (v := undef) rfl rfl (by kernel_rfl) (fun _ _ _ h => h) hSu.out (Or.inr ⟨by rfl, rfl⟩) ?_
    try simp only [Act.put, pu1, pu2, pu3]
    refine wpAnyU_pure (i := 8) (d := (some 19)) (v := undef) rfl rfl (by kernel_rfl) (fun _ _ _ h => h) hSu.out (Or.inr ⟨by rfl, rfl⟩) ?_
    try simp only [Act.put, pu1, pu2, pu3]
    refine wpAnyU_pure (i := 9) (d := (some 20)) (v := undef) rfl rfl (by kernel_rfl) (fun _ _ _ h => h) hSu.out (Or.inr ⟨by rfl, rfl⟩) ?_
    try simp only [Act.put, pu1, pu2, pu3]
    refine wpAnyU_pure (i := 10) (d := (some 21)) (v := undef) rfl rfl (by kernel_rfl) (fun _ _ _ h => h) hSu.out (Or.inr ⟨by rfl, rfl⟩) ?_
    try simp only [Act.put, pu1, pu2, pu3]
    refine wpAnyU_pure (i := 11) (d := (some 22)) (v := undef) rfl rfl (by kernel_rfl) (fun _ _ _ h => h) hSu.out (Or.inr ⟨by rfl, rfl⟩) ?_
    try simp only [Act.put, pu1, pu2, pu3]
    refine wpAnyU_pure (i := 12) (d := (some 23)) (v := undef) rfl rfl (by kernel_rfl) (fun _ _ _ h => h) hSu.out (Or.inr ⟨by rfl, rfl⟩) ?_
    try simp only [Act.put, pu1, pu2, pu3]
    refine wpAnyU_pure (i := 13) (d := (some 24)) (v := undef) rfl rfl (by kernel_rfl) (fun _ _ _ h => h) hSu.out (Or.inr ⟨by rfl, rfl⟩) ?_
    try simp only [Act.put, pu1, pu2, pu3]
    refine wpAnyU_pure (i := 14) (d := (some 25)) (v := undef) rfl rfl (by kernel_rfl) (fun _ _ _ h => h) hSu.out (Or.inr ⟨by rfl, rfl⟩) ?_
    try simp only [Act.put, pu1, pu2, pu3]
    refine wpAnyU_pure (i := 15) (d := (some 26)) (v := undef) rfl rfl (by kernel_rfl) (fun _ _ _ h => h) hSu.out (Or.inr ⟨by rfl, rfl⟩) ?_
    try simp only [Act.put, pu1, pu2, pu3]
    refine wpAnyU_pure (i := 16) (d := (some 27)) (v := undef) rfl rfl (by kernel_rfl) (fun _ _ _ h => h) hSu.out (Or.inr ⟨by rfl, rfl⟩) ?_
    try simp only [Act.put, pu1, pu2, pu3]
    refine wpAnyU_pure (i := 17) (d := (some 28)) (v := ?_) rfl rfl (by kernel_rfl) (fun _ _ _ h => h) hSu.out (Or.inl ⟨by rfl, fun w' _ => yu_value ?_⟩) ?_
    rotate_left
    · (go_simp; (try exact rfl))
    try simp only [Act.put, pu1, pu2, pu3]
    refine wpAnyU_pure (i := 18) (d := (some 29)) (v := ?_) rfl rfl (by kernel_rfl) (fun _ _ _ h => h) hSu.out (Or.inl ⟨by rfl, fun w' _ => yu_value ?_⟩) ?_
    rotate_left
    · (go_simp; (try exact rfl))
    try simp only [Act.put, pu1, pu2, pu3]
    refine wpAnyU_done (by kernel_rfl) (fun wE huE => ?_) _
    have ⟨hS1, hS2, hS3, hS4, hS5, hSB⟩ := hSu.out _ _ hSS huE
    clear huE hSS
    have gZ := hS1
    have gW := hS2
    have gBx := hS3
    have gB := hSB
    clear huS
    go_wp2
    refine wp_region_upH (S := (fun wq => Row wq (w.heap.size + 1) 27 16 (fun _ => 0) ∧ Row wq wQ.heap.size 27 16 (fun _ => 0) ∧ Blk wq w.heap.size 30 #[.bool false, .slice a (nl x) c] ∧ wq.cell? ⟨w.heap.size, 0, none⟩ = some (.bool false) ∧ wq.cell? ⟨w.heap.size, 1, none⟩ = some (.slice a (nl x) c) ∧ Below w.heap.size w wq)) (req := (fun j => j != 3)) (by kernel_rfl) (fun _ _ h hu => ⟨(h.1).up hu, (h.2.1).up hu, (h.2.2.1).up hu, hu.cell (h.2.2.2.1), hu.cell (h.2.2.2.2.1), below_up (h.2.2.2.2.2) hu⟩) ⟨(by (repeat (first | assumption | ((with_reducible apply row_newc); (focus (first | rfl | (simp; done)))) | ((with_reducible apply row_newz); (focus (first | rfl | (simp; done)))) | (with_reducible apply row_same) | ((with_reducible apply row_else); (focus (first | (simp; done) | (simp; omega) | omega))) | (with_reducible apply row_alloc) | (with_reducible apply row_drew) | (with_reducible apply row_drewN) | ((with_reducible apply row_up); assumption)))), (by (repeat (first | assumption | ((with_reducible apply row_newc); (focus (first | rfl | (simp; done)))) | ((with_reducible apply row_newz); (focus (first | rfl | (simp; done)))) | (with_reducible apply row_same) | ((with_reducible apply row_else); (focus (first | (simp; done) | (simp; omega) | omega))) | (with_reducible apply row_alloc) | (with_reducible apply row_drew) | (with_reducible apply row_drewN) | ((with_reducible apply row_up); assumption)))), (by (repeat (first | assumption | ((with_reducible apply blk_new); (focus (first | rfl | (simp; done)))) | (with_reducible apply blk_alloc) | (with_reducible apply blk_drew) | (with_reducible apply blk_drewN) | ((with_reducible apply blk_up); assumption) | (with_reducible apply blk_same) | ((with_reducible apply blk_else); (focus (first | (simp; done) | (simp; omega) | omega)))))), (by first | assumption | (apply Blk.cell; (focus (repeat (first | assumption | ((with_reducible apply blk_new); (focus (first | rfl | (simp; done)))) | (with_reducible apply blk_alloc) | (with_reducible apply blk_drew) | (with_reducible apply blk_drewN) | ((with_reducible apply blk_up); assumption) | (with_reducible apply blk_same) | ((with_reducible apply blk_else); (focus (first | (simp; done) | (simp; omega) | omega)))))); exact rfl)), (by first | assumption | (apply Blk.cell; (focus (repeat (first | assumption | ((with_reducible apply blk_new); (focus (first | rfl | (simp; done)))) | (with_reducible apply blk_alloc) | (with_reducible apply blk_drew) | (with_reducible apply blk_drewN) | ((with_reducible apply blk_up); assumption) | (with_reducible apply blk_same) | ((with_reducible apply blk_else); (focus (first | (simp; done) | (simp; omega) | omega)))))); exact rfl)), (by repeat (first | assumption | (with_reducible apply Up.of) | (with_reducible exact Below.refl _ _) | (with_reducible exact Up.refl _) | ((with_reducible apply bl_setRow); (focus (first | exact Nat.le_refl _ | (simp; done) | (simp; omega) | omega))) | (with_reducible apply below_drewN) | (with_reducible apply Below.drew) | ((with_reducible apply bl_alloc); (focus (first | exact Nat.le_refl _ | (simp; done) | (simp; omega) | omega))) | ((with_reducible apply bl_setCell); (focus (first | exact Nat.le_refl _ | (simp; done) | (simp; omega) | omega))) | ((with_reducible apply up_tr); assumption)))⟩ (fun wS hSS hSu => ?_)
    have ⟨hS1, hS2, hS3, hS4, hS5, hSB⟩ := hSS
    refine wpAnyU_pure (i := 0) (d := (some 31)) (v := ?_) rfl rfl (by kernel_rfl) (fun _ _ _ h => h) hSu.out (Or.inl ⟨by rfl, fun w' _ => yu_value ?_⟩) ?_
    rotate_left
    · (go_simp; (try exact rfl))
    try simp only [Act.put, pu1, pu2, pu3]
    refine wpAnyU_pure (i := 1) (d := (some 32)) (v := ?_) rfl rfl (by kernel_rfl) (fun _ _ _ h => h) hSu.out (Or.inl ⟨by rfl, fun w' _ => yu_value ?_⟩) ?_
    rotate_left
    · (go_simp; (try exact rfl))
    try simp only [Act.put, pu1, pu2, pu3]
    refine wpAnyU_take (i := 2) (d := (some 33)) (v := ?_) rfl rfl (by kernel_rfl) (fun _ _ _ h => h) hSu.out hSS (Or.inl ⟨by rfl, fun w' hSw => yu_value ?_⟩) ?_
    rotate_left
    · ((try dsimp only at hSw); (try obtain ⟨_, _, _, _, _, _⟩ := hSw); go_simp; (try exact rfl))
    try simp only [Act.put, pu1, pu2, pu3]
    refine wpAnyU_one (i := 3) rfl (by kernel_rfl) (by rfl) fun w1 hw1 => ?_
    refine wp_copy rfl rfl rfl rfl (hA.up (below_up hSB hw1)) hn16 (hS2.up hw1) fun w2 hR2 hb2 => ?_
    refine ⟨fun h => by simp at h, ?_⟩
    try simp only [Act.put, pu1]
    refine wpAnyU_done (by kernel_rfl) (fun wF huE => ?_) _
    have hle := hS2.lt
    have hsw := hw1.size
    have gR := hR2.up huE
    have gZ := (Row.belowU hb2 hgt (hS1.up hw1)).up huE
    have gK := (Blk.belowU hb2 (by omega) (hS3.up hw1)).up huE
    have gB : Below w.heap.size w wF := below_up (Below.trans (below_up hSB hw1) (Below.mono hb2 (by omega))) huE
    clear hS1 hS2 hS3 hS4 hS5 hSB hSS hw1 huE hR2 hb2
    have hc0 := gK.cell 0 rfl
    rw [HE.out] at gR
    clear gK
    go_wp2_with (first | ((with_reducible apply ld_rowP undW infoW); exact rfl; exact rfl; focus (repeat (first | assumption | ((with_reducible apply row_newc); (focus (first | rfl | (simp; done)))) | ((with_reducible apply row_newz); (focus (first | rfl | (simp; done)))) | (with_reducible apply row_same) | ((with_reducible apply row_else); (focus (first | (simp; done) | (simp; omega) | omega))) | (with_reducible apply row_alloc) | (with_reducible apply row_drew) | (with_reducible apply row_drewN) | ((with_reducible apply row_up); assumption)))) | ((with_reducible apply st_rowP infoW); exact rfl; exact rfl; focus (repeat (first | assumption | ((with_reducible apply row_newc); (focus (first | rfl | (simp; done)))) | ((with_reducible apply row_newz); (focus (first | rfl | (simp; done)))) | (with_reducible apply row_same) | ((with_reducible apply row_else); (focus (first | (simp; done) | (simp; omega) | omega))) | (with_reducible apply row_alloc) | (with_reducible apply row_drew) | (with_reducible apply row_drewN) | ((with_reducible apply row_up); assumption)))) | ((with_reducible apply st_rowZ infoW); exact rfl; exact rfl; focus (repeat (first | assumption | ((with_reducible apply row_newc); (focus (first | rfl | (simp; done)))) | ((with_reducible apply row_newz); (focus (first | rfl | (simp; done)))) | (with_reducible apply row_same) | ((with_reducible apply row_else); (focus (first | (simp; done) | (simp; omega) | omega))) | (with_reducible apply row_alloc) | (with_reducible apply row_drew) | (with_reducible apply row_drewN) | ((with_reducible apply row_up); assumption)))))
    exact bodyPost_ret (res2 rfl undW infoW _ _ rfl (by (repeat (first | assumption | ((with_reducible apply row_newc); (focus (first | rfl | (simp; done)))) | ((with_reducible apply row_newz); (focus (first | rfl | (simp; done)))) | (with_reducible apply row_same) | ((with_reducible apply row_else); (focus (first | (simp; done) | (simp; omega) | omega))) | (with_reducible apply row_alloc) | (with_reducible apply row_drew) | (with_reducible apply row_drewN) | ((with_reducible apply row_up); assumption))))) rfl ⟨rfl, (by repeat (first | assumption | (with_reducible apply Up.of) | (with_reducible exact Below.refl _ _) | (with_reducible exact Up.refl _) | ((with_reducible apply bl_setRow); (focus (first | exact Nat.le_refl _ | (simp; done) | (simp; omega) | omega))) | (with_reducible apply below_drewN) | (with_reducible apply Below.drew) | ((with_reducible apply bl_alloc); (focus (first | exact Nat.le_refl _ | (simp; done) | (simp; omega) | omega))) | ((with_reducible apply bl_setCell); (focus (first | exact Nat.le_refl _ | (simp; done) | (simp; omega) | omega))) | ((with_reducible apply up_tr); assumption)))⟩
  | true =>
    have HE := hid (show enc z = bp 16 - x ∧ 0 < x by have := of_decide_eq_true hp; have := (hen (by omega)).1; omega)
    have HR := hid (show x < bp 16 by omega)
    clear hen hep hp hx hz hb16 hbp hlt
    unfold wideV
    go_enter Try.func14, Try.ntmps14
    go_wp2_with (first | (go_at_call 35; (with_reducible refine (HSZ.out _ (by repeat (first | assumption | (with_reducible apply Up.of) | (with_reducible exact Below.refl _ _) | (with_reducible exact Up.refl _) | ((with_reducible apply bl_setRow); (focus (first | exact Nat.le_refl _ | (simp; done) | (simp; omega) | omega))) | (with_reducible apply below_drewN) | (with_reducible apply Below.drew) | ((with_reducible apply bl_alloc); (focus (first | exact Nat.le_refl _ | (simp; done) | (simp; omega) | omega))) | ((with_reducible apply bl_setCell); (focus (first | exact Nat.le_refl _ | (simp; done) | (simp; omega) | omega))) | ((with_reducible apply up_tr); assumption)))).mono ?_); rintro e wQ ⟨rfl, huS⟩))
    have hszS := huS.size
    have hgt : w.heap.size + 1 < wQ.heap.size := by simp at hszS; omega
    refine wp_region_upH (S := (fun wq => Row wq (w.heap.size + 1) 27 16 (fun _ => 0) ∧ Row wq wQ.heap.size 27 16 (fun _ => 0) ∧ Blk wq w.heap.size 30 #[.bool true, .slice a (nl x) c] ∧ wq.cell? ⟨w.heap.size, 0, none⟩ = some (.bool true) ∧ wq.cell? ⟨w.heap.size, 1, none⟩ = some (.slice a (nl x) c) ∧ Below w.heap.size w wq)) (req := (fun _ => true)) (by kernel_rfl) (fun _ _ h hu => ⟨(h.1).up hu, (h.2.1).up hu, (h.2.2.1).up hu, hu.cell (h.2.2.2.1), hu.cell (h.2.2.2.2.1), below_up (h.2.2.2.2.2) hu⟩) ⟨(by (repeat (first | assumption | ((with_reducible apply row_newc); (focus (first | rfl | (simp; done)))) | ((with_reducible apply row_newz); (focus (first | rfl | (simp; done)))) | (with_reducible apply row_same) | ((with_reducible apply row_else); (focus (first | (simp; done) | (simp; omega) | omega))) | (with_reducible apply row_alloc) | (with_reducible apply row_drew) | (with_reducible apply row_drewN) | ((with_reducible apply row_up); assumption)))), (by (repeat (first | assumption | ((with_reducible apply row_newc); (focus (first | rfl | (simp; done)))) | ((with_reducible apply row_newz); (focus (first | rfl | (simp; done)))) | (with_reducible apply row_same) | ((with_reducible apply row_else); (focus (first | (simp; done) | (simp; omega) | omega))) | (with_reducible apply row_alloc) | (with_reducible apply row_drew) | (with_reducible apply row_drewN) | ((with_reducible apply row_up); assumption)))), (by (repeat (first | assumption | ((with_reducible apply blk_new); (focus (first | rfl | (simp; done)))) | (with_reducible apply blk_alloc) | (with_reducible apply blk_drew) | (with_reducible apply blk_drewN) | ((with_reducible apply blk_up); assumption) | (with_reducible apply blk_same) | ((with_reducible apply blk_else); (focus (first | (simp; done) | (simp; omega) | omega)))))), (by first | assumption | (apply Blk.cell; (focus (repeat (first | assumption | ((with_reducible apply blk_new); (focus (first | rfl | (simp; done)))) | (with_reducible apply blk_alloc) | (with_reducible apply blk_drew) | (with_reducible apply blk_drewN) | ((with_reducible apply blk_up); assumption) | (with_reducible apply blk_same) | ((with_reducible apply blk_else); (focus (first | (simp; done) | (simp; omega) | omega)))))); exact rfl)), (by first | assumption | (apply Blk.cell; (focus (repeat (first | assumption | ((with_reducible apply blk_new); (focus (first | rfl | (simp; done)))) | (with_reducible apply blk_alloc) | (with_reducible apply blk_drew) | (with_reducible apply blk_drewN) | ((with_reducible apply blk_up); assumption) | (with_reducible apply blk_same) | ((with_reducible apply blk_else); (focus (first | (simp; done) | (simp; omega) | omega)))))); exact rfl)), (by repeat (first | assumption | (with_reducible apply Up.of) | (with_reducible exact Below.refl _ _) | (with_reducible exact Up.refl _) | ((with_reducible apply bl_setRow); (focus (first | exact Nat.le_refl _ | (simp; done) | (simp; omega) | omega))) | (with_reducible apply below_drewN) | (with_reducible apply Below.drew) | ((with_reducible apply bl_alloc); (focus (first | exact Nat.le_refl _ | (simp; done) | (simp; omega) | omega))) | ((with_reducible apply bl_setCell); (focus (first | exact Nat.le_refl _ | (simp; done) | (simp; omega) | omega))) | ((with_reducible apply up_tr); assumption)))⟩ (fun wS hSS hSu => ?_)
    have ⟨hS1, hS2, hS3, hS4, hS5, hSB⟩ := hSS
    refine wpAnyU_pure (i := 0) (d := (some 11)) (v := ?_) rfl rfl (by kernel_rfl) (fun _ _ _ h => h) hSu.out (Or.inl ⟨by rfl, fun w' _ => yu_value ?_⟩) ?_
    rotate_left
    · (go_simp; (try exact rfl))
    try simp only [Act.put, pu1, pu2, pu3]
    refine wpAnyU_pure (i := 1) (d := (some 12)) (v := ?_) rfl rfl (by kernel_rfl) (fun _ _ _ h => h) hSu.out (Or.inl ⟨by rfl, fun w' _ => yu_value ?_⟩) ?_
    rotate_left
    · (go_simp; (try exact rfl))
    try simp only [Act.put, pu1, pu2, pu3]
    refine wpAnyU_pure (i := 2) (d := (some 13)) (v := ?_) rfl rfl (by kernel_rfl) (fun _ _ _ h => h) hSu.out (Or.inl ⟨by rfl, fun w' _ => yu_value ?_⟩) ?_
    rotate_left
    · (go_simp; (try exact rfl))
    try simp only [Act.put, pu1, pu2, pu3]
    refine wpAnyU_pure (i := 3) (d := (some 14)) (v := ?_) rfl rfl (by kernel_rfl) (fun _ _ _ h => h) hSu.out (Or.inl ⟨by rfl, fun w' _ => yu_value ?_⟩) ?_
    rotate_left
    · (go_simp; (try exact rfl))
    try simp only [Act.put, pu1, pu2, pu3]
    refine wpAnyU_pure (i := 4) (d := (some 15)) (v := ?_) rfl rfl (by kernel_rfl) (fun _ _ _ h => h) hSu.out (Or.inl ⟨by rfl, fun w' _ => yu_value ?_⟩) ?_
    rotate_left
    · (go_simp; (try exact rfl))
    try simp only [Act.put, pu1, pu2, pu3]
    refine wpAnyU_pure (i := 5) (d := (some 16)) (v := ?_) rfl rfl (by kernel_rfl) (fun _ _ _ h => h) hSu.out (Or.inl ⟨by rfl, fun w' _ => yu_value ?_⟩) ?_
    rotate_left
    · (go_simp; (try exact rfl))
    try simp only [Act.put, pu1, pu2, pu3]
    refine wpAnyU_pure (i := 6) (d := (some 17)) (v := undef) rfl rfl (by kernel_rfl) (fun _ _ _ h => h) hSu.out (Or.inr ⟨by rfl, rfl⟩) ?_
    try simp only [Act.put, pu1, pu2, pu3]
    refine wpAnyU_pure (i := 7) (d := (some 18)) (v := undef) rfl rfl (by kernel_rfl) (fun _ _ _ h => h) hSu.out (Or.inr ⟨by rfl, rfl⟩) ?_
    try simp only [Act.put, pu1, pu2, pu3]
    refine wpAnyU_pure (i := 8) (d := (some 19)) (v := undef) rfl rfl (by kernel_rfl) (fun _ _ _ h => h) hSu.out (Or.inr ⟨by rfl, rfl⟩) ?_
    try simp only [Act.put, pu1, pu2, pu3]
    refine wpAnyU_pure (i := 9) (d := (some 20)) (v := undef) rfl rfl (by kernel_rfl) (fun _ _ _ h => h) hSu.out (Or.inr ⟨by rfl, rfl⟩) ?_
    try simp only [Act.put, pu1, pu2, pu3]
    refine wpAnyU_pure (i := 10) (d := (some 21)) (v := undef) rfl rfl (by kernel_rfl) (fun _ _ _ h => h) hSu.out (Or.inr ⟨by rfl, rfl⟩) ?_
    try simp only [Act.put, pu1, pu2, pu3]
    refine wpAnyU_pure (i := 11) (d := (some 22)) (v := undef) rfl rfl (by kernel_rfl) (fun _ _ _ h => h) hSu.out (Or.inr ⟨by rfl, rfl⟩) ?_
    try simp only [Act.put, pu1, pu2, pu3]
    refine wpAnyU_pure (i := 12) (d := (some 23)) (v := undef) rfl rfl (by kernel_rfl) (fun _ _ _ h => h) hSu.out (Or.inr ⟨by rfl, rfl⟩) ?_
    try simp only [Act.put, pu1, pu2, pu3]
    refine wpAnyU_pure (i := 13) (d := (some 24)) (v := undef) rfl rfl (by kernel_rfl) (fun _ _ _ h => h) hSu.out (Or.inr ⟨by rfl, rfl⟩) ?_
    try simp only [Act.put, pu1, pu2, pu3]
    refine wpAnyU_pure (i := 14) (d := (some 25)) (v := undef) rfl rfl (by kernel_rfl) (fun _ _ _ h => h) hSu.out (Or.inr ⟨by rfl, rfl⟩) ?_
    try simp only [Act.put, pu1, pu2, pu3]
    refine wpAnyU_pure (i := 15) (d := (some 26)) (v := undef) rfl rfl (by kernel_rfl) (fun _ _ _ h => h) hSu.out (Or.inr ⟨by rfl, rfl⟩) ?_
    try simp only [Act.put, pu1, pu2, pu3]
    refine wpAnyU_pure (i := 16) (d := (some 27)) (v := undef) rfl rfl (by kernel_rfl) (fun _ _ _ h => h) hSu.out (Or.inr ⟨by rfl, rfl⟩) ?_
    try simp only [Act.put, pu1, pu2, pu3]
    refine wpAnyU_pure (i := 17) (d := (some 28)) (v := ?_) rfl rfl (by kernel_rfl) (fun _ _ _ h => h) hSu.out (Or.inl ⟨by rfl, fun w' _ => yu_value ?_⟩) ?_
    rotate_left
    · (go_simp; (try exact rfl))
    try simp only [Act.put, pu1, pu2, pu3]
    refine wpAnyU_pure (i := 18) (d := (some 29)) (v := ?_) rfl rfl (by kernel_rfl) (fun _ _ _ h => h) hSu.out (Or.inl ⟨by rfl, fun w' _ => yu_value ?_⟩) ?_
    rotate_left
    · (go_simp; (try exact rfl))
    try simp only [Act.put, pu1, pu2, pu3]
    refine wpAnyU_done (by kernel_rfl) (fun wE huE => ?_) _
    have ⟨hS1, hS2, hS3, hS4, hS5, hSB⟩ := hSu.out _ _ hSS huE
    clear huE hSS
    have gZ := hS1
    have gW := hS2
    have gBx := hS3
    have gB := hSB
    clear huS
    go_wp2
    refine wp_region_upH (S := (fun wq => Row wq (w.heap.size + 1) 27 16 (fun _ => 0) ∧ Row wq wQ.heap.size 27 16 (fun _ => 0) ∧ Blk wq w.heap.size 30 #[.bool true, .slice a (nl x) c] ∧ wq.cell? ⟨w.heap.size, 0, none⟩ = some (.bool true) ∧ wq.cell? ⟨w.heap.size, 1, none⟩ = some (.slice a (nl x) c) ∧ Below w.heap.size w wq)) (req := (fun j => j != 3)) (by kernel_rfl) (fun _ _ h hu => ⟨(h.1).up hu, (h.2.1).up hu, (h.2.2.1).up hu, hu.cell (h.2.2.2.1), hu.cell (h.2.2.2.2.1), below_up (h.2.2.2.2.2) hu⟩) ⟨(by (repeat (first | assumption | ((with_reducible apply row_newc); (focus (first | rfl | (simp; done)))) | ((with_reducible apply row_newz); (focus (first | rfl | (simp; done)))) | (with_reducible apply row_same) | ((with_reducible apply row_else); (focus (first | (simp; done) | (simp; omega) | omega))) | (with_reducible apply row_alloc) | (with_reducible apply row_drew) | (with_reducible apply row_drewN) | ((with_reducible apply row_up); assumption)))), (by (repeat (first | assumption | ((with_reducible apply row_newc); (focus (first | rfl | (simp; done)))) | ((with_reducible apply row_newz); (focus (first | rfl | (simp; done)))) | (with_reducible apply row_same) | ((with_reducible apply row_else); (focus (first | (simp; done) | (simp; omega) | omega))) | (with_reducible apply row_alloc) | (with_reducible apply row_drew) | (with_reducible apply row_drewN) | ((with_reducible apply row_up); assumption)))), (by (repeat (first | assumption | ((with_reducible apply blk_new); (focus (first | rfl | (simp; done)))) | (with_reducible apply blk_alloc) | (with_reducible apply blk_drew) | (with_reducible apply blk_drewN) | ((with_reducible apply blk_up); assumption) | (with_reducible apply blk_same) | ((with_reducible apply blk_else); (focus (first | (simp; done) | (simp; omega) | omega)))))), (by first | assumption | (apply Blk.cell; (focus (repeat (first | assumption | ((with_reducible apply blk_new); (focus (first | rfl | (simp; done)))) | (with_reducible apply blk_alloc) | (with_reducible apply blk_drew) | (with_reducible apply blk_drewN) | ((with_reducible apply blk_up); assumption) | (with_reducible apply blk_same) | ((with_reducible apply blk_else); (focus (first | (simp; done) | (simp; omega) | omega)))))); exact rfl)), (by first | assumption | (apply Blk.cell; (focus (repeat (first | assumption | ((with_reducible apply blk_new); (focus (first | rfl | (simp; done)))) | (with_reducible apply blk_alloc) | (with_reducible apply blk_drew) | (with_reducible apply blk_drewN) | ((with_reducible apply blk_up); assumption) | (with_reducible apply blk_same) | ((with_reducible apply blk_else); (focus (first | (simp; done) | (simp; omega) | omega)))))); exact rfl)), (by repeat (first | assumption | (with_reducible apply Up.of) | (with_reducible exact Below.refl _ _) | (with_reducible exact Up.refl _) | ((with_reducible apply bl_setRow); (focus (first | exact Nat.le_refl _ | (simp; done) | (simp; omega) | omega))) | (with_reducible apply below_drewN) | (with_reducible apply Below.drew) | ((with_reducible apply bl_alloc); (focus (first | exact Nat.le_refl _ | (simp; done) | (simp; omega) | omega))) | ((with_reducible apply bl_setCell); (focus (first | exact Nat.le_refl _ | (simp; done) | (simp; omega) | omega))) | ((with_reducible apply up_tr); assumption)))⟩ (fun wS hSS hSu => ?_)
    have ⟨hS1, hS2, hS3, hS4, hS5, hSB⟩ := hSS
    refine wpAnyU_pure (i := 0) (d := (some 31)) (v := ?_) rfl rfl (by kernel_rfl) (fun _ _ _ h => h) hSu.out (Or.inl ⟨by rfl, fun w' _ => yu_value ?_⟩) ?_
    rotate_left
    · (go_simp; (try exact rfl))
    try simp only [Act.put, pu1, pu2, pu3]
    refine wpAnyU_pure (i := 1) (d := (some 32)) (v := ?_) rfl rfl (by kernel_rfl) (fun _ _ _ h => h) hSu.out (Or.inl ⟨by rfl, fun w' _ => yu_value ?_⟩) ?_
    rotate_left
    · (go_simp; (try exact rfl))
    try simp only [Act.put, pu1, pu2, pu3]
    refine wpAnyU_take (i := 2) (d := (some 33)) (v := ?_) rfl rfl (by kernel_rfl) (fun _ _ _ h => h) hSu.out hSS (Or.inl ⟨by rfl, fun w' hSw => yu_value ?_⟩) ?_
    rotate_left
    · ((try dsimp only at hSw); (try obtain ⟨_, _, _, _, _, _⟩ := hSw); go_simp; (try exact rfl))
    try simp only [Act.put, pu1, pu2, pu3]
    refine wpAnyU_one (i := 3) rfl (by kernel_rfl) (by rfl) fun w1 hw1 => ?_
    refine wp_copy rfl rfl rfl rfl (hA.up (below_up hSB hw1)) hn16 (hS2.up hw1) fun w2 hR2 hb2 => ?_
    refine ⟨fun h => by simp at h, ?_⟩
    try simp only [Act.put, pu1]
    refine wpAnyU_done (by kernel_rfl) (fun wF huE => ?_) _
    have hle := hS2.lt
    have hsw := hw1.size
    have gR := hR2.up huE
    have gZ := (Row.belowU hb2 hgt (hS1.up hw1)).up huE
    have gK := (Blk.belowU hb2 (by omega) (hS3.up hw1)).up huE
    have gB : Below w.heap.size w wF := below_up (Below.trans (below_up hSB hw1) (Below.mono hb2 (by omega))) huE
    clear hS1 hS2 hS3 hS4 hS5 hSB hSS hw1 huE hR2 hb2
    have hc0 := gK.cell 0 rfl
    clear gK
    generalize wQ.heap.size = G at *
    go_wp2
    go_loopw [6, 7] (fun tc ti wr => ∃ (i cc : Nat) (S : Nat → Nat), i ≤ 16 ∧ tc = .int .u64 (cc : Nat) ∧ ti = .int .i64 (i : Nat) ∧ cc ≤ 1 ∧ (∀ j, j < 16 → S j < 18446744073709551616) ∧ sumL S i + cc * bp i + sumL (limb x) i = bp i ∧ (∀ j, i ≤ j → j < 16 → S j = limb x j) ∧
        Row wr (w.heap.size + 1) 27 16 (fun _ => 0) ∧ Row wr G 27 16 S ∧ Below w.heap.size w wr)
      (fun _ ti _ => 16 - (intOf ti).toNat)
    case atStart => exact ⟨0, 1, limb x, by omega, rfl, rfl, by omega, fun j _ => limb_lt x j, by simp [sumL_zero, bp_zero], fun _ _ _ => rfl, gZ, gR, gB⟩
    case round =>
      clear gZ gR gB
      obtain ⟨i, cc, S, hi, rfl, rfl, hcc, hSb, hsum, hrest, hZ, hS, hB⟩ := hrel
      have HSb := hid hSb
      have Hsum := hid hsum
      have Hrest := hid hrest
      clear hSb hsum hrest
      by_cases hlt : i < 16
      · have hcx := hS.cell i hlt
        rw [Hrest.out i (Nat.le_refl _) hlt] at hcx
        have hfi := limb_lt x i
        obtain ⟨r, c', hadd, hrc, hrl, hc1⟩ : ∃ r c' : Nat, (∀ w, (callFunc 28 #[.int .u64 (18446744073709551615 - limb x i : Nat), .int .u64 0, .int .u64 (cc : Nat)]).run Try.prog w = .ok (.value (.tuple #[.int .u64 (r : Nat), .int .u64 (c' : Nat)])) w) ∧ Hid (r + c' * 18446744073709551616 + limb x i = 18446744073709551615 + cc) ∧ r < 18446744073709551616 ∧ c' ≤ 1 := by
          have h := run_add (18446744073709551615 - limb x i) 0 cc hcc
          simp only [show ((0 : Nat) : Int) = 0 from rfl] at h
          exact ⟨_, _, h, hid (by omega), Nat.mod_lt _ (by decide), by omega⟩
        have hxor := bits_not hfi
        obtain ⟨Y, hY⟩ : ∃ Y, 18446744073709551615 - limb x i = Y := ⟨_, rfl⟩
        rw [hY] at hadd hxor
        clear hY
        have hfs := hS.frozen i
        have gZ := hZ.other ⟨G, i, none⟩ (.int .u64 (r : Nat)) (show w.heap.size + 1 ≠ G by omega)
        have gS := hS.set i r
        have gB := hB.setCell (p := ⟨G, i, none⟩) (show w.heap.size ≤ G by omega) (.int .u64 (r : Nat))
        clear hZ hS hB
        go_wp2
        go_roundw
        case rel =>
          refine ⟨i + 1, c', upd S i r, by omega, rfl, by go_num, hc1, upd_lt HSb.out hrl, ?_, fun j h1 h2 => by rw [upd_other _ _ _ (by omega)]; exact Hrest.out j (by omega) h2, gZ, gS, gB⟩
          rw [sumL_succ (limb x) i]
          exact comp_step Hsum.out rfl hrc.out
        case measure => simp [intOf] <;> omega
      · obtain rfl : i = 16 := by omega
        have he : sumL S 16 = enc z := by
          have h1 := Hsum.out
          have h3 := HE.out
          have h4 := HR.out
          have h5 := sumL_lt HSb.out
          rw [sumL_limb, Nat.mod_eq_of_lt (by omega)] at h1
          rcases Nat.eq_zero_or_pos cc with h0 | h0
          · subst h0; omega
          · have : 1 * bp 16 ≤ cc * bp 16 := Nat.mul_le_mul_right _ h0
            omega
        have gS : Row wr G 27 16 (limb (enc z)) := hS.congr fun j hj => by rw [← he]; exact (limb_sumL HSb.out hj).symm
        clear hS he HSb Hsum Hrest
        go_wp2_with (first | ((with_reducible apply ld_rowP undW infoW); exact rfl; exact rfl; focus (repeat (first | assumption | ((with_reducible apply row_newc); (focus (first | rfl | (simp; done)))) | ((with_reducible apply row_newz); (focus (first | rfl | (simp; done)))) | (with_reducible apply row_same) | ((with_reducible apply row_else); (focus (first | (simp; done) | (simp; omega) | omega))) | (with_reducible apply row_alloc) | (with_reducible apply row_drew) | (with_reducible apply row_drewN) | ((with_reducible apply row_up); assumption)))) | ((with_reducible apply st_rowP infoW); exact rfl; exact rfl; focus (repeat (first | assumption | ((with_reducible apply row_newc); (focus (first | rfl | (simp; done)))) | ((with_reducible apply row_newz); (focus (first | rfl | (simp; done)))) | (with_reducible apply row_same) | ((with_reducible apply row_else); (focus (first | (simp; done) | (simp; omega) | omega))) | (with_reducible apply row_alloc) | (with_reducible apply row_drew) | (with_reducible apply row_drewN) | ((with_reducible apply row_up); assumption)))) | ((with_reducible apply st_rowZ infoW); exact rfl; exact rfl; focus (repeat (first | assumption | ((with_reducible apply row_newc); (focus (first | rfl | (simp; done)))) | ((with_reducible apply row_newz); (focus (first | rfl | (simp; done)))) | (with_reducible apply row_same) | ((with_reducible apply row_else); (focus (first | (simp; done) | (simp; omega) | omega))) | (with_reducible apply row_alloc) | (with_reducible apply row_drew) | (with_reducible apply row_drewN) | ((with_reducible apply row_up); assumption)))))
        exact bodyPost_ret (res2 rfl undW infoW _ _ rfl (by (repeat (first | assumption | ((with_reducible apply row_newc); (focus (first | rfl | (simp; done)))) | ((with_reducible apply row_newz); (focus (first | rfl | (simp; done)))) | (with_reducible apply row_same) | ((with_reducible apply row_else); (focus (first | (simp; done) | (simp; omega) | omega))) | (with_reducible apply row_alloc) | (with_reducible apply row_drew) | (with_reducible apply row_drewN) | ((with_reducible apply row_up); assumption))))) rfl ⟨rfl, (by repeat (first | assumption | (with_reducible apply Up.of) | (with_reducible exact Below.refl _ _) | (with_reducible exact Up.refl _) | ((with_reducible apply bl_setRow); (focus (first | exact Nat.le_refl _ | (simp; done) | (simp; omega) | omega))) | (with_reducible apply below_drewN) | (with_reducible apply Below.drew) | ((with_reducible apply bl_alloc); (focus (first | exact Nat.le_refl _ | (simp; done) | (simp; omega) | omega))) | ((with_reducible apply bl_setCell); (focus (first | exact Nat.le_refl _ | (simp; done) | (simp; omega) | omega))) | ((with_reducible apply up_tr); assumption)))⟩
end Go.Proofs.Ytbogbdokllmanaa
