/-
  The reference's quotients and nearest numbers.
-/
import Derived.Test.YtiocolbaencbkaaRefN
import Derived.Test.YtiocolbaencbkaaRefG
import Derived.Test.YtiocolbaencbkaaSums
namespace Go.Proofs.Ytiocolbaencbkaa
open Go Go.RowKit
set_option maxRecDepth 100000

theorem am_set {w : World} {v : Value} {x : Nat} {g : Nat} {C D : Array Value} (hg : Blk w g 30 C) (h : Am w v x) : Am (w.setRow g D) v x := h.setRow hg
theorem am_alloc {w : World} {v : Value} {x : Nat} {o : Obj} (h : Am w v x) : Am (w.alloc o) v x := h.up (Up.alloc _ _)
theorem am_up {w w' : World} {v : Value} {x : Nat} (hu : Up w w') (h : Am w v x) : Am w' v x := h.up hu
theorem resBB {fn : Func} {p q : Tmp} (h : fn.results = #[.cell p 30, .cell q 30]) {tmps : Array Value} {w : World} {g k : Nat} {C D : Array Value} (hp : tmps.getD p undef = .pointer (some ⟨g, 0, none⟩)) (hq : tmps.getD q undef = .pointer (some ⟨k, 0, none⟩))
    (hC : Blk w g 30 C) (hD : Blk w k 30 D) (h2 : C.size = 2) (h3 : D.size = 2) : (results fn tmps).run Try.prog w = .ok (.tuple #[.agg C, .agg D]) w := by
  obtain ⟨fs, hu⟩ := undB
  have hp' : tmps[p]?.getD undef = .pointer (some ⟨g, 0, none⟩) := by simpa using hp
  have hq' : tmps[q]?.getD undef = .pointer (some ⟨k, 0, none⟩) := by simpa using hq
  simp [results, h, hp', hq', asAddr, run_loadVar_row w g _ 30 C (0, 0) _ hC hu rfl (by rw [infoB, h2]), run_loadVar_row w k _ 30 D (0, 0) _ hD hu rfl (by rw [infoB, h3])]
theorem pm_quo (p q : Bool) (X Y : Nat) : (pm p X).tdiv (pm q Y) = pm (p != q) (X / Y) := by
  cases p <;> cases q <;> simp [pm, Int.neg_tdiv, Int.tdiv_neg]
theorem pm_rest (p q : Bool) (X Y : Nat) : (pm p X).tmod (pm q Y) = pm p (X % Y) := by
  cases p <;> cases q <;> simp [pm, Int.neg_tmod, Int.tmod_neg] <;> exact Int.tmod_eq_emod_of_nonneg (by omega)
set_option maxHeartbeats 1000000 in
theorem div_pm (p q : Bool) (X Y : Nat) (a b : Option Addr) (ca cb : Nat) (w : World) (hA : Am w (.slice a (nl X) ca) X) (hB : Am w (.slice b (nl Y) cb) Y) (hx : nl X < 50000) (hy : nl Y = 1) :
    Calls Try.prog 35 #[.agg #[.bool p, .slice a (nl X) ca], .agg #[.bool q, .slice b (nl Y) cb]] w fun e w' => Up w w' ∧ ∃ b1 a1 n1 c1 b2 a2 n2 c2, e = .returned (.tuple #[.agg #[.bool b1, .slice a1 n1 c1], .agg #[.bool b2, .slice a2 n2 c2]]) ∧ Big w' (.agg #[.bool b1, .slice a1 n1 c1]) ((pm p X).tdiv (pm q Y)) ∧ Big w' (.agg #[.bool b2, .slice a2 n2 c2]) ((pm p X).tmod (pm q Y)) := by
  rw [pm_quo, pm_rest]
  have HO := hid (fun w' (h : Up w w') => over_am (hA.up h) (hB.up h) (by omega) hy)
  rw [hy] at HO ⊢
  clear hy hA hB
  generalize nl X = n at *
  go_enter Try.func35, Try.ntmps35
  go_wp2_with (first | (go_at_call 76; (with_reducible refine (HO.out _ (by repeat (first | assumption | (with_reducible apply Up.of) | (with_reducible exact Below.refl _ _) | (with_reducible exact Up.refl _) | ((with_reducible apply bl_setRow); (focus (first | exact Nat.le_refl _ | (simp; done) | (simp; omega) | omega))) | (with_reducible apply below_drewN) | (with_reducible apply Below.drew) | ((with_reducible apply bl_alloc); (focus (first | exact Nat.le_refl _ | (simp; done) | (simp; omega) | omega))) | ((with_reducible apply bl_setCell); (focus (first | exact Nat.le_refl _ | (simp; done) | (simp; omega) | omega))) | ((with_reducible apply up_tr); assumption)))).mono ?_); rintro e wO ⟨huO, a1, n1, c1, a2, n2, c2, rfl, hQ, hR⟩))
  obtain ⟨a1', c1', he1⟩ := hQ.shape
  obtain ⟨rfl, rfl, rfl⟩ : a1 = a1' ∧ n1 = nl (X / Y) ∧ c1 = c1' := by simpa using he1
  obtain ⟨a2', c2', he2⟩ := hR.shape
  obtain ⟨rfl, rfl, rfl⟩ : a2 = a2' ∧ n2 = nl (X % Y) ∧ c2 = c2' := by simpa using he2
  clear he1 he2
  refine wp_region_upS (S := (fun wq => Blk wq (w.heap.size + 1 + 1) 30 #[.bool false, .slice none 0 0] ∧ Blk wq (w.heap.size + 1 + 1 + 1) 30 #[.bool false, .slice none 0 0] ∧ wq.cell? ⟨w.heap.size, 0, none⟩ = some (.bool p) ∧ wq.cell? ⟨w.heap.size + 1, 0, none⟩ = some (.bool q) ∧ Am wq (.slice a1 (nl (X / Y)) c1) (X / Y) ∧ Am wq (.slice a2 (nl (X % Y)) c2) (X % Y) ∧ Below w.heap.size w wq)) (req := (fun j => j != 11 && j != 12)) (by kernel_rfl) (fun _ _ h hu => ⟨(h.1).up hu, (h.2.1).up hu, hu.cell (h.2.2.1), hu.cell (h.2.2.2.1), (h.2.2.2.2.1).up hu, (h.2.2.2.2.2.1).up hu, below_up (h.2.2.2.2.2.2) hu⟩) ⟨(by (repeat (first | assumption | ((with_reducible apply blk_new); (focus (first | rfl | (simp; done)))) | (with_reducible apply blk_alloc) | (with_reducible apply blk_drew) | (with_reducible apply blk_drewN) | ((with_reducible apply blk_up); assumption) | (with_reducible apply blk_same) | ((with_reducible apply blk_else); (focus (first | (simp; done) | (simp; omega) | omega)))))), (by (repeat (first | assumption | ((with_reducible apply blk_new); (focus (first | rfl | (simp; done)))) | (with_reducible apply blk_alloc) | (with_reducible apply blk_drew) | (with_reducible apply blk_drewN) | ((with_reducible apply blk_up); assumption) | (with_reducible apply blk_same) | ((with_reducible apply blk_else); (focus (first | (simp; done) | (simp; omega) | omega)))))), (by first | assumption | (apply Blk.cell; (focus (repeat (first | assumption | ((with_reducible apply blk_new); (focus (first | rfl | (simp; done)))) | (with_reducible apply blk_alloc) | (with_reducible apply blk_drew) | (with_reducible apply blk_drewN) | ((with_reducible apply blk_up); assumption) | (with_reducible apply blk_same) | ((with_reducible apply blk_else); (focus (first | (simp; done) | (simp; omega) | omega)))))); exact rfl)), (by first | assumption | (apply Blk.cell; (focus (repeat (first | assumption | ((with_reducible apply blk_new); (focus (first | rfl | (simp; done)))) | (with_reducible apply blk_alloc) | (with_reducible apply blk_drew) | (with_reducible apply blk_drewN) | ((with_reducible apply blk_up); assumption) | (with_reducible apply blk_same) | ((with_reducible apply blk_else); (focus (first | (simp; done) | (simp; omega) | omega)))))); exact rfl)), (by (repeat (first | assumption | ((with_reducible apply am_set); (focus (repeat (first | assumption | ((with_reducible apply blk_new); (focus (first | rfl | (simp; done)))) | (with_reducible apply blk_alloc) | (with_reducible apply blk_drew) | (with_reducible apply blk_drewN) | ((with_reducible apply blk_up); assumption) | (with_reducible apply blk_same) | ((with_reducible apply blk_else); (focus (first | (simp; done) | (simp; omega) | omega))))))) | (with_reducible apply am_alloc) | ((with_reducible apply am_up); assumption)))), (by (repeat (first | assumption | ((with_reducible apply am_set); (focus (repeat (first | assumption | ((with_reducible apply blk_new); (focus (first | rfl | (simp; done)))) | (with_reducible apply blk_alloc) | (with_reducible apply blk_drew) | (with_reducible apply blk_drewN) | ((with_reducible apply blk_up); assumption) | (with_reducible apply blk_same) | ((with_reducible apply blk_else); (focus (first | (simp; done) | (simp; omega) | omega))))))) | (with_reducible apply am_alloc) | ((with_reducible apply am_up); assumption)))), (by repeat (first | assumption | (with_reducible apply Up.of) | (with_reducible exact Below.refl _ _) | (with_reducible exact Up.refl _) | ((with_reducible apply bl_setRow); (focus (first | exact Nat.le_refl _ | (simp; done) | (simp; omega) | omega))) | (with_reducible apply below_drewN) | (with_reducible apply Below.drew) | ((with_reducible apply bl_alloc); (focus (first | exact Nat.le_refl _ | (simp; done) | (simp; omega) | omega))) | ((with_reducible apply bl_setCell); (focus (first | exact Nat.le_refl _ | (simp; done) | (simp; omega) | omega))) | ((with_reducible apply up_tr); assumption)))⟩ (fun wS hSS => ?_)
  have ⟨hS1, hS2, hS3, hS4, hS5, hS6, hSB⟩ := hSS
  refine wpAnyU_pure (i := 0) (d := (some 16)) (v := ?_) rfl rfl (by kernel_rfl) (fun _ _ _ h => h) (fun _ _ h hu => ⟨(h.1).up hu, (h.2.1).up hu, hu.cell (h.2.2.1), hu.cell (h.2.2.2.1), (h.2.2.2.2.1).up hu, (h.2.2.2.2.2.1).up hu, below_up (h.2.2.2.2.2.2) hu⟩) (Or.inl ⟨by rfl, fun w' _ => yu_value ?_⟩) ?_
  rotate_left
  · (go_simp; (try exact rfl))
  try simp only [Act.put, List.setIfInBounds_toArray, List.set_cons_zero, List.set_cons_succ]
  refine wpAnyU_take (i := 1) (d := (some 17)) (v := ?_) rfl rfl (by kernel_rfl) (fun _ _ _ h => h) (fun _ _ h hu => ⟨(h.1).up hu, (h.2.1).up hu, hu.cell (h.2.2.1), hu.cell (h.2.2.2.1), (h.2.2.2.2.1).up hu, (h.2.2.2.2.2.1).up hu, below_up (h.2.2.2.2.2.2) hu⟩) hSS (Or.inl ⟨by rfl, fun w' hSw => yu_value ?_⟩) ?_
  rotate_left
  · ((try dsimp only at hSw); (try obtain ⟨_, _, _, _, _, _, _⟩ := hSw); go_simp; (try exact rfl))
  try simp only [Act.put, List.setIfInBounds_toArray, List.set_cons_zero, List.set_cons_succ]
  refine wpAnyU_pure (i := 2) (d := (some 18)) (v := ?_) rfl rfl (by kernel_rfl) (fun _ _ _ h => h) (fun _ _ h hu => ⟨(h.1).up hu, (h.2.1).up hu, hu.cell (h.2.2.1), hu.cell (h.2.2.2.1), (h.2.2.2.2.1).up hu, (h.2.2.2.2.2.1).up hu, below_up (h.2.2.2.2.2.2) hu⟩) (Or.inl ⟨by rfl, fun w' _ => yu_value ?_⟩) ?_
  rotate_left
  · (go_simp; (try exact rfl))
  try simp only [Act.put, List.setIfInBounds_toArray, List.set_cons_zero, List.set_cons_succ]
  refine wpAnyU_take (i := 3) (d := (some 19)) (v := ?_) rfl rfl (by kernel_rfl) (fun _ _ _ h => h) (fun _ _ h hu => ⟨(h.1).up hu, (h.2.1).up hu, hu.cell (h.2.2.1), hu.cell (h.2.2.2.1), (h.2.2.2.2.1).up hu, (h.2.2.2.2.2.1).up hu, below_up (h.2.2.2.2.2.2) hu⟩) hSS (Or.inl ⟨by rfl, fun w' hSw => yu_value ?_⟩) ?_
  rotate_left
  · ((try dsimp only at hSw); (try obtain ⟨_, _, _, _, _, _, _⟩ := hSw); go_simp; (try exact rfl))
  try simp only [Act.put, List.setIfInBounds_toArray, List.set_cons_zero, List.set_cons_succ]
  refine wpAnyU_pure (i := 4) (d := (some 20)) (v := ?_) rfl rfl (by kernel_rfl) (fun _ _ _ h => h) (fun _ _ h hu => ⟨(h.1).up hu, (h.2.1).up hu, hu.cell (h.2.2.1), hu.cell (h.2.2.2.1), (h.2.2.2.2.1).up hu, (h.2.2.2.2.2.1).up hu, below_up (h.2.2.2.2.2.2) hu⟩) (Or.inl ⟨by rfl, fun w' _ => yu_value ?_⟩) ?_
  rotate_left
  · (go_simp; (try exact rfl))
  try simp only [Act.put, List.setIfInBounds_toArray, List.set_cons_zero, List.set_cons_succ]
  refine wpAnyU_pure (i := 5) (d := (some 21)) (v := ?_) rfl rfl (by kernel_rfl) (fun _ _ _ h => h) (fun _ _ h hu => ⟨(h.1).up hu, (h.2.1).up hu, hu.cell (h.2.2.1), hu.cell (h.2.2.2.1), (h.2.2.2.2.1).up hu, (h.2.2.2.2.2.1).up hu, below_up (h.2.2.2.2.2.2) hu⟩) (Or.inl ⟨by rfl, fun w' _ => yu_value ?_⟩) ?_
  rotate_left
  · (go_simp; (try exact rfl))
  try simp only [Act.put, List.setIfInBounds_toArray, List.set_cons_zero, List.set_cons_succ]
  refine wpAnyU_take (i := 6) (d := (some 22)) (v := _) rfl rfl (by kernel_rfl) (fun _ _ _ h => h) (fun _ _ h hu => ⟨(h.1).up hu, (h.2.1).up hu, hu.cell (h.2.2.1), hu.cell (h.2.2.2.1), (h.2.2.2.2.1).up hu, (h.2.2.2.2.2.1).up hu, below_up (h.2.2.2.2.2.2) hu⟩) hSS (Or.inl ⟨by rfl, fun w' hSw => yu_call ?_ (made_any (!(p == q)) a1 (nl (X / Y)) c1 w')⟩) ?_
  · go_simp
  try simp only [Act.put, List.setIfInBounds_toArray, List.set_cons_zero, List.set_cons_succ]
  refine wpAnyU_pure (i := 7) (d := (some 23)) (v := ?_) rfl rfl (by kernel_rfl) (fun _ _ _ h => h) (fun _ _ h hu => ⟨(h.1).up hu, (h.2.1).up hu, hu.cell (h.2.2.1), hu.cell (h.2.2.2.1), (h.2.2.2.2.1).up hu, (h.2.2.2.2.2.1).up hu, below_up (h.2.2.2.2.2.2) hu⟩) (Or.inl ⟨by rfl, fun w' _ => yu_value ?_⟩) ?_
  rotate_left
  · (go_simp; (try exact rfl))
  try simp only [Act.put, List.setIfInBounds_toArray, List.set_cons_zero, List.set_cons_succ]
  refine wpAnyU_take (i := 8) (d := (some 24)) (v := ?_) rfl rfl (by kernel_rfl) (fun _ _ _ h => h) (fun _ _ h hu => ⟨(h.1).up hu, (h.2.1).up hu, hu.cell (h.2.2.1), hu.cell (h.2.2.2.1), (h.2.2.2.2.1).up hu, (h.2.2.2.2.2.1).up hu, below_up (h.2.2.2.2.2.2) hu⟩) hSS (Or.inl ⟨by rfl, fun w' hSw => yu_value ?_⟩) ?_
  rotate_left
  · ((try dsimp only at hSw); (try obtain ⟨_, _, _, _, _, _, _⟩ := hSw); go_simp; (try exact rfl))
  try simp only [Act.put, List.setIfInBounds_toArray, List.set_cons_zero, List.set_cons_succ]
  refine wpAnyU_pure (i := 9) (d := (some 25)) (v := ?_) rfl rfl (by kernel_rfl) (fun _ _ _ h => h) (fun _ _ h hu => ⟨(h.1).up hu, (h.2.1).up hu, hu.cell (h.2.2.1), hu.cell (h.2.2.2.1), (h.2.2.2.2.1).up hu, (h.2.2.2.2.2.1).up hu, below_up (h.2.2.2.2.2.2) hu⟩) (Or.inl ⟨by rfl, fun w' _ => yu_value ?_⟩) ?_
  rotate_left
  · (go_simp; (try exact rfl))
  try simp only [Act.put, List.setIfInBounds_toArray, List.set_cons_zero, List.set_cons_succ]
  refine wpAnyU_take (i := 10) (d := (some 26)) (v := _) rfl rfl (by kernel_rfl) (fun _ _ _ h => h) (fun _ _ h hu => ⟨(h.1).up hu, (h.2.1).up hu, hu.cell (h.2.2.1), hu.cell (h.2.2.2.1), (h.2.2.2.2.1).up hu, (h.2.2.2.2.2.1).up hu, below_up (h.2.2.2.2.2.2) hu⟩) hSS (Or.inl ⟨by rfl, fun w' hSw => yu_call ?_ (made_any p a2 (nl (X % Y)) c2 w')⟩) ?_
  · go_simp
  try simp only [Act.put, List.setIfInBounds_toArray, List.set_cons_zero, List.set_cons_succ]
  refine wpAnyU_one (i := 11) rfl (by kernel_rfl) (by rfl) fun w2 hw2 => ?_
  have k1 := hS1.up hw2
  refine wp_stB rfl rfl rfl rfl k1 rfl rfl (one2 _ _ _ _) ?_
  refine ⟨fun h => by simp at h, ?_⟩
  try simp only [Act.put, List.setIfInBounds_toArray]
  refine wpAnyU_one (i := 12) rfl (by kernel_rfl) (by rfl) fun w3 hw3 => ?_
  have k2 := ((hS2.up hw2).row_other (#[.bool (!(p == q) && decide (0 < nl (X / Y))), .slice a1 (nl (X / Y)) c1]) (show w.heap.size + 1 + 1 + 1 ≠ w.heap.size + 1 + 1 by omega)).up hw3
  refine wp_stB rfl rfl rfl rfl k2 rfl rfl (one2 _ _ _ _) ?_
  refine ⟨fun h => by simp at h, ?_⟩
  try simp only [Act.put, List.setIfInBounds_toArray]
  refine wpAnyU_done (by kernel_rfl) (fun wF huE => ?_) _
  have j1 := ((k1.setRow (#[.bool (!(p == q) && decide (0 < nl (X / Y))), .slice a1 (nl (X / Y)) c1])).up hw3).row_other (#[.bool (p && decide (0 < nl (X % Y))), .slice a2 (nl (X % Y)) c2]) (show w.heap.size + 1 + 1 ≠ w.heap.size + 1 + 1 + 1 by omega)
  have j2 := k2.setRow (#[.bool (p && decide (0 < nl (X % Y))), .slice a2 (nl (X % Y)) c2])
  have gQ := big_made (!(p == q)) (((((hS5.up hw2).setRow (D := (#[.bool (!(p == q) && decide (0 < nl (X / Y))), .slice a1 (nl (X / Y)) c1])) k1).up hw3).setRow (D := (#[.bool (p && decide (0 < nl (X % Y))), .slice a2 (nl (X % Y)) c2])) k2).up huE)
  have gR := big_made p (((((hS6.up hw2).setRow (D := (#[.bool (!(p == q) && decide (0 < nl (X / Y))), .slice a1 (nl (X / Y)) c1])) k1).up hw3).setRow (D := (#[.bool (p && decide (0 < nl (X % Y))), .slice a2 (nl (X % Y)) c2])) k2).up huE)
  have gB := below_up (below_setRow (below_up (below_setRow (below_up hSB hw2) (show w.heap.size ≤ w.heap.size + 1 + 1 by omega) (#[.bool (!(p == q) && decide (0 < nl (X / Y))), .slice a1 (nl (X / Y)) c1])) hw3) (show w.heap.size ≤ w.heap.size + 1 + 1 + 1 by omega) (#[.bool (p && decide (0 < nl (X % Y))), .slice a2 (nl (X % Y)) c2])) huE
  have j1' := j1.up huE
  have j2' := j2.up huE
  clear k1 k2 j1 j2 hS1 hS2 hS3 hS4 hS5 hS6 hSB hSS hw2 hw3 huE hQ hR
  go_wp2
  exact bodyPost_ret (resBB rfl rfl rfl j1' j2' rfl rfl) rfl ⟨gB, _, _, _, _, _, _, _, _, rfl, gQ, gR⟩
end Go.Proofs.Ytiocolbaencbkaa
