/-
  errors.Join, fault.Join: of nil, an error, nil, an error; of none, of nils.
-/
import Derived.Test.YtkhcegpmgejblaaDoorEDeep
namespace Go.Proofs.YtkhcegpmgejblaaDoor
open Go Go.RowKit
set_option maxRecDepth 100000
set_option maxRecDepth 100000

set_option maxHeartbeats 4000000 in
theorem join_four {g : Nat} {C : Array Value} {t1 t2 : TypeId} {v1 v2 : Value} {x y : Er} {w : World} (hC : Blk w g 25 C) (h0 : C[0]? = some .nilIface) (h1 : C[1]? = some (.iface t1 v1)) (h2 : C[2]? = some .nilIface) (h3 : C[3]? = some (.iface t2 v2)) (hX : IsEr w (.iface t1 v1) x) (hY : IsEr w (.iface t2 v2) y) :
    Calls Tryd.prog 24 #[.slice (some ⟨g, 0, none⟩) 4 4] w fun r w' => ∃ u, r = .returned u ∧ Up w w' ∧ IsEr w' u (.two x y) := by
  have hc0 := hC.cell 0 h0
  have hc1 := hC.cell 1 h1
  have hc2 := hC.cell 2 h2
  have hc3 := hC.cell 3 h3
  have HX := hid hX
  have HY := hid hY
  have HC := hid hC
  have H0 := hid h0
  have H1 := hid h1
  have H2 := hid h2
  have H3 := hid h3
  have hmk := make2
  clear hC hX hY h0 h1 h2 h3
  go_enter Tryd.func24, Tryd.ntmps24
  go_wp2_with fail
  refine wp_loop_rounds 5 ?_
  rw [rounds_succ]
  go_wp2_with fail
  rw [rounds_succ]
  go_wp2_with fail
  rw [rounds_succ]
  go_wp2_with fail
  rw [rounds_succ]
  go_wp2_with fail
  rw [rounds_succ]
  go_wp2_with fail
  clear hc0 hc1 hc2 hc3 hmk
  refine wp_world (fun wd => Up w wd ∧ Blk wd w.heap.size 25 #[.nilIface, .nilIface] ∧ Blk wd (w.heap.size + 1) 67 #[.slice (some ⟨w.heap.size, 0, none⟩) 0 2]) ⟨(Up.alloc _ _).trans (Up.alloc _ _), (Blk.new _ _ rfl).up (Up.alloc _ _), Blk.new _ _ (by simp)⟩ (fun w1 hD => ?_)
  obtain ⟨hu1, hh1, hb1⟩ := hD
  obtain ⟨hb, ehb⟩ : ∃ hb, hb = w.heap.size := ⟨_, rfl⟩
  have HB := hid ehb
  rw [← ehb] at hh1 hb1 ⊢
  clear ehb
  have hc0 := (HC.out.up hu1).cell 0 H0.out
  have hc1 := (HC.out.up hu1).cell 1 H1.out
  have hcb := hb1.cell 0 rfl
  refine wp_loop_rounds 5 ?_
  rw [rounds_succ]
  go_wp2_with fail
  rw [rounds_succ]
  go_wp2_with (first | ((with_reducible apply appEP (v := .iface t1 v1) (D' := #[.iface t1 v1, .nilIface])); exact rfl; exact rfl; (focus (simp; done)); exact rfl; exact hh1.up (Up.alloc _ _); decide; decide; exact rfl; refine wpl_world (fun wd => Up w wd ∧ Blk wd hb 25 #[.iface t1 v1, .nilIface] ∧ Blk wd (hb + 1) 67 #[.slice (some ⟨hb, 0, none⟩) 0 2]) ⟨below_setRow (hu1.trans (Up.alloc _ _)) (by rw [HB.out]; exact Nat.le_refl _) _, (hh1.up (Up.alloc _ _)).setRow _, (hb1.up (Up.alloc _ _)).row_other _ (by omega)⟩ (fun w2 hD => ?_); obtain ⟨hu2, hh2, hb2⟩ := hD; have hcc := hb2.cell 0 rfl; have hff := hb2.frozen 0))
  refine wp_world (fun wd => Up w wd ∧ Blk wd hb 25 #[.iface t1 v1, .nilIface] ∧ Blk wd (hb + 1) 67 #[.slice (some ⟨hb, 0, none⟩) 1 2]) ⟨hu2.setCell (p := ⟨hb + 1, 0, none⟩) (by show w.heap.size ≤ hb + 1; rw [HB.out]; exact Nat.le_succ _) _, hh2.other _ _ (by simp), hb2.set1⟩ (fun w3 hD => ?_)
  clear hcc hff hu2 hh2 hb2 hc0 hc1 hcb hu1 hh1 hb1
  obtain ⟨hu3, hh3, hb3⟩ := hD
  have hc2 := (HC.out.up hu3).cell 2 H2.out
  have hc3 := (HC.out.up hu3).cell 3 H3.out
  have hcb := hb3.cell 0 rfl
  try rw [rounds_succ]
  go_wp2_with fail
  rw [rounds_succ]
  go_wp2_with (first | ((with_reducible apply appEP (v := .iface t2 v2) (D' := #[.iface t1 v1, .iface t2 v2])); exact rfl; exact rfl; (focus (simp; done)); exact rfl; exact hh3.up (Up.alloc _ _); decide; exact Nat.le_of_ble_eq_true rfl; exact rfl; refine wpl_world (fun wd => Up w wd ∧ Blk wd hb 25 #[.iface t1 v1, .iface t2 v2] ∧ Blk wd (hb + 1) 67 #[.slice (some ⟨hb, 0, none⟩) 1 2]) ⟨below_setRow (hu3.trans (Up.alloc _ _)) (by rw [HB.out]; exact Nat.le_refl _) _, (hh3.up (Up.alloc _ _)).setRow _, (hb3.up (Up.alloc _ _)).row_other _ (by omega)⟩ (fun w4 hD => ?_); obtain ⟨hu4, hh4, hb4⟩ := hD; have hcc := hb4.cell 0 rfl; have hff := hb4.frozen 0))
  refine wp_world (fun wd => Up w wd ∧ Blk wd hb 25 #[.iface t1 v1, .iface t2 v2] ∧ Blk wd (hb + 1) 67 #[.slice (some ⟨hb, 0, none⟩) 2 2]) ⟨hu4.setCell (p := ⟨hb + 1, 0, none⟩) (by show w.heap.size ≤ hb + 1; rw [HB.out]; exact Nat.le_succ _) _, hh4.other _ _ (by simp), hb4.set1⟩ (fun w5 hD => ?_)
  clear hcc hff hu4 hh4 hb4 hc2 hc3 hcb hu3 hh3 hb3
  obtain ⟨hu5, hh5, hb5⟩ := hD
  try rw [rounds_succ]
  go_wp2_with fail
  go_ret
  exact ⟨_, rfl, hu5, hb + 1, hb, 2, _, _, rfl, hb5, ⟨_, hh5, rfl, rfl⟩, HX.out.up hu5, HY.out.up hu5⟩
theorem fjoin_four {g : Nat} {C : Array Value} {t1 t2 : TypeId} {v1 v2 : Value} {x y : Er} {w : World} (hC : Blk w g 25 C) (h0 : C[0]? = some .nilIface) (h1 : C[1]? = some (.iface t1 v1)) (h2 : C[2]? = some .nilIface) (h3 : C[3]? = some (.iface t2 v2)) (hX : IsEr w (.iface t1 v1) x) (hY : IsEr w (.iface t2 v2) y) :
    Calls Tryd.prog 14 #[.slice (some ⟨g, 0, none⟩) 4 4] w fun r w' => ∃ u, r = .returned u ∧ Up w w' ∧ IsEr w' u (.two x y) := by
  have H := hid (join_four hC h0 h1 h2 h3 hX hY)
  clear hC h0 h1 h2 h3 hX hY
  go_enter Tryd.func14, Tryd.ntmps14
  go_wp2_with (first | (go_at_call 24; (with_reducible refine (H.out).mono ?_); rintro r w' ⟨u, rfl, hu, hE⟩))
  go_ret
  exact ⟨_, rfl, hu, hE⟩
theorem join_none (w : World) : Calls Tryd.prog 24 #[.slice none 0 0] w fun r w' => r = .returned .nilIface ∧ Up w w' := by
  go_enter Tryd.func24, Tryd.ntmps24
  go_wp2_with fail
  refine wp_loop_rounds 1 ?_
  rw [rounds_succ]
  go_wp2_with fail
  go_ret
  exact ⟨rfl, Up.refl _⟩
theorem join_nil {g : Nat} {C : Array Value} {w : World} (hC : Blk w g 25 C) (h0 : C[0]? = some .nilIface) :
    Calls Tryd.prog 24 #[.slice (some ⟨g, 0, none⟩) 1 1] w fun r w' => r = .returned .nilIface ∧ Up w w' := by
  have hc0 := hC.cell 0 h0
  clear hC h0
  go_enter Tryd.func24, Tryd.ntmps24
  go_wp2_with fail
  refine wp_loop_rounds 2 ?_
  rw [rounds_succ]
  go_wp2_with fail
  rw [rounds_succ]
  go_wp2_with fail
  go_ret
  exact ⟨rfl, Up.refl _⟩
theorem join_nils {g : Nat} {C : Array Value} {w : World} (hC : Blk w g 25 C) (h0 : C[0]? = some .nilIface) (h1 : C[1]? = some .nilIface) :
    Calls Tryd.prog 24 #[.slice (some ⟨g, 0, none⟩) 2 2] w fun r w' => r = .returned .nilIface ∧ Up w w' := by
  have hc0 := hC.cell 0 h0
  have hc1 := hC.cell 1 h1
  clear hC h0 h1
  go_enter Tryd.func24, Tryd.ntmps24
  go_wp2_with fail
  refine wp_loop_rounds 3 ?_
  rw [rounds_succ]
  go_wp2_with fail
  rw [rounds_succ]
  go_wp2_with fail
  rw [rounds_succ]
  go_wp2_with fail
  go_ret
  exact ⟨rfl, Up.refl _⟩
theorem fjoin_of {s : Value} {w : World} (h : Calls Tryd.prog 24 #[s] w fun r w' => r = .returned .nilIface ∧ Up w w') :
    Calls Tryd.prog 14 #[s] w fun r w' => r = .returned .nilIface ∧ Up w w' := by
  have H := hid h
  clear h
  go_enter Tryd.func14, Tryd.ntmps14
  go_wp2_with (first | (go_at_call 24; (with_reducible refine (H.out).mono ?_); rintro r w' ⟨rfl, hu⟩))
  go_ret
  exact ⟨rfl, hu⟩
end Go.Proofs.YtkhcegpmgejblaaDoor
