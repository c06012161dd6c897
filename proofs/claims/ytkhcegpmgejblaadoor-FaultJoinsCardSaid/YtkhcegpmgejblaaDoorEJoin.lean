/-
  errors.Join of two errors.
-/
import Derived.Test.YtkhcegpmgejblaaDoorEOps
namespace Go.Proofs.YtkhcegpmgejblaaDoor
open Go Go.RowKit
set_option maxRecDepth 100000
set_option maxRecDepth 100000

theorem undSE : Tryd.prog.underlying 48 = some (.slice 25) := by kernel_rfl
theorem infoErr : (Tryd.prog.info? 25).map (fun i => (i.zero, i.size, i.bytes)) = some (some .nilIface, 1, 16) := by kernel_rfl
theorem make2 (w : World) : (Instr.makeSlice 48 (.int .i64 0) (.int .i64 2)).run Tryd.prog w = .ok (.slice (some ⟨w.heap.size, 0, none⟩) 0 2) (w.alloc (.cells #[.nilIface, .nilIface] 25)) := by
  obtain ⟨i0, hi0, he⟩ := Option.map_eq_some_iff.1 infoErr
  simp only [Prod.mk.injEq] at he
  have hr := run_make (P := Tryd.prog) (w := w) 48 25 i0 .nilIface undSE hi0 he.1 .i64 .i64 0 2 (by omega) (by omega) (by rw [he.2.2]; omega) (by omega)
  rw [hr, he.2.1]
  have h2 : madeCells (Value.nilIface).cells (Int.toNat 2 * 1) = #[.nilIface, .nilIface] := by
    apply Array.ext
    · simp [madeCells]
    · intro i h1 h2
      have h3 : i < 2 := by simpa [madeCells] using h1
      rcases (show i = 0 ∨ i = 1 by omega) with rfl | rfl <;> simp [madeCells, Value.cells]
  rw [h2]
  rfl
theorem appEP {ops : Array Oper} {rest : List Oper} {Q : Exit → Act → World → Prop} {a : Act} {w : World} {d : Option Tmp} {s u : Tmp} {ty : TypeId} {pos : String} {af : Array Edge} {g b n c : Nat} {v : Value} {D D' : Array Value}
    (hs : a.eval (.tmp s) = .slice (some ⟨g, 0, none⟩) n c) (hu : a.eval (.tmp u) = .slice (some ⟨b, 0, none⟩) 1 1) (hB : w.cell? ⟨b, 0, none⟩ = some v) (hv : v.oneCell' = true) (hD : Blk w g 25 D) (hn : n + 1 ≤ c) (hc : n + 1 ≤ D.size) (hD' : (D.toList.take (n * 1) ++ [v] ++ D.toList.drop (n * 1 + 1)).toArray = D')
    (h : wpList Tryd.prog ops Q rest (a.put d (.slice (some ⟨g, 0, none⟩) (n + 1) c)) (w.setRow g D')) :
    wpList Tryd.prog ops Q ({ dst := d, op := .call { callee := .builtin .append, args := #[.tmp s, .tmp u], argTypes := #[48, 48] }, type := ty, pos := pos, after := af, guard := none } :: rest) a w := by
  obtain ⟨i0, hi0, he⟩ := Option.map_eq_some_iff.1 infoErr
  simp only [Prod.mk.injEq] at he
  refine wpList_plain rfl fun _ hK => ?_
  have hr := run_append_room (P := Tryd.prog) w 48 ty 25 i0 undSE hi0 g n c D hD ⟨b, 0, none⟩ 1 1 [v] (by rw [he.2.1]; rfl)
    (fun j x hj => by
      cases j with
      | zero => simp only [List.getElem?_cons_zero, Option.some.injEq] at hj; subst hj; exact hB
      | succ j => simp at hj)
    (fun x hx => by simp at hx; subst hx; exact hv) hn (by rw [he.2.1]; simp; omega)
  rw [he.2.1, show ([v] : List Value).length = 1 from rfl, hD'] at hr
  unfold Oper.wp execOp
  simp only [resolve, invoke, builtin, Sem.run_bind, Sem.run_pure, Result.andThen_ok, List.map_toArray, List.map_cons, List.map_nil, hs, hu, hr]
  exact hK _ _ h
theorem wp_world {P : Program} {c : Code} {Q : Exit → Act → World → Prop} {a : Act} {w : World} (R : World → Prop) (h : R w) (k : ∀ w', R w' → c.wp P Q a w') : c.wp P Q a w := k w h
theorem wpl_world {P : Program} {ops : Array Oper} {rest : List Oper} {Q : Exit → Act → World → Prop} {a : Act} {w : World} (R : World → Prop) (h : R w) (k : ∀ w', R w' → wpList P ops Q rest a w') : wpList P ops Q rest a w := k w h
theorem Blk.set1 {w : World} {b : Nat} {t : TypeId} {v v' : Value} (h : Blk w b t #[v]) : Blk (w.setCell ⟨b, 0, none⟩ v') b t #[v'] := heap_setCell_same _ _ _ _ _ _ h
theorem Blk.other {w : World} {b : Nat} {t : TypeId} {C : Array Value} (h : Blk w b t C) (a : Addr) (v : Value) (hb : b ≠ a.block) : Blk (w.setCell a v) b t C := by
  unfold Blk; rw [heap_setCell_other _ _ _ _ hb]; exact h
theorem Blk.setRow {w : World} {b : Nat} {t : TypeId} {C : Array Value} (h : Blk w b t C) (D : Array Value) : Blk (w.setRow b D) b t D := setRow_heap _ _ _ _ _ _ h
theorem Blk.row_other {w : World} {b g : Nat} {t : TypeId} {C : Array Value} (h : Blk w b t C) (D : Array Value) (hb : b ≠ g) : Blk (w.setRow g D) b t C := by
  unfold Blk; rw [setRow_other _ _ _ _ hb]; exact h
theorem below_setRow {B : Nat} {a w : World} (h : Below B a w) {g : Nat} (hg : B ≤ g) (D : Array Value) : Below B a (w.setRow g D) :=
  Below.trans h ⟨rfl, rfl, rfl, by simp, fun k hk => setRow_other _ _ _ _ (by omega)⟩
set_option maxHeartbeats 4000000 in
theorem join_two {g : Nat} {C : Array Value} {t1 t2 : TypeId} {v1 v2 : Value} {x y : Er} {w : World} (hC : Blk w g 25 C) (h0 : C[0]? = some (.iface t1 v1)) (h1 : C[1]? = some (.iface t2 v2)) (hX : IsEr w (.iface t1 v1) x) (hY : IsEr w (.iface t2 v2) y) :
    Calls Tryd.prog 24 #[.slice (some ⟨g, 0, none⟩) 2 2] w fun r w' => ∃ u, r = .returned u ∧ Up w w' ∧ IsEr w' u (.two x y) := by
  have hc0 := hC.cell 0 h0
  have hc1 := hC.cell 1 h1
  have HX := hid hX
  have HY := hid hY
  have HC := hid hC
  have H0 := hid h0
  have H1 := hid h1
  have hmk := make2
  clear hC hX hY h0 h1
  go_enter Tryd.func24, Tryd.ntmps24
  go_wp2_with fail
  refine wp_loop_rounds 3 ?_
  rw [rounds_succ]
  go_wp2_with fail
  rw [rounds_succ]
  go_wp2_with fail
  rw [rounds_succ]
  go_wp2_with fail
  clear hc0 hc1 hmk
  refine wp_world (fun wd => Up w wd ∧ Blk wd w.heap.size 25 #[.nilIface, .nilIface] ∧ Blk wd (w.heap.size + 1) 67 #[.slice (some ⟨w.heap.size, 0, none⟩) 0 2]) ⟨(Up.alloc _ _).trans (Up.alloc _ _), (Blk.new _ _ rfl).up (Up.alloc _ _), Blk.new _ _ (by simp)⟩ (fun w1 hD => ?_)
  obtain ⟨hu1, hh1, hb1⟩ := hD
  obtain ⟨hb, ehb⟩ : ∃ hb, hb = w.heap.size := ⟨_, rfl⟩
  have HB := hid ehb
  rw [← ehb] at hh1 hb1 ⊢
  clear ehb
  have hc0 := (HC.out.up hu1).cell 0 H0.out
  have hcb := hb1.cell 0 rfl
  refine wp_loop_rounds 3 ?_
  rw [rounds_succ]
  go_wp2_with (first | ((with_reducible apply appEP (v := .iface t1 v1) (D' := #[.iface t1 v1, .nilIface])); exact rfl; exact rfl; (focus (simp; done)); exact rfl; exact hh1.up (Up.alloc _ _); decide; decide; exact rfl; refine wpl_world (fun wd => Up w wd ∧ Blk wd hb 25 #[.iface t1 v1, .nilIface] ∧ Blk wd (hb + 1) 67 #[.slice (some ⟨hb, 0, none⟩) 0 2]) ⟨below_setRow (hu1.trans (Up.alloc _ _)) (by rw [HB.out]; exact Nat.le_refl _) _, (hh1.up (Up.alloc _ _)).setRow _, (hb1.up (Up.alloc _ _)).row_other _ (by omega)⟩ (fun w2 hD => ?_); obtain ⟨hu2, hh2, hb2⟩ := hD; have hcc := hb2.cell 0 rfl; have hff := hb2.frozen 0))
  refine wp_world (fun wd => Up w wd ∧ Blk wd hb 25 #[.iface t1 v1, .nilIface] ∧ Blk wd (hb + 1) 67 #[.slice (some ⟨hb, 0, none⟩) 1 2]) ⟨hu2.setCell (p := ⟨hb + 1, 0, none⟩) (by show w.heap.size ≤ hb + 1; rw [HB.out]; exact Nat.le_succ _) _, hh2.other _ _ (by simp), hb2.set1⟩ (fun w3 hD => ?_)
  clear hcc hff hu2 hh2 hb2 hc0 hcb hu1 hh1 hb1
  obtain ⟨hu3, hh3, hb3⟩ := hD
  have hc1 := (HC.out.up hu3).cell 1 H1.out
  have hcb := hb3.cell 0 rfl
  try rw [rounds_succ]
  go_wp2_with (first | ((with_reducible apply appEP (v := .iface t2 v2) (D' := #[.iface t1 v1, .iface t2 v2])); exact rfl; exact rfl; (focus (simp; done)); exact rfl; exact hh3.up (Up.alloc _ _); decide; exact Nat.le_of_ble_eq_true rfl; exact rfl; refine wpl_world (fun wd => Up w wd ∧ Blk wd hb 25 #[.iface t1 v1, .iface t2 v2] ∧ Blk wd (hb + 1) 67 #[.slice (some ⟨hb, 0, none⟩) 1 2]) ⟨below_setRow (hu3.trans (Up.alloc _ _)) (by rw [HB.out]; exact Nat.le_refl _) _, (hh3.up (Up.alloc _ _)).setRow _, (hb3.up (Up.alloc _ _)).row_other _ (by omega)⟩ (fun w4 hD => ?_); obtain ⟨hu4, hh4, hb4⟩ := hD; have hcc := hb4.cell 0 rfl; have hff := hb4.frozen 0))
  refine wp_world (fun wd => Up w wd ∧ Blk wd hb 25 #[.iface t1 v1, .iface t2 v2] ∧ Blk wd (hb + 1) 67 #[.slice (some ⟨hb, 0, none⟩) 2 2]) ⟨hu4.setCell (p := ⟨hb + 1, 0, none⟩) (by show w.heap.size ≤ hb + 1; rw [HB.out]; exact Nat.le_succ _) _, hh4.other _ _ (by simp), hb4.set1⟩ (fun w5 hD => ?_)
  clear hcc hff hu4 hh4 hb4 hc1 hcb hu3 hh3 hb3
  obtain ⟨hu5, hh5, hb5⟩ := hD
  try rw [rounds_succ]
  go_wp2_with fail
  go_ret
  exact ⟨_, rfl, hu5, hb + 1, hb, 2, _, _, rfl, hb5, ⟨_, hh5, rfl, rfl⟩, HX.out.up hu5, HY.out.up hu5⟩
end Go.Proofs.YtkhcegpmgejblaaDoor
