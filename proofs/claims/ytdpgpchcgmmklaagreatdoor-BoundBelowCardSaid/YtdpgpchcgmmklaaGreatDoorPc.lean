import Derived.Test.YtdpgpchcgmmklaaGreatDoorPb
import Derived.Laws.AppendOwnNone
import Derived.Lib.MinMax
import Derived.Deep.AppendLies
import Derived.Deep.MidRow
import Derived.Laws.CopyRow
import Derived.Great.BuildSlice
import Derived.Deep.DeepCutAuto
import Derived.Deep.CutRange
import Derived.Deep.CutBlock
import Derived.BigQuiet
import Derived.Deep.QuietTactic
namespace Go.Proofs.YtdpgpchcgmmklaaGreatDoor
open Go Go.RowKit
set_option maxRecDepth 100000
theorem undB0 : (match Tryz.prog.underlying 59 with | some (.struct _) => true | _ => false) = true := by kernel_rfl
theorem undB : ∃ fs, Tryz.prog.underlying 59 = some (.struct fs) := by
 have h := undB0
 split at h
 ·exact ⟨_, by assumption⟩
 ·cases h
theorem infoB : (Tryz.prog.info? 59).map (·.size) = some 2 := by kernel_rfl
theorem blk_new {w : World} {b : Nat} {t : TypeId} {C : Array Value} (h : b = w.heap.size) : Blk (w.alloc (.cells C t)) b t C := Blk.new _ _ h
theorem blk_alloc {w : World} {b : Nat} {t : TypeId} {C : Array Value} {o : Obj} (h : Blk w b t C) : Blk (w.alloc o) b t C := h.old o
theorem blk_up {w w' : World} {b : Nat} {t : TypeId} {C : Array Value} (hu : Up w w') (h : Blk w b t C) : Blk w' b t C := h.up hu
theorem blk_same {w : World} {b : Nat} {t : TypeId} {C D : Array Value} (h : Blk w b t C) : Blk (w.setRow b D) b t D := h.setRow D
theorem gBlk {w : World} {b : Nat} {t : TypeId} {C : Array Value} (h : Blk w b t C := by (repeat (first | assumption | ((with_reducible apply blk_new); (focus (first | rfl | (simp; done)))) | (with_reducible apply blk_alloc) | (with_reducible apply blk_drew) | (with_reducible apply blk_drewN) | ((with_reducible apply blk_up); assumption) | (with_reducible apply blk_same) | ((with_reducible apply blk_else); (focus (first | (simp; done) | (simp; omega) | omega)))))) : Blk w b t C := h
theorem one2 (b : Bool) (a : Option Addr) (n c : Nat) : (#[Value.bool b, Value.slice a n c]).all (·.oneCell') = true := by simp [Value.oneCell']
section
variable {ops : Array Oper} {rest : List Oper} {Q : Exit -> Act -> World -> Prop} {a : Act} {w : World} {d : Option Tmp} {s u : Tmp} {ty : TypeId} {pos : String} {af : Array Edge} {gd : Option (Nat × Bool)} {g : Nat} {C D : Array Value}
theorem run_ldB {o : Oper} {x : Operand} (ho : o.op = .load 59 x) (hx : a.eval x = .pointer (some ⟨g, 0, none⟩)) (hC : Blk w g 59 C) (h2 : C.size = 2) : (execOp a.eval o).run Tryz.prog w = .ok (.value (.agg C)) w := by
 obtain ⟨fs, hu⟩ := undB
 unfold execOp
 simp only [ho, hx, Instr.loadAt, Instr.sureAddr, Sem.run_bind, Sem.run_pure, Result.andThen_ok, run_loadVar_row w g _ 59 C (0, 0) _ hC hu rfl (by rw [infoB, h2])]
theorem ldB_P (hw : Region.wanted { dst := d, op := .load 59 (.tmp s), type := ty, pos := pos, after := af, guard := gd } (yielded ops a.tmps) = true) (hx : a.eval (.tmp s) = .pointer (some ⟨g, 0, none⟩)) (hC : Blk w g 59 C) (h2 : C.size = 2)
   (h : wpList Tryz.prog ops Q rest (a.put d (.agg C)) w) : wpList Tryz.prog ops Q ({ dst := d, op := .load 59 (.tmp s), type := ty, pos := pos, after := af, guard := gd } :: rest) a w :=
 wpList_run hw (run_ldB rfl hx hC h2) h
theorem stB_P (hx : a.eval (.tmp s) = .pointer (some ⟨g, 0, none⟩)) (hy : a.eval (.tmp u) = .agg D) (hC : Blk w g 59 C) (h2 : C.size = 2) (h3 : D.size = 2) (h1 : D.all (·.oneCell') = true)
   (h : wpList Tryz.prog ops Q rest (a.put d undef) (w.setRow g D)) :
   wpList Tryz.prog ops Q ({ dst := d, op := .store 59 (.tmp s) (.tmp u), type := ty, pos := pos, after := af, guard := none } :: rest) a w :=
 wpList_plain rfl fun _ hK => wp_store_row _ _ _ rfl g D hx hy _ C hC (by rw [infoB, h3]) (by rw [h2, h3]) h1 (hK _ _ h)
theorem wp_stB {o : Oper} {K : Act -> World -> Prop} (hd : o.dst = none) {x y : Operand} (ho : o.op = .store 59 x y) (hx : a.eval x = .pointer (some ⟨g, 0, none⟩)) (hy : a.eval y = .agg D) (hC : Blk w g 59 C) (h2 : C.size = 2) (h3 : D.size = 2) (h1 : D.all (·.oneCell') = true)
   (h : K a (w.setRow g D)) : o.wp Tryz.prog a w K Q :=
 wp_store_row _ _ _ ho g D hx hy _ C hC (by rw [infoB, h3]) (by rw [h2, h3]) h1 (by rw [hd]; exact h)
end
theorem resB {fn : Func} {p : Tmp} (h : fn.results = #[.cell p 59]) {tmps : Array Value} {w : World} {g : Nat} {C : Array Value} (hp : tmps.getD p undef = .pointer (some ⟨g, 0, none⟩)) (hC : Blk w g 59 C) (h2 : C.size = 2) :
   (results fn tmps).run Tryz.prog w = .ok (.agg C) w := undB.elim fun _ hu => results_cell_row h tmps w g _ C (0, 0) _ hp hC hu rfl (by rw [infoB, h2])
section
variable {P : Program} {ops : Array Oper} {Q : Exit -> Act -> World -> Prop} {md : Region.Mode} {S : World -> Prop} {req : Nat -> Bool}
theorem wpAnyU_callE {i : Nat} {o : Oper} {d : Option Tmp} {fuel : Nat} {listed : Array Bool} {a : Act} {w : World} {f : FuncId} {args : Array Value} {R : Value -> World -> Prop} (hi : ops[i]? = some o) (hd : o.dst = d) (hr : Region.ready md ops listed = [i]) (hw : Region.wanted o (yielded ops a.tmps) = true)
   (hSup : ∀ w w', S w -> Up w w' -> S w') (hrun : ∀ w', (execOp a.eval o).run P w' = .ok (.enter f args) w') (hc : ∀ w', Up w w' -> Calls P f args w' fun e w'' => Up w' w'' /\ ∃ v, e = .returned v /\ R v w'')
   (h : ∀ v w'', Up w w'' -> R v w'' -> wpAnyU P md ops Q S req fuel (listed.setIfInBounds i true) (a.put d v) w'') : wpAnyU P md ops Q S req (fuel + 1) listed a w := by
 refine wpAnyU_one hi hr hw fun w' hw' => ?_
 unfold Oper.wp
 rw [hrun w']
 subst hd
 refine Calls.mono (hc w' hw') fun e w'' he => ?_
 obtain ⟨hu, v, rfl, hR⟩ := he
 exact ⟨fun _ hs => hSup _ _ hs hu, h v w'' (hw'.trans hu) hR⟩
end
theorem callE_of {P : Program} {f : FuncId} {args : Array Value} {w : World} {v : Value} (h : Calls P f args w fun e w' => e = .returned v /\ Up w w') : Calls P f args w fun e w' => Up w w' /\ ∃ u, e = .returned u /\ u = v :=
 h.mono fun _ _ he => ⟨he.2, v, he.1, rfl⟩
def Big (w : World) (v : Value) (z : Int) : Prop := ∃ a c, v = .agg #[.bool (decide (z < 0)), .slice a (nl z.natAbs) c] /\ Am w (.slice a (nl z.natAbs) c) z.natAbs
theorem Big.up {w w' : World} {v : Value} {z : Int} (h : Big w v z) (hu : Up w w') : Big w' v z := by
 obtain ⟨a, c, h1, h2⟩ := h
 exact ⟨a, c, h1, h2.up hu⟩
theorem Am.shape {w : World} {v : Value} {x : Nat} (h : Am w v x) : ∃ a c, v = .slice a (nl x) c := by
 obtain ⟨a, c, h1, _⟩ := h
 exact ⟨a, c, h1⟩
theorem pm_abs (neg : Bool) (x : Nat) : (pm neg x).natAbs = x := by cases neg <;> simp [pm]
theorem pm_neg (neg : Bool) (x : Nat) : decide (pm neg x < 0) = (neg && decide (0 < nl x)) := by
 rw [Bool.eq_iff_iff]
 cases neg <;> simp [pm, nl_pos_iff] <;> omega
theorem big_made {w : World} {a : Option Addr} {c x : Nat} (neg : Bool) (h : Am w (.slice a (nl x) c) x) : Big w (.agg #[.bool (neg && decide (0 < nl x)), .slice a (nl x) c]) (pm neg x) :=
 ⟨a, c, by rw [pm_neg, pm_abs], by rw [pm_abs]; exact h⟩
theorem made_any (neg : Bool) (a : Option Addr) (n c : Nat) (w : World) :
   Calls Tryz.prog 49 #[.bool neg, .slice a n c] w fun e w' => e = .returned (.agg #[.bool (neg && decide (0 < n)), .slice a n c]) /\ Up w w' := by
 cases neg with
 | false =>
   rw [Bool.false_and]
   go_enter Tryz.func49, Tryz.ntmps49
   go_wp2
   exact bodyPost_ret (resB rfl rfl (by (repeat (first | assumption | ((with_reducible apply blk_new); (focus (first | rfl | (simp; done)))) | (with_reducible apply blk_alloc) | (with_reducible apply blk_drew) | (with_reducible apply blk_drewN) | ((with_reducible apply blk_up); assumption) | (with_reducible apply blk_same) | ((with_reducible apply blk_else); (focus (first | (simp; done) | (simp; omega) | omega)))))) rfl) rfl ⟨rfl, (by repeat (first | assumption | (with_reducible apply Up.of) | (with_reducible exact Below.refl _ _) | (with_reducible exact Up.refl _) | ((with_reducible apply bl_setRow); (focus (first | exact Nat.le_refl _ | (simp; done) | (simp; omega) | omega))) | (with_reducible apply below_drewN) | (with_reducible apply Below.drew) | ((with_reducible apply bl_alloc); (focus (first | exact Nat.le_refl _ | (simp; done) | (simp; omega) | omega))) | ((with_reducible apply bl_setCell); (focus (first | exact Nat.le_refl _ | (simp; done) | (simp; omega) | omega))) | ((with_reducible apply up_tr); assumption)))⟩
 | true =>
   rw [Bool.true_and]
   go_enter Tryz.func49, Tryz.ntmps49
   go_wp2
   exact bodyPost_ret (resB rfl rfl (by (repeat (first | assumption | ((with_reducible apply blk_new); (focus (first | rfl | (simp; done)))) | (with_reducible apply blk_alloc) | (with_reducible apply blk_drew) | (with_reducible apply blk_drewN) | ((with_reducible apply blk_up); assumption) | (with_reducible apply blk_same) | ((with_reducible apply blk_else); (focus (first | (simp; done) | (simp; omega) | omega)))))) rfl) rfl ⟨by first | rfl | simp, (by repeat (first | assumption | (with_reducible apply Up.of) | (with_reducible exact Below.refl _ _) | (with_reducible exact Up.refl _) | ((with_reducible apply bl_setRow); (focus (first | exact Nat.le_refl _ | (simp; done) | (simp; omega) | omega))) | (with_reducible apply below_drewN) | (with_reducible apply Below.drew) | ((with_reducible apply bl_alloc); (focus (first | exact Nat.le_refl _ | (simp; done) | (simp; omega) | omega))) | ((with_reducible apply bl_setCell); (focus (first | exact Nat.le_refl _ | (simp; done) | (simp; omega) | omega))) | ((with_reducible apply up_tr); assumption)))⟩
theorem neg_any (b : Bool) (a : Option Addr) (n c : Nat) (w : World) :
   Calls Tryz.prog 48 #[.agg #[.bool b, .slice a n c]] w fun e w' => e = .returned (.agg #[.bool (!b && decide (0 < n)), .slice a n c]) /\ Up w w' := by
 have HM := hid (fun w => made_any (!b) a n c w)
 go_enter Tryz.func48, Tryz.ntmps48
 go_wp2_with (first | ((with_reducible apply stB_P); exact rfl; exact rfl; (focus (repeat (first | assumption | ((with_reducible apply blk_new); (focus (first | rfl | (simp; done)))) | (with_reducible apply blk_alloc) | (with_reducible apply blk_drew) | (with_reducible apply blk_drewN) | ((with_reducible apply blk_up); assumption) | (with_reducible apply blk_same) | ((with_reducible apply blk_else); (focus (first | (simp; done) | (simp; omega) | omega)))))); exact rfl; exact rfl; exact one2 _ _ _ _) | (go_at_call 49; refine (HM.out _).mono ?_; rintro e w' ⟨rfl, hu⟩))
 exact bodyPost_ret (resB rfl rfl (by (repeat (first | assumption | ((with_reducible apply blk_new); (focus (first | rfl | (simp; done)))) | (with_reducible apply blk_alloc) | (with_reducible apply blk_drew) | (with_reducible apply blk_drewN) | ((with_reducible apply blk_up); assumption) | (with_reducible apply blk_same) | ((with_reducible apply blk_else); (focus (first | (simp; done) | (simp; omega) | omega)))))) rfl) rfl ⟨rfl, (by repeat (first | assumption | (with_reducible apply Up.of) | (with_reducible exact Below.refl _ _) | (with_reducible exact Up.refl _) | ((with_reducible apply bl_setRow); (focus (first | exact Nat.le_refl _ | (simp; done) | (simp; omega) | omega))) | (with_reducible apply below_drewN) | (with_reducible apply Below.drew) | ((with_reducible apply bl_alloc); (focus (first | exact Nat.le_refl _ | (simp; done) | (simp; omega) | omega))) | ((with_reducible apply bl_setCell); (focus (first | exact Nat.le_refl _ | (simp; done) | (simp; omega) | omega))) | ((with_reducible apply up_tr); assumption)))⟩
def bsign (b : Bool) (n : Nat) : Int := if n = 0 then 0 else if b then -1 else 1
theorem bsign_any (b : Bool) (a : Option Addr) (n c : Nat) (w : World) :
   Calls Tryz.prog 52 #[.agg #[.bool b, .slice a n c]] w fun e w' => e = .returned (.int .i64 (bsign b n)) /\ Up w w' := by
 by_cases h0 : n = 0
 ·subst h0
  go_enter Tryz.func52, Tryz.ntmps52
  go_wp2
  go_ret
  exact ⟨rfl, (by repeat (first | assumption | (with_reducible apply Up.of) | (with_reducible exact Below.refl _ _) | (with_reducible exact Up.refl _) | ((with_reducible apply bl_setRow); (focus (first | exact Nat.le_refl _ | (simp; done) | (simp; omega) | omega))) | (with_reducible apply below_drewN) | (with_reducible apply Below.drew) | ((with_reducible apply bl_alloc); (focus (first | exact Nat.le_refl _ | (simp; done) | (simp; omega) | omega))) | ((with_reducible apply bl_setCell); (focus (first | exact Nat.le_refl _ | (simp; done) | (simp; omega) | omega))) | ((with_reducible apply up_tr); assumption)))⟩
 ·have hb : ((n : Int) == 0) = false := by simpa using h0
  have e : bsign b n = if b then -1 else 1 := by unfold bsign; rw [if_neg h0]
  rw [e]
  clear e h0
  go_enter Tryz.func52, Tryz.ntmps52
  cases b <;> (go_wp2; go_ret; exact ⟨rfl, (by repeat (first | assumption | (with_reducible apply Up.of) | (with_reducible exact Below.refl _ _) | (with_reducible exact Up.refl _) | ((with_reducible apply bl_setRow); (focus (first | exact Nat.le_refl _ | (simp; done) | (simp; omega) | omega))) | (with_reducible apply below_drewN) | (with_reducible apply Below.drew) | ((with_reducible apply bl_alloc); (focus (first | exact Nat.le_refl _ | (simp; done) | (simp; omega) | omega))) | ((with_reducible apply bl_setCell); (focus (first | exact Nat.le_refl _ | (simp; done) | (simp; omega) | omega))) | ((with_reducible apply up_tr); assumption)))⟩)
theorem big_neg {w : World} {v : Value} {z : Int} (h : Big w v z) : ∃ b a n c, v = .agg #[.bool b, .slice a n c] /\ Big w (.agg #[.bool (!b && decide (0 < n)), .slice a n c]) (-z) := by
 obtain ⟨a, c, rfl, hA⟩ := h
 refine ⟨_, a, _, c, rfl, a, c, ?_, by rw [Int.natAbs_neg]; exact hA⟩
 rw [Int.natAbs_neg]
 have : (!decide (z < 0) && decide (0 < nl z.natAbs)) = decide (-z < 0) := by
  rw [Bool.eq_iff_iff]
  simp [nl_pos_iff]
  omega
 rw [this]
theorem sgn_big {z : Int} : bsign (decide (z < 0)) (nl z.natAbs) = sgn z := by
 unfold bsign sgn
 by_cases h : nl z.natAbs = 0
 ·have : ¬ 0 < z.natAbs := fun h1 => by have := nl_pos h1; omega
  rw [if_pos h, show z = 0 by omega]; rfl
 ·have := nl_pos_iff.1 (Nat.pos_of_ne_zero h)
  rw [if_neg h]
  by_cases h1 : z < 0
  ·simp [h1]
  ·have h2 : z ≠ 0 := by omega
   simp [h1, h2]
theorem undM0 : (match Tryz.prog.underlying 24 with | some (.struct _) => true | _ => false) = true := by kernel_rfl
theorem undM : ∃ fs, Tryz.prog.underlying 24 = some (.struct fs) := by
 have h := undM0
 split at h
 ·exact ⟨_, by assumption⟩
 ·cases h
theorem infoM : (Tryz.prog.info? 24).map (·.size) = some 2 := by kernel_rfl
theorem two2 (k : IntKind) (n : Int) (a : Option Addr) (m c : Nat) : (#[Value.int k n, Value.slice a m c]).all (·.oneCell') = true := by simp [Value.oneCell']
section
variable {ops : Array Oper} {rest : List Oper} {Q : Exit -> Act -> World -> Prop} {a : Act} {w : World} {d : Option Tmp} {s u : Tmp} {ty : TypeId} {pos : String} {af : Array Edge} {gd : Option (Nat × Bool)} {g : Nat} {C D : Array Value}
theorem run_ldM {o : Oper} {x : Operand} (ho : o.op = .load 24 x) (hx : a.eval x = .pointer (some ⟨g, 0, none⟩)) (hC : Blk w g 24 C) (h2 : C.size = 2) : (execOp a.eval o).run Tryz.prog w = .ok (.value (.agg C)) w := by
 obtain ⟨fs, hu⟩ := undM
 unfold execOp
 simp only [ho, hx, Instr.loadAt, Instr.sureAddr, Sem.run_bind, Sem.run_pure, Result.andThen_ok, run_loadVar_row w g _ 24 C (0, 0) _ hC hu rfl (by rw [infoM, h2])]
theorem ldM_P (hw : Region.wanted { dst := d, op := .load 24 (.tmp s), type := ty, pos := pos, after := af, guard := gd } (yielded ops a.tmps) = true) (hx : a.eval (.tmp s) = .pointer (some ⟨g, 0, none⟩)) (hC : Blk w g 24 C) (h2 : C.size = 2)
   (h : wpList Tryz.prog ops Q rest (a.put d (.agg C)) w) : wpList Tryz.prog ops Q ({ dst := d, op := .load 24 (.tmp s), type := ty, pos := pos, after := af, guard := gd } :: rest) a w :=
 wpList_run hw (run_ldM rfl hx hC h2) h
theorem stM_P (hx : a.eval (.tmp s) = .pointer (some ⟨g, 0, none⟩)) (hy : a.eval (.tmp u) = .agg D) (hC : Blk w g 24 C) (h2 : C.size = 2) (h3 : D.size = 2) (h1 : D.all (·.oneCell') = true)
   (h : wpList Tryz.prog ops Q rest (a.put d undef) (w.setRow g D)) :
   wpList Tryz.prog ops Q ({ dst := d, op := .store 24 (.tmp s) (.tmp u), type := ty, pos := pos, after := af, guard := none } :: rest) a w :=
 wpList_plain rfl fun _ hK => wp_store_row _ _ _ rfl g D hx hy _ C hC (by rw [infoM, h3]) (by rw [h2, h3]) h1 (hK _ _ h)
theorem wp_stM {o : Oper} {K : Act -> World -> Prop} (hd : o.dst = none) {x y : Operand} (ho : o.op = .store 24 x y) (hx : a.eval x = .pointer (some ⟨g, 0, none⟩)) (hy : a.eval y = .agg D) (hC : Blk w g 24 C) (h2 : C.size = 2) (h3 : D.size = 2) (h1 : D.all (·.oneCell') = true)
   (h : K a (w.setRow g D)) : o.wp Tryz.prog a w K Q :=
 wp_store_row _ _ _ ho g D hx hy _ C hC (by rw [infoM, h3]) (by rw [h2, h3]) h1 (by rw [hd]; exact h)
end
theorem resM {fn : Func} {p : Tmp} (h : fn.results = #[.cell p 24]) {tmps : Array Value} {w : World} {g : Nat} {C : Array Value} (hp : tmps.getD p undef = .pointer (some ⟨g, 0, none⟩)) (hC : Blk w g 24 C) (h2 : C.size = 2) :
   (results fn tmps).run Tryz.prog w = .ok (.agg C) w := undM.elim fun _ hu => results_cell_row h tmps w g _ C (0, 0) _ hp hC hu rfl (by rw [infoM, h2])
theorem undI : Tryz.prog.underlying 22 = some (.slice 2) := by kernel_rfl
theorem infoI : (Tryz.prog.info? 2).map (fun i => (i.zero, i.size, i.bytes)) = some (some (.int .i64 0), 1, 8) := by kernel_rfl
def vals (l : List Int) : List Value := l.map (Value.int .i64)
def OwnI (w : World) (base : Nat) (v : Value) (l : List Int) : Prop := w.ownsRow base 2 1 v l.length (vals l)
theorem OwnI.up {w w' : World} {base : Nat} {v : Value} {l : List Int} (hu : Up w w') (h : OwnI w base v l) : OwnI w' base v l := World.ownsRow.up h hu
theorem OwnI.nil (w : World) (base : Nat) : OwnI w base (.slice none 0 0) [] := World.ownsRow_nil _ _ _ _
theorem vals_get {l : List Int} {i : Nat} (h : i < l.length) : (vals l)[i]? = some (.int .i64 (zth l i)) := by
 unfold vals; rw [List.getElem?_map, zth_get h, List.getElem?_eq_getElem h]; rfl
theorem OwnI.open {w : World} {base : Nat} {v : Value} {l : List Int} (h : OwnI w base v l) (h0 : 0 < l.length) :
   ∃ g cap C, v = .slice (some ⟨g, 0, none⟩) l.length cap /\ base <= g /\ Blk w g 2 C /\ l.length <= cap /\ cap <= maxLen /\ C.size = cap /\ C.toList.take l.length = vals l := by
 obtain ⟨_, h1 | ⟨g, cap, cur, hv, hb, hB, hc, hm, hs, ht⟩⟩ := h
 ·omega
 ·exact ⟨g, cap, cur, hv, hb, hB, hc, hm, by omega, by rw [<- ht, Nat.mul_one]⟩
theorem OwnI.vw {w : World} {base : Nat} {v : Value} {l : List Int} (h : OwnI w base v l) : Vw w v l := by
 rcases Nat.eq_zero_or_pos l.length with h0 | h0
 ·have hl := List.length_eq_zero_iff.1 h0
  subst hl
  obtain ⟨_, ⟨rfl, _⟩ | ⟨g, cap, cur, rfl, _⟩⟩ := h
  ·exact ⟨none, 0, rfl, ⟨Nat.le_refl _, fun _ => rfl⟩, fun i hi => absurd hi (Nat.not_lt_zero _)⟩
  ·exact ⟨_, cap, rfl, ⟨Nat.zero_le _, fun e => by cases e⟩, fun i hi => absurd hi (Nat.not_lt_zero _)⟩
 ·obtain ⟨g, cap, C, rfl, _, hB, hc, _, _, ht⟩ := h.open h0
  refine ⟨_, cap, rfl, ⟨hc, fun e => by cases e⟩, fun i hi => ⟨_, rfl, ?_⟩⟩
  have h1 : C[i]? = some (.int .i64 (zth l i)) := by
   rw [<- Array.getElem?_toList, <- List.getElem?_take_of_lt hi, ht, vals_get hi]
  have h2 := hB.cell i h1
  have e : Addr.add ⟨g, 0, none⟩ i = ⟨g, i, none⟩ := by unfold Addr.add; simp; omega
  rw [e]
  exact h2
theorem vals_set (l : List Int) (k : Nat) (z : Int) : vals (l.set k z) = (vals l).set k (.int .i64 z) := by unfold vals; rw [List.map_set]
theorem OwnI.set {w : World} {base g n cap : Nat} {l : List Int} (h : OwnI w base (.slice (some ⟨g, 0, none⟩) n cap) l) {k : Nat} (hk : k < l.length) (z : Int) :
   OwnI (w.setCell ⟨g, k, none⟩ (.int .i64 z)) base (.slice (some ⟨g, 0, none⟩) n cap) (l.set k z) := by
 obtain ⟨g', cap', C, hv, hb, hB, hc, hm, hs, ht⟩ := h.open (by omega)
 injection hv with e1 e2 e3
 injection e1 with e1
 injection e1 with e1
 subst e1 e2 e3
 refine ⟨by rw [vals_set, List.length_set, List.length_set]; unfold vals; simp, .inr ⟨g, cap, _, by rw [List.length_set], hb, hB.set k (.int .i64 z), by rw [List.length_set]; exact hc, hm, by simp [hs], ?_⟩⟩
 rw [vals_set, List.length_set, Nat.mul_one, Array.toList_setIfInBounds, <- ht, List.take_set]
theorem OwnI.cells {w : World} {base g n cap : Nat} {l : List Int} (h : OwnI w base (.slice (some ⟨g, 0, none⟩) n cap) l) {k : Nat} (hk : k < l.length) :
   w.cell? ⟨g, k, none⟩ = some (.int .i64 (zth l k)) /\ w.frozen? ⟨g, k, none⟩ = false := by
 obtain ⟨g', cap', C, hv, hb, hB, hc, hm, hs, ht⟩ := h.open (by omega)
 injection hv with e1 e2 e3
 injection e1 with e1
 injection e1 with e1
 subst e1 e2 e3
 have h1 : C[k]? = some (.int .i64 (zth l k)) := by
  rw [<- Array.getElem?_toList, <- List.getElem?_take_of_lt hk, ht, vals_get hk]
 exact ⟨hB.cell k h1, hB.frozen k⟩
theorem vals_append (l m : List Int) : vals (l ++ m) = vals l ++ vals m := by unfold vals; rw [List.map_append]
theorem appV {ops : Array Oper} {rest : List Oper} {Q : Exit -> Act -> World -> Prop} {a : Act} {w : World} {d : Option Tmp} {s u : Operand} {ty : TypeId} {pos : String} {af : Array Edge} {base : Nat} {v x : Value} {l m : List Int}
   (hs : a.eval s = v) (hu : a.eval u = x) (hown : OwnI w base v l) (hV : Vw w x m) (hbase : base <= w.heap.size) (hl : l.length < 1000000) (hm : m.length < 1000000)
   (h : ∀ v' w', OwnI w' base v' (l ++ m) -> Below base w w' -> wpList Tryz.prog ops Q rest (a.put d v') w') :
   wpList Tryz.prog ops Q ({ dst := d, op := .call { callee := .builtin .append, args := #[s, u], argTypes := #[22, 22] }, type := ty, pos := pos, after := af, guard := none } :: rest) a w := by
 obtain ⟨i0, hi0, he⟩ := Option.map_eq_some_iff.1 infoI
 simp only [Prod.mk.injEq] at he
 have hlt := World.ownsRow.lt hown
 have hfin : ∀ v' w', w'.ownsRow base 2 1 v' (l.length + m.length) (vals l ++ vals m) -> w.grownBy w' v.ownBlock -> wpList Tryz.prog ops Q rest (a.put d v') w' := by
  intro v' w' h1 h2
  refine h v' w' (by unfold OwnI; rw [List.length_append, vals_append]; exact h1) ⟨h2.os, h2.tape, h2.output, h2.size, fun k hk => h2.block k (by omega) ?_⟩
  intro e
  have := hlt k e.symm
  omega
 obtain ⟨p, cap, rfl, hcap, hc⟩ := hV
 cases p with
 | none =>
   have h0 : m.length = 0 := by
    rcases Nat.eq_zero_or_pos m.length with h0 | h0
    ·exact h0
    ·obtain ⟨ad, h1, _⟩ := hc 0 h0; cases h1
   have hm0 := List.length_eq_zero_iff.1 h0
   subst hm0
   obtain rfl := hcap.2 rfl
   refine wpList_append_own_none (P := Tryz.prog) (w := w) rfl s u 22 rfl base 2 i0 1 undI hi0 v l.length (vals l) hs hown hu ?_
   exact hfin v w (by simpa [vals, OwnI] using hown) (World.grownBy.refl w _)
 | some ad =>
   have hcell : ∀ j x, (vals m)[j]? = some x -> w.cell? (ad.add j) = some x := by
    intro j x hx
    have hj : j < m.length := by
     have := (List.getElem?_eq_some_iff.1 hx).1
     unfold vals at this
     simpa using this
    obtain ⟨a2, e2, h2⟩ := hc j hj
    injection e2 with e2
    subst e2
    rw [vals_get hj] at hx
    rw [h2]; exact hx
   refine wpList_append_own w rfl s u 22 rfl base 2 i0 (.int .i64 0) 1 8 undI hi0 he.1 he.2.1 he.2.2 rfl (by decide) v l.length (vals l) hs hown ad m.length cap (vals m) hu (by unfold vals; simp) hcell ?_ (by unfold maxLen; omega) (by omega) hbase ?_
   ·intro x hx
    unfold vals at hx
    obtain ⟨z, _, rfl⟩ := List.mem_map.1 hx
    rfl
   ·intro v' w' h1 h2 _
    exact hfin v' w' h1 h2
def Errs (w : World) (u : Value) (e : Int) : Prop := (e = 0 /\ u = .nilIface) \/ (e ≠ 0 /\ ∃ t x, u = .iface t x /\ IsEr w u (.flt symB (.num e)))
theorem Errs.none_ (w : World) : Errs w .nilIface 0 := .inl ⟨rfl, rfl⟩
theorem Errs.some_ {w : World} {t : TypeId} {x : Value} {n : Int} (h0 : n ≠ 0) (h : IsEr w (.iface t x) (.flt symB (.num n))) : Errs w (.iface t x) n := .inr ⟨h0, t, x, rfl, h⟩
def rng (N i j : Int) : Bool := decide ((0 <= i /\ i < N) /\ (0 <= j /\ j < N))
def atC (N : Int) (l : List Int) (i j : Int) : Int := if rt N l then (if rng N i j then 0 else 20) else 23
def ent (N : Int) (l : List Int) (i j : Int) : Int := zth l (idx N i j).toNat
def atV (N : Int) (l : List Int) (i j : Int) : Int := if atC N l i j = 0 then ent N l i j else 0
theorem rt_spec {N : Int} {l : List Int} (h : rt N l = true) : 0 <= N /\ N <= 8 /\ (l.length : Int) = tri N /\ ∀ i, i < l.length -> fit (zth l i) = true := by
 unfold rt at h
 rw [Bool.and_eq_true] at h
 obtain ⟨h1, h2, h3⟩ := of_decide_eq_true h.1
 refine ⟨h1, h2, h3, fun i hi => ?_⟩
 rw [zth_get hi]
 exact List.all_eq_true.1 h.2 _ (List.getElem_mem hi)
theorem idx_nat {N : Int} {l : List Int} {i j : Int} (hR : rt N l = true) (hr : rng N i j = true) : ∃ k : Nat, idx N i j = (k : Int) /\ k < l.length /\ ent N l i j = zth l k := by
 obtain ⟨h1, h2, h3, _⟩ := rt_spec hR
 obtain ⟨⟨i0, i1⟩, j0, j1⟩ := of_decide_eq_true hr
 obtain ⟨x1, x2⟩ := idx_in h2 i0 i1 j0 j1
 refine ⟨(idx N i j).toNat, by omega, by omega, rfl⟩
set_option maxHeartbeats 2000000 in
theorem at_any {v : Value} {N : Int} {l : List Int} (i j : Int) {w : World} (h : Sm w v N l) :
   Calls Tryz.prog 47 #[v, .int .i64 i, .int .i64 j] w fun r w' => ∃ u, r = .returned (.tuple #[.int .i64 (atV N l i j), u]) /\ Up w w' /\ Errs w' u (atC N l i j) := by
 have HR := hid (fun w' (hu : Up w w') => sright_any (h.up hu))
 have HH := hid (fun i w' (hu : Up w w') => hasrow_any i (h.up hu))
 have HWR := hid wrong_any
 obtain ⟨s, rfl, hV, hN, hl, hlen⟩ := h
 obtain ⟨p, cap, rfl, hcap, hc⟩ := hV
 cases hR : rt N l with
 | false =>
   have e : atC N l i j = 23 := by unfold atC; rw [hR]; rfl
   have e2 : atV N l i j = 0 := by unfold atV; rw [e]; rfl
   rw [e, e2]
   rw [hR] at HR
   clear e e2 hR hc hl
   have hB := Blk.new (w := w) (b := w.heap.size) 24 #[.int .i64 N, .slice p l.length cap] rfl
   have HU := hid (Up.alloc w (.cells #[.int .i64 N, .slice p l.length cap] 24))
   go_enter Tryz.func47, Tryz.ntmps47
   go_wp2_with (first
    | ((with_reducible apply ldM_P); exact rfl; exact rfl; exact hB; exact rfl)
    | (go_at_call 22; (with_reducible refine (HR.out _ HU.out).mono ?_); rintro r w1 ⟨rfl, hu1⟩)
    | (go_at_call 67; (with_reducible refine (HWR.out _ _).mono ?_); rintro r w2 ⟨t2, u2, rfl, hu2, h2⟩))
   go_ret2
   exact ⟨_, rfl, (HU.out.trans hu1).trans hu2, Errs.some_ (by decide) h2⟩
 | true =>
   cases hr : rng N i j with
   | false =>
     have e : atC N l i j = 20 := by unfold atC; rw [hR, hr]; rfl
     have e2 : atV N l i j = 0 := by unfold atV; rw [e]; rfl
     rw [e, e2]
     rw [hR] at HR
     have hr' := of_decide_eq_false hr
     clear e e2 hR hc hl hr
     have hB := Blk.new (w := w) (b := w.heap.size) 24 #[.int .i64 N, .slice p l.length cap] rfl
     have HU := hid (Up.alloc w (.cells #[.int .i64 N, .slice p l.length cap] 24))
     cases hi : decide (0 <= i /\ i < N) with
     | false =>
       have HI := hid (fun w' (hu : Up w w') => hi ▸ HH.out i w' hu)
       clear hr' HH hi
       go_enter Tryz.func47, Tryz.ntmps47
       go_wp2_with (first
        | ((with_reducible apply ldM_P); exact rfl; exact rfl; exact hB; exact rfl)
        | (go_at_call 22; (with_reducible refine (HR.out _ HU.out).mono ?_); rintro r w1 ⟨rfl, hu1⟩; replace hB := hB.up hu1)
        | (go_at_call 68; (with_reducible refine (HI.out _ (HU.out.trans hu1)).mono ?_); rintro r w3 ⟨rfl, hu3⟩; replace hB := hB.up hu3)
        | (go_at_call 67; (with_reducible refine (HWR.out _ _).mono ?_); rintro r w2 ⟨t2, u2, rfl, hu2, h2⟩))
       go_ret2
       exact ⟨_, rfl, ((HU.out.trans hu1).trans hu3).trans hu2, Errs.some_ (by decide) h2⟩
     | true =>
       have hj : decide (0 <= j /\ j < N) = false := decide_eq_false (fun hj => hr' ⟨of_decide_eq_true hi, hj⟩)
       have HI := hid (fun w' (hu : Up w w') => hi ▸ HH.out i w' hu)
       have HJ := hid (fun w' (hu : Up w w') => hj ▸ HH.out j w' hu)
       clear hr' HH hi hj
       go_enter Tryz.func47, Tryz.ntmps47
       go_wp2_with (first
        | ((with_reducible apply ldM_P); exact rfl; exact rfl; exact hB; exact rfl)
        | (go_at_call 22; (with_reducible refine (HR.out _ HU.out).mono ?_); rintro r w1 ⟨rfl, hu1⟩; replace hB := hB.up hu1)
        | (go_at_call 68; first
           | ((with_reducible refine (HJ.out _ ((HU.out.trans hu1).trans hu3)).mono ?_); rintro r w4 ⟨rfl, hu4⟩; replace hB := hB.up hu4)
           | ((with_reducible refine (HI.out _ (HU.out.trans hu1)).mono ?_); rintro r w3 ⟨rfl, hu3⟩; replace hB := hB.up hu3))
        | (go_at_call 67; (with_reducible refine (HWR.out _ _).mono ?_); rintro r w2 ⟨t2, u2, rfl, hu2, h2⟩))
       go_ret2
       exact ⟨_, rfl, (((HU.out.trans hu1).trans hu3).trans hu4).trans hu2, Errs.some_ (by decide) h2⟩
   | true =>
     obtain ⟨k, hk, hkl, hke⟩ := idx_nat hR hr
     have e : atC N l i j = 0 := by unfold atC; rw [hR, hr]; rfl
     have e2 : atV N l i j = zth l k := by unfold atV; rw [e, <- hke]; rfl
     rw [e, e2]
     obtain ⟨r1, r2, r3, _⟩ := rt_spec hR
     obtain ⟨hi, hj⟩ := of_decide_eq_true hr
     have HX := hid (fun w => hk ▸ idx_any N i j r2 hi.1 hi.2 hj.1 hj.2 w)
     have HI := hid (fun w' (hu : Up w w') => (decide_eq_true hi) ▸ HH.out i w' hu)
     have HJ := hid (fun w' (hu : Up w w') => (decide_eq_true hj) ▸ HH.out j w' hu)
     rw [hR] at HR
     obtain ⟨ad, rfl, hcell⟩ := hc k hkl
     have HC := hid hcell
     have HU := hid (Up.alloc w (.cells #[.int .i64 N, .slice (some ad) l.length cap] 24))
     have hB := Blk.new (w := w) (b := w.heap.size) 24 #[.int .i64 N, .slice (some ad) l.length cap] rfl
     clear e e2 hR hc hl hr hk hke hi hj hcell r1 r2 r3 HH
     go_enter Tryz.func47, Tryz.ntmps47
     go_wp2_with (first
      | ((with_reducible apply ldM_P); exact rfl; exact rfl; exact hB; exact rfl)
      | (go_at_call 22; (with_reducible refine (HR.out _ HU.out).mono ?_); rintro r w1 ⟨rfl, hu1⟩; replace hB := hB.up hu1)
      | (go_at_call 68; first
         | ((with_reducible refine (HJ.out _ ((HU.out.trans hu1).trans hu3)).mono ?_); rintro r w4 ⟨rfl, hu4⟩; replace hB := hB.up hu4)
         | ((with_reducible refine (HI.out _ (HU.out.trans hu1)).mono ?_); rintro r w3 ⟨rfl, hu3⟩; replace hB := hB.up hu3)))
     have hc0 := hB.cell 0 rfl
     have hc1 := hB.cell 1 rfl
     have hcell := (((HU.out.trans hu1).trans hu3).trans hu4).cellEq HC.out
     have HU2 := hid (((HU.out.trans hu1).trans hu3).trans hu4)
     go_quiet ((go_at_call 69; exact Calls.quiet_of_same (HX.out _)))
     go_wp2_with fail
     go_ret2
     exact ⟨_, rfl, below_drewN HU2.out _, Errs.none_ _⟩
theorem OwnI.setRow {w : World} {base g : Nat} {v : Value} {l : List Int} {C D : Array Value} (h : OwnI w base v l) (hg : Blk w g 24 C) : OwnI (w.setRow g D) base v l := by
 refine ⟨h.1, ?_⟩
 rcases h.2 with h2 | ⟨b, cap, cur, h1, h2, h3, h4⟩
 ·exact .inl h2
 ·refine .inr ⟨b, cap, cur, h1, h2, ?_, h4⟩
  have hne : b ≠ g := by
   rintro rfl
   unfold Blk at hg
   rw [h3] at hg
   simp at hg
  exact Blk.row_other (t := 2) h3 D hne
theorem resMs {fn : Func} {p q : Tmp} (h : fn.results = #[.cell p 24, .tmp q]) {tmps : Array Value} {w : World} {g : Nat} {C : Array Value} {u : Value} (hp : tmps.getD p undef = .pointer (some ⟨g, 0, none⟩)) (hq : tmps.getD q undef = u) (hC : Blk w g 24 C) (h2 : C.size = 2) :
   (results fn tmps).run Tryz.prog w = .ok (.tuple #[.agg C, u]) w := by
 obtain ⟨fs, hu⟩ := undM
 rw [results_cell_tmp h, hp, hq]
 simp [asAddr, run_loadVar_row w g _ 24 C (0, 0) _ hC hu rfl (by rw [infoM, h2]), Result.andThen]
def stC (N : Int) (l : List Int) (i j v : Int) : Int := if rt N l then (if rng N i j then (if fit v then 0 else 21) else 20) else 23
def stL (N : Int) (l : List Int) (i j v : Int) : List Int := if stC N l i j v = 0 then l.set (idx N i j).toNat v else []
def stN (N : Int) (l : List Int) (i j v : Int) : Int := if stC N l i j v = 0 then N else 0
def SmO (w : World) (v : Value) (N : Int) (l : List Int) : Prop := ∃ s base, v = .agg #[.int .i64 N, s] /\ OwnI w base s l /\ I64 N /\ In64 l /\ l.length <= 1000
theorem SmO.sm {w : World} {v : Value} {N : Int} {l : List Int} (h : SmO w v N l) : Sm w v N l := by
 obtain ⟨s, base, e, h1, h2⟩ := h
 exact ⟨s, e, h1.vw, h2⟩
theorem SmO.up {w w' : World} (hu : Up w w') {v : Value} {N : Int} {l : List Int} (h : SmO w v N l) : SmO w' v N l := by
 obtain ⟨s, base, e, h1, h2⟩ := h
 exact ⟨s, base, e, h1.up hu, h2⟩
theorem SmO.setRow {w : World} {g : Nat} {v : Value} {N : Int} {l : List Int} {C D : Array Value} (h : SmO w v N l) (hg : Blk w g 24 C) : SmO (w.setRow g D) v N l := by
 obtain ⟨s, base, e, h1, h2⟩ := h
 exact ⟨s, base, e, h1.setRow hg, h2⟩
theorem SmO.zero (w : World) : SmO w (.agg #[.int .i64 0, .slice none 0 0]) 0 [] := ⟨_, 0, rfl, OwnI.nil _ _, by unfold I64; omega, fun i hi => absurd hi (Nat.not_lt_zero _), by simp⟩
def SymPost (w : World) (N : Int) (l : List Int) (e : Int) (r : Ending) (w' : World) : Prop := ∃ z u, r = .returned (.tuple #[z, u]) /\ Up w w' /\ SmO w' z N l /\ Errs w' u e
theorem SymPost.err {w w' : World} {g : Nat} {C : Array Value} {u : Value} {e : Int} (hu : Up w w') (hg : w.heap.size <= g) (hB : Blk w' g 24 C) (hE : Errs w' u e) :
   SymPost w 0 [] e (.returned (.tuple #[.agg #[.int .i64 0, .slice none 0 0], u])) (w'.setRow g #[.int .i64 0, .slice none 0 0]) := by
 refine ⟨_, _, rfl, below_setRow hu hg _, SmO.zero _, ?_⟩
 rcases hE with h | ⟨h1, t, x, rfl, h2⟩
 ·exact .inl h
 ·refine .inr ⟨h1, t, x, rfl, ?_⟩
  obtain ⟨b, v, e1, e2, e3⟩ := h2
  refine ⟨b, v, e1, e2.row_other _ ?_, e3⟩
  rintro rfl
  unfold Blk at e2 hB
  rw [hB] at e2
  simp at e2
theorem SymPost.ok {w w' : World} {g base : Nat} {C : Array Value} {s : Value} {N : Int} {l : List Int} (hu : Up w w') (hg : w.heap.size <= g) (hB : Blk w' g 24 C) (hO : OwnI w' base s l) (hN : I64 N) (hl : In64 l) (hn : l.length <= 1000) :
   SymPost w N l 0 (.returned (.tuple #[.agg #[.int .i64 N, s], .nilIface])) (w'.setRow g #[.int .i64 N, s]) :=
 ⟨_, _, rfl, below_setRow hu hg _, ⟨s, base, rfl, hO.setRow hB, hN, hl, hn⟩, Errs.none_ _⟩
theorem OwnI.slice {w : World} {base : Nat} {v : Value} {l : List Int} (h : OwnI w base v l) : ∃ p n c, v = .slice p n c := by
 obtain ⟨p, c, e, _⟩ := h.vw
 exact ⟨p, _, c, e⟩
set_option linter.unusedSimpArgs false
section
variable {P : Program} {ops : Array Oper} {Q : Exit -> Act -> World -> Prop} {md : Region.Mode}
def LeavesR (P : Program) (R : Value -> World -> Prop) (w : World) : Result Next -> Prop
 | .ok (.value u) w' => R u w' /\ Up w w'
 | .ok (.enter f args) w' => Up w w' /\ Calls P f args w' fun e w'' => Up w' w'' /\ ∃ v, e = .returned v /\ R v w''
 | _ => False
theorem leavesR_value {R : Value -> World -> Prop} {w : World} {r : Result Next} {u : Value} (h : r = .ok (.value u) w) (hR : R u w) : LeavesR P R w r := by subst h; exact ⟨hR, Up.refl _⟩
theorem lV {R : Value -> World -> Prop} {w : World} {r : Result Next} (u : Value) (h : r = .ok (.value u) w := by first | (go_simp; done) | (go_simp; exact rfl)) (hR : R u w := by exact rfl) : LeavesR P R w r := leavesR_value h hR
theorem leavesR_call {R : Value -> World -> Prop} {w : World} {r : Result Next} {f : FuncId} {args : Array Value} (h : r = .ok (.enter f args) w) (hc : Calls P f args w fun e w'' => Up w w'' /\ ∃ v, e = .returned v /\ R v w'') : LeavesR P R w r := by subst h; exact ⟨Up.refl _, hc⟩
def relB (md : Region.Mode) (ops : Array Oper) (n st : Nat) : Bool :=
 ((List.range ops.size).all fun i => ((ops[i]?).map fun o => o.guard.isNone && (o.after.all fun e => !Region.binds md e || decide (e.on < i)) &&
   (if i = st then o.dst.isNone else ((o.dst.map fun d => decide (d < n)).getD false) && (List.range ops.size).all fun j => j == i || ((ops[j]?).map fun o' => o'.dst != o.dst).getD true)).getD false) &&
 (decide (ops.size <= st) || (List.range ops.size).all fun j => j == st || waitsU md ops j ops.size st)
structure RelEv (ops : Array Oper) (md : Region.Mode) (R : Nat -> Value -> World -> Prop) (a0 : Act) (o : Oper) (ev : Operand -> Value) (w : World) : Prop where
 const : ∀ c, ev (.const c) = c
 func : ∀ f, ev (.func f) = .func (.func f) #[] #[]
 global : ∀ g, ev (.global g) = .pointer (some ⟨g, 0, none⟩)
 other : ∀ s, (∀ o' ∈ ops, o'.dst ≠ some s) -> ev (.tmp s) = a0.eval (.tmp s)
 dep : ∀ j o' d, ops[j]? = some o' -> (∃ e ∈ o.after, Region.binds md e = true /\ e.on = j) -> o'.dst = some d -> R j (ev (.tmp d)) w
structure RelInv (ops : Array Oper) (R : Nat -> Value -> World -> Prop) (a0 : Act) (listed : Array Bool) (a : Act) (w : World) : Prop where
 defers : a.defers = a0.defers
 size : a.tmps.size = a0.tmps.size
 lsize : listed.size = ops.size
 other : ∀ s, (∀ o' ∈ ops, o'.dst ≠ some s) -> a.tmps[s]? = a0.tmps[s]?
 done : ∀ i o d, ops[i]? = some o -> listed.getD i false = true -> o.dst = some d -> R i (a.tmps.getD d undef) w
theorem relB_op {n st : Nat} (h : relB md ops n st = true) {i : Nat} {o : Oper} (hi : ops[i]? = some o) :
   o.guard = none /\ (∀ e ∈ o.after, Region.binds md e = true -> e.on < i) /\ (i = st -> o.dst = none) /\
   (i ≠ st -> ∃ d, o.dst = some d /\ d < n /\ ∀ j o', ops[j]? = some o' -> j ≠ i -> o'.dst ≠ some d) := by
 unfold relB at h
 rw [Bool.and_eq_true] at h
 have hlt : i < ops.size := (Array.getElem?_eq_some_iff.1 hi).1
 have h1 := List.all_eq_true.1 h.1 i (List.mem_range.2 hlt)
 rw [hi] at h1
 simp only [Option.map_some, Option.getD_some, Bool.and_eq_true] at h1
 obtain ⟨⟨h2, h3⟩, h4⟩ := h1
 refine ⟨Option.isNone_iff_eq_none.1 h2, fun e he hb => ?_, fun hs => ?_, fun hs => ?_⟩
 ·have := Array.all_eq_true_iff_forall_mem.1 h3 e he
  simpa [hb] using this
 ·rw [if_pos hs] at h4
  exact Option.isNone_iff_eq_none.1 h4
 ·rw [if_neg hs, Bool.and_eq_true] at h4
  cases hd : o.dst with
  | none => rw [hd] at h4; simp at h4
  | some d =>
    rw [hd] at h4
    refine ⟨d, rfl, by simpa using h4.1, fun j o' hj hji => ?_⟩
    have h5 := List.all_eq_true.1 h4.2 j (List.mem_range.2 (Array.getElem?_eq_some_iff.1 hj).1)
    rw [hj] at h5
    simp only [Option.map_some, Option.getD_some, Bool.or_eq_true, beq_iff_eq, bne_iff_ne] at h5
    exact h5.resolve_left hji
theorem relB_store {n st : Nat} (h : relB md ops n st = true) {j : Nat} (hj : j < ops.size) (hs : st < ops.size) (hne : j ≠ st) : waitsU md ops j ops.size st = true := by
 unfold relB at h
 rw [Bool.and_eq_true, Bool.or_eq_true] at h
 rcases h.2 with h2 | h2
 ·have := of_decide_eq_true h2; omega
 ·have := List.all_eq_true.1 h2 j (List.mem_range.2 hj)
  simpa [hne] using this
def leftU (n : Nat) (listed : Array Bool) : Nat := ((List.range n).filter fun j => !listed.getD j true).length
theorem leftU_set {n i : Nat} {listed : Array Bool} (hi : i < n) (hl : listed.getD i true = false) : leftU n (listed.setIfInBounds i true) + 1 <= leftU n listed := by
 unfold leftU
 rw [<- List.countP_eq_length_filter, <- List.countP_eq_length_filter]
 have hsz : i < listed.size := by
  rcases Nat.lt_or_ge i listed.size with h | h
  ·exact h
  ·simp [Array.getElem?_eq_none h] at hl
 have key : ∀ m, i < m -> (List.range m).countP (fun j => !(listed.setIfInBounds i true).getD j true) + 1 <= (List.range m).countP (fun j => !listed.getD j true) := by
  intro m
  induction m with
  | zero => intro h; omega
  | succ m ih =>
    intro h
    rw [List.range_succ, List.countP_append, List.countP_append]
    simp only [List.countP_cons, List.countP_nil, Nat.zero_add]
    by_cases him : i = m
    ·subst him
     have e0 : (List.range i).countP (fun j => !(listed.setIfInBounds i true).getD j true) = (List.range i).countP (fun j => !listed.getD j true) := by
      apply List.countP_congr
      intro j hj
      have hji : i ≠ j := by have := List.mem_range.1 hj; omega
      rw [getD_set_ne true hji]
     rw [e0, hl]
     have e1 : (listed.setIfInBounds i true).getD i true = true := by simp [hsz]
     rw [e1]
     simp
    ·have := ih (by omega)
     rw [getD_set_ne true him]
     omega
 exact key n hi
theorem leftU_zero {n : Nat} {listed : Array Bool} (h : leftU n listed = 0) {j : Nat} (hj : j < n) : listed.getD j true = true := by
 unfold leftU at h
 have := List.filter_eq_nil_iff.1 (List.length_eq_zero_iff.1 h) j (List.mem_range.2 hj)
 simpa using this
theorem exists_ready {n st : Nat} (hB : relB md ops n st = true) {listed : Array Bool} (hs : listed.size = ops.size) : ∀ k, k < ops.size -> listed.getD k true = false -> ∃ i, i ∈ Region.ready md ops listed := by
 intro k
 induction k using Nat.strongRecOn with
 | _ k ih =>
   intro hk hl
   obtain ⟨o, ho⟩ : ∃ o, ops[k]? = some o := ⟨ops[k], Array.getElem?_eq_getElem hk⟩
   obtain ⟨_, h2, _⟩ := relB_op hB ho
   by_cases hall : ∀ e ∈ o.after, Region.binds md e = true -> listed.getD e.on false = true
   ·exact ⟨k, mem_ready.2 ⟨hl, o, ho, hall⟩⟩
   ·obtain ⟨e, hne⟩ := Classical.not_forall.1 hall
    obtain ⟨he, hne⟩ := Classical.not_imp.1 hne
    obtain ⟨hb, hne⟩ := Classical.not_imp.1 hne
    have hlt := h2 e he hb
    refine ih e.on hlt (by omega) ?_
    have hsz : e.on < listed.size := by omega
    simp [hsz] at hne ⊢
    exact hne
theorem wpAny_rel {n st : Nat} {R : Nat -> Value -> World -> Prop} {S : World -> Prop} {a0 : Act} {w0 : World} (hn : a0.tmps.size = n) (hB : relB md ops n st = true)
   (hR : ∀ i v w w', R i v w -> Up w w' -> R i v w') (hS : ∀ w w', S w -> Up w w' -> S w')
   (hop : ∀ i o, ops[i]? = some o -> i ≠ st -> ∀ ev w, S w -> RelEv ops md R a0 o ev w -> LeavesR P (R i) w ((execOp ev o).run P w))
   (hfin : ∀ a w, a.tmps.size = a0.tmps.size -> a.defers = a0.defers -> (∀ s, (∀ o' ∈ ops, o'.dst ≠ some s) -> a.tmps[s]? = a0.tmps[s]?) -> (∀ i o d, ops[i]? = some o -> i ≠ st -> o.dst = some d -> R i (a.tmps.getD d undef) w) -> S w -> Up w0 w ->
    (ops.size <= st -> Q .normal a w) /\ (∀ o, ops[st]? = some o -> Oper.wp P o a w (Q .normal) Q)) :
   ∀ (fuel : Nat) (listed : Array Bool) (a : Act) (w : World), leftU ops.size listed <= fuel -> closedU md ops listed -> (st < ops.size -> listed.getD st true = false) -> RelInv ops R a0 listed a w -> S w -> Up w0 w -> wpAny P md ops Q fuel listed a w := by
 intro fuel
 induction fuel with
 | zero =>
   intro listed a w hf hcl hst hI hSw hu
   have hz := fun {j} => leftU_zero (listed := listed) (n := ops.size) (by omega) (j := j)
   have hst' : ops.size <= st := by
    rcases Nat.lt_or_ge st ops.size with h | h
    ·have := hst h; rw [hz h] at this; cases this
    ·exact h
   refine ⟨?_, ?_⟩
   ·cases hrd : Region.ready md ops listed with
    | nil => rfl
    | cons i l =>
      obtain ⟨h1, o, ho, _⟩ := mem_ready.1 (show i ∈ Region.ready md ops listed by rw [hrd]; exact List.mem_cons_self)
      rw [hz (Array.getElem?_eq_some_iff.1 ho).1] at h1
      cases h1
   ·refine (hfin a w hI.size hI.defers hI.other (fun i o d ho hi hd => hI.done i o d ho ?_ hd) hSw hu).1 hst'
    have h1 := hz (Array.getElem?_eq_some_iff.1 ho).1
    have h2 : i < listed.size := by rw [hI.lsize]; exact (Array.getElem?_eq_some_iff.1 ho).1
    simp [h2] at h1 ⊢
    exact h1
 | succ fuel ih =>
   intro listed a w hf hcl hst hI hSw hu
   have hcase : Region.ready md ops listed = [] -> ∀ j, j < ops.size -> listed.getD j true = true := by
    intro hr j hj
    cases hl : listed.getD j true with
    | true => rfl
    | false =>
      obtain ⟨i, hi⟩ := exists_ready hB hI.lsize j hj hl
      rw [hr] at hi
      cases hi
   have hfull : ∀ (hz : ∀ j, j < ops.size -> j ≠ st -> listed.getD j true = true) (i : Nat) (o : Oper) (d : Tmp), ops[i]? = some o -> i ≠ st -> o.dst = some d -> R i (a.tmps.getD d undef) w := by
    intro hz i o d ho hi hd
    refine hI.done i o d ho ?_ hd
    have h1 := hz i (Array.getElem?_eq_some_iff.1 ho).1 hi
    have h2 : i < listed.size := by rw [hI.lsize]; exact (Array.getElem?_eq_some_iff.1 ho).1
    simp [h2] at h1 ⊢
    exact h1
   refine ⟨fun hr => ?_, fun i hi => ?_⟩
   ·have hz := hcase hr
    have hst' : ops.size <= st := by
     rcases Nat.lt_or_ge st ops.size with h | h
     ·have := hst h; rw [hz st h] at this; cases this
     ·exact h
    exact (hfin a w hI.size hI.defers hI.other (hfull fun j hj _ => hz j hj) hSw hu).1 hst'
   ·obtain ⟨hun, o, ho, hall⟩ := mem_ready.1 hi
    have hlt : i < ops.size := (Array.getElem?_eq_some_iff.1 ho).1
    obtain ⟨hg, _, hdn, hds⟩ := relB_op hB ho
    have hw : Region.wanted o (yielded ops a.tmps) = true := by simp [Region.wanted, hg]
    unfold wpOp
    simp only [ho, hw, if_true]
    refine .inl ?_
    by_cases his : i = st
    ·subst his
     have hz : ∀ j, j < ops.size -> j ≠ i -> listed.getD j true = true := by
      intro j hj hne
      have h1 := waitsU_spec hcl ops.size i o ho hall (relB_store hB hj hlt hne)
      have h2 : j < listed.size := by rw [hI.lsize]; exact hj
      simp [h2] at h1 ⊢
      exact h1
     have h1 := (hfin a w hI.size hI.defers hI.other (hfull hz) hSw hu).2 o ho
     have hnil : Region.ready md ops (listed.setIfInBounds i true) = [] := by
      cases hrd : Region.ready md ops (listed.setIfInBounds i true) with
      | nil => rfl
      | cons k l =>
        obtain ⟨h1, ok, hok, _⟩ := mem_ready.1 (show k ∈ Region.ready md ops (listed.setIfInBounds i true) by rw [hrd]; exact List.mem_cons_self)
        have hk : k < ops.size := (Array.getElem?_eq_some_iff.1 hok).1
        by_cases hki : k = i
        ·subst hki
         have h2 : k < listed.size := by rw [hI.lsize]; exact hk
         simp [h2] at h1
        ·rw [getD_set_ne true (Ne.symm hki), hz k hk hki] at h1
         cases h1
     refine Oper.wp_mono (fun a' w' hq => ?_) h1
     cases fuel with
     | zero => exact ⟨hnil, hq⟩
     | succ f => exact ⟨fun _ => hq, by rw [hnil]; intro j hj; cases hj⟩
    ·obtain ⟨d, hd, hdl, hdd⟩ := hds his
     have hev : RelEv ops md R a0 o a.eval w := by
      refine ⟨fun _ => rfl, fun _ => rfl, fun _ => rfl, fun s hs => ?_, fun j o' d' hj he hd' => ?_⟩
      ·show a.tmps.getD s undef = a0.tmps.getD s undef
       rw [Array.getD_eq_getD_getElem?, Array.getD_eq_getD_getElem?, hI.other s hs]
      ·obtain ⟨e, he, hb, rfl⟩ := he
       exact hI.done e.on o' d' hj (hall e he hb) hd'
     have h1 := hop i o ho his a.eval w hSw hev
     have hnext : ∀ v w', R i v w' -> Up w w' -> wpAny P md ops Q fuel (listed.setIfInBounds i true) (a.put o.dst v) w' := by
      intro v w' hv hu'
      refine ih _ _ _ ?_ (closedU_set hcl hi) (fun h => ?_) ?_ (hS _ _ hSw hu') (hu.trans hu')
      ·have := leftU_set (n := ops.size) hlt hun; omega
      ·rw [getD_set_ne true his]; exact hst h
      ·rw [hd]
       refine ⟨hI.defers, by simp [Act.put, hI.size], by simp [hI.lsize], fun s hs => ?_, fun j o' d' hj hl hd' => ?_⟩
       ·have hne : d ≠ s := by
         rintro rfl
         obtain ⟨hx, hy⟩ := Array.getElem?_eq_some_iff.1 ho
         exact hs o (by rw [<- hy]; exact Array.getElem_mem hx) hd
        rw [<- hI.other s hs]
        simp [Act.put, hne]
       ·by_cases hji : j = i
        ·subst hji
         rw [ho] at hj
         obtain rfl := Option.some.inj hj
         rw [hd] at hd'
         obtain rfl := Option.some.inj hd'
         have hds : d < a.tmps.size := by rw [hI.size, hn]; exact hdl
         have e : ((a.put (some d) v).tmps.getD d undef) = v := by simp [Act.put, hds]
         rw [e]
         exact hv
        ·have hne : d ≠ d' := fun e => hdd j o' hj hji (by rw [hd', e])
         rw [getD_set_ne false (Ne.symm hji)] at hl
         have e : ((a.put (some d) v).tmps.getD d' undef) = a.tmps.getD d' undef := by
          rw [Array.getD_eq_getD_getElem?, Array.getD_eq_getD_getElem?]
          simp [Act.put, hne]
         rw [e]
         exact hR j _ _ _ (hI.done j o' d' hj hl hd') hu'
     unfold Oper.wp
     generalize (execOp a.eval o).run P w = r at *
     cases r with
     | halt x w' => exact h1.elim
     | ok nx w' =>
       cases nx with
       | value u => exact hnext u w' h1.1 h1.2
       | enter f args =>
         obtain ⟨hu', hc⟩ := h1
         refine Calls.mono hc fun e w'' he => ?_
         obtain ⟨hu2, v, rfl, hv⟩ := he
         exact hnext v w'' hv (hu'.trans hu2)
       | _ => exact h1.elim
def putL (a : Act) : List (Tmp × Value) -> Act
 | [] => a
 | p :: l => putL (a.put (some p.1) p.2) l
theorem putL_size (l : List (Tmp × Value)) : ∀ a : Act, (putL a l).tmps.size = a.tmps.size := by
 induction l with
 | nil => intro a; rfl
 | cons p l ih => intro a; show (putL _ l).tmps.size = _; rw [ih]; simp [Act.put]
theorem putL_defers (l : List (Tmp × Value)) : ∀ a : Act, (putL a l).defers = a.defers := by
 induction l with
 | nil => intro a; rfl
 | cons p l ih => intro a; show (putL _ l).defers = _; rw [ih]; rfl
theorem putL_get (g : Nat -> Value) (ds : List Tmp) : ∀ (a : Act) (s : Tmp), s < a.tmps.size -> (putL a (ds.map fun d => (d, g d))).tmps[s]? = if s ∈ ds then some (g s) else a.tmps[s]? := by
 induction ds with
 | nil => intro a s _; simp [putL]
 | cons d ds ih =>
   intro a s hs
   show (putL (a.put (some d) (g d)) (ds.map fun d => (d, g d))).tmps[s]? = _
   rw [ih _ _ (by simpa [Act.put] using hs)]
   by_cases h1 : s ∈ ds
   ·simp [h1]
   ·by_cases h2 : s = d
    ·subst h2; simp [Act.put, hs, h1]
    ·simp [h1, h2, Act.put, Ne.symm h2]
theorem putL_eq {a a0 : Act} {ds : List Tmp} (hs : a.tmps.size = a0.tmps.size) (hd : a.defers = a0.defers) (ho : ∀ s, s ∉ ds -> a.tmps[s]? = a0.tmps[s]?) :
   a = putL a0 (ds.map fun d => (d, a.tmps.getD d undef)) := by
 have h1 : a.tmps = (putL a0 (ds.map fun d => (d, a.tmps.getD d undef))).tmps := by
  apply Array.ext_getElem?
  intro s
  rcases Nat.lt_or_ge s a0.tmps.size with hlt | hge
  ·rw [putL_get (fun d => a.tmps.getD d undef) ds a0 s hlt]
   by_cases h : s ∈ ds
   ·simp [h, hs, hlt]
   ·simp [h, ho s h]
  ·rw [Array.getElem?_eq_none (by omega), Array.getElem?_eq_none (by rw [putL_size]; exact hge)]
 have h2 := putL_defers (ds.map fun d => (d, a.tmps.getD d undef)) a0
 cases a with
 | mk t f =>
   generalize hp : putL a0 (ds.map fun d => (d, (Act.mk t f).tmps.getD d undef)) = b at *
   cases b
   simp only at h1 hd h2
   rw [h1, hd, h2]
theorem wp_region_rel {id : Nat} {a0 : Act} {w0 : World} {n : Nat} (st : Nat) (ds : List Tmp) (R : Nat -> Value -> World -> Prop) (S : World -> Prop) (hm : P.follows .mixedOrders = true) (hn : a0.tmps.size = n) (hB : relB .any ops n st = true)
   (hds : ∀ o ∈ ops, ∀ d, o.dst = some d -> d ∈ ds)
   (hR : ∀ i v w w', R i v w -> Up w w' -> R i v w') (hS : ∀ w w', S w -> Up w w' -> S w') (h0 : S w0)
   (hop : ∀ i o, ops[i]? = some o -> i ≠ st -> ∀ ev w, S w -> RelEv ops .any R a0 o ev w -> LeavesR P (R i) w ((execOp ev o).run P w))
   (hfin : ∀ (g : Tmp -> Value) w, (∀ i o d, ops[i]? = some o -> i ≠ st -> o.dst = some d -> R i (g d) w) -> S w -> Up w0 w ->
    (ops.size <= st -> Q .normal (putL a0 (ds.map fun d => (d, g d))) w) /\ (∀ o, ops[st]? = some o -> Oper.wp P o (putL a0 (ds.map fun d => (d, g d))) w (Q .normal) Q)) :
   (Code.region id ops true).wp P Q a0 w0 := by
 refine wp_region_any hm (wpAny_rel hn hB hR hS hop (fun a w hs hd ho hr hSw hu => ?_) _ _ _ _ ?_ ?_ ?_ ?_ (hS _ _ h0 (Up.drew w0)) (Up.drew w0))
 ·rw [putL_eq (ds := ds) hs hd (fun s hs' => ho s fun o' hm he => hs' (hds o' hm s he))]
  exact hfin (fun d => a.tmps.getD d undef) w hr hSw hu
 ·unfold leftU; exact Nat.le_trans (List.length_filter_le _ _) (by simp)
 ·intro j oj hj hl
  have : j < ops.size := (Array.getElem?_eq_some_iff.1 hj).1
  simp [this] at hl
 ·intro h; simp [h]
 ·refine ⟨rfl, rfl, by simp, fun _ _ => rfl, fun i o d ho hl _ => ?_⟩
  have : i < ops.size := (Array.getElem?_eq_some_iff.1 ho).1
  simp [this] at hl
structure SP where
 p : Value -> World -> Prop
 up : ∀ v w w', p v w -> Up w w' -> p v w'
def SP.is (c : Value) : SP := ⟨fun v _ => v = c, fun _ _ _ h _ => h⟩
def SP.any : SP := ⟨fun _ _ => True, fun _ _ _ h _ => h⟩
def SP.of (p : Value -> World -> Prop) (up : ∀ v w w', p v w -> Up w w' -> p v w') : SP := ⟨p, up⟩
def nthR (L : List SP) (i : Nat) (v : Value) (w : World) : Prop := (L.getD i SP.any).p v w
def freeB (ops : Array Oper) (s : Tmp) : Bool := ops.all fun o => o.dst != some s
def depB (md : Region.Mode) (ops : Array Oper) (i j : Nat) (d : Tmp) : Bool :=
 match ops[i]?, ops[j]? with
 | some o, some o' => (o.after.any fun e => Region.binds md e && e.on == j) && o'.dst == some d
 | _, _ => false
def dstB (ops : Array Oper) (j : Nat) (d : Tmp) : Bool := match ops[j]? with | some o' => o'.dst == some d | none => false
def dsB (ops : Array Oper) (ds : List Tmp) : Bool := ops.all fun o => match o.dst with | some d => ds.contains d | none => true
structure EvR (ops : Array Oper) (L : List SP) (a0 : Act) (i : Nat) (ev : Operand -> Value) (w : World) : Prop where
 const : ∀ c, ev (.const c) = c
 func : ∀ f, ev (.func f) = .func (.func f) #[] #[]
 global : ∀ g, ev (.global g) = .pointer (some ⟨g, 0, none⟩)
 other : ∀ s, freeB ops s = true -> ev (.tmp s) = a0.eval (.tmp s)
 dep : ∀ j d, depB .any ops i j d = true -> nthR L j (ev (.tmp d)) w
theorem wp_region_sp {id : Nat} {a0 : Act} {w0 : World} {n : Nat} (st : Nat) (ds : List Tmp) (L : List SP) (S : World -> Prop) (hm : P.follows .mixedOrders = true) (hn : a0.tmps.size = n) (hB : relB .any ops n st = true)
   (hds : dsB ops ds = true) (hS : ∀ w w', S w -> Up w w' -> S w') (h0 : S w0)
   (hop : ∀ ev w, S w -> ∀ i o, i ≠ st -> ops[i]? = some o -> EvR ops L a0 i ev w -> LeavesR P (nthR L i) w ((execOp ev o).run P w))
   (hfin : ∀ (g : Tmp -> Value) w, (∀ i d, i ≠ st -> dstB ops i d = true -> nthR L i (g d) w) -> S w -> Up w0 w ->
    (ops.size <= st -> Q .normal (putL a0 (ds.map fun d => (d, g d))) w) /\ (∀ o, ops[st]? = some o -> Oper.wp P o (putL a0 (ds.map fun d => (d, g d))) w (Q .normal) Q)) :
   (Code.region id ops true).wp P Q a0 w0 := by
 refine wp_region_rel (n := n) st ds (nthR L) S hm hn hB (fun o ho d hd => ?_) (fun i v w w' h hu => (L.getD i SP.any).up v w w' h hu) hS h0 (fun i o hi hne ev w hSw hev => ?_) (fun g w hr => hfin g w fun i d hne hd => ?_)
 ·have := Array.all_eq_true_iff_forall_mem.1 hds o ho
  simpa [hd] using this
 ·refine hop ev w hSw i o hne hi ⟨hev.const, hev.func, hev.global, fun s hs => hev.other s fun o' ho' => ?_, fun j d hj => ?_⟩
  ·have := Array.all_eq_true_iff_forall_mem.1 hs o' ho'
   simpa using this
  ·unfold depB at hj
   rw [hi] at hj
   cases hoj : ops[j]? with
   | none => rw [hoj] at hj; cases hj
   | some o' =>
     rw [hoj] at hj
     simp only [Bool.and_eq_true, Array.any_eq_true', beq_iff_eq] at hj
     obtain ⟨⟨e, he, hb, hon⟩, hd⟩ := hj
     exact hev.dep j o' d hoj ⟨e, he, hb, hon⟩ hd
 ·unfold dstB at hd
  cases ho : ops[i]? with
  | none => rw [ho] at hd; cases hd
  | some o' =>
    rw [ho] at hd
    exact hr i o' d ho hne (by simpa using hd)
end
theorem leavesR_app {o : Oper} {ev : Operand -> Value} {w : World} {s u : Operand} {base : Nat} {v x : Value} {l m : List Int} {R : Value -> World -> Prop}
   (ho : o.op = .call { callee := .builtin .append, args := #[s, u], argTypes := #[22, 22] })
   (hs : ev s = v) (hu : ev u = x) (hown : OwnI w base v l) (hV : Vw w x m) (hbase : base <= w.heap.size) (hv : ∀ g, v.ownBlock = some g -> w.heap.size <= g) (hl : l.length < 1000000) (hm : m.length < 1000000)
   (hR : ∀ v' w', OwnI w' base v' (l ++ m) -> R v' w') : LeavesR Tryz.prog R w ((execOp ev o).run Tryz.prog w) := by
 obtain ⟨i0, hi0, he⟩ := Option.map_eq_some_iff.1 infoI
 simp only [Prod.mk.injEq] at he
 have hrun : ∀ {v' : Value} {w' : World}, (Builtin.append_ #[22, 22] o.type #[v, x]).run Tryz.prog w = .ok v' w' -> (execOp ev o).run Tryz.prog w = .ok (.value v') w' := by
  intro v' w' h
  unfold execOp
  simp only [ho, resolve, invoke, builtin, Sem.run_bind, Sem.run_pure, Result.andThen_ok, List.map_toArray, List.map_cons, List.map_nil, hs, hu, h]
 have hup : ∀ w', w.grownBy w' v.ownBlock -> Up w w' := fun w' h2 => ⟨h2.os, h2.tape, h2.output, h2.size, fun k hk => h2.block k hk (fun e => by have := hv k e.symm; omega)⟩
 obtain ⟨p, cap, rfl, hcap, hc⟩ := hV
 cases p with
 | none =>
   have h0 : m.length = 0 := by
    rcases Nat.eq_zero_or_pos m.length with h0 | h0
    ·exact h0
    ·obtain ⟨ad, h1, _⟩ := hc 0 h0; cases h1
   have hm0 := List.length_eq_zero_iff.1 h0
   subst hm0
   obtain rfl := hcap.2 rfl
   rw [hrun (run_append_owned_none (P := Tryz.prog) (w := w) base 22 o.type 2 i0 1 undI hi0 v l.length (vals l) hown)]
   exact ⟨hR v w (by simpa using hown), Up.refl _⟩
 | some ad =>
   have hcell : ∀ j x, (vals m)[j]? = some x -> w.cell? (ad.add j) = some x := by
    intro j x hx
    have hj : j < m.length := by
     have := (List.getElem?_eq_some_iff.1 hx).1
     unfold vals at this
     simpa using this
    obtain ⟨a2, e2, h2⟩ := hc j hj
    injection e2 with e2
    subst e2
    rw [vals_get hj] at hx
    rw [h2]; exact hx
   obtain ⟨v', w', h1, h2, h3, _⟩ := run_append_own_at (P := Tryz.prog) w base 22 o.type 2 i0 (.int .i64 0) 1 8 undI hi0 he.1 he.2.1 he.2.2 rfl (by decide) v l.length (vals l) hown ad m.length cap (vals m) (by unfold vals; simp) hcell
    (by intro x hx; unfold vals at hx; obtain ⟨z, _, rfl⟩ := List.mem_map.1 hx; rfl) (by unfold maxLen; omega) (by omega) hbase
   rw [hrun h1]
   exact ⟨hR v' w' (by unfold OwnI; rw [List.length_append, vals_append]; exact h2), hup w' h3⟩
set_option maxHeartbeats 1000000 in
theorem copy_any {v : Value} {N : Int} {l : List Int} {w : World} (h : Sm w v N l) :
   Calls Tryz.prog 17 #[v] w fun r w' => ∃ s, r = .returned (.agg #[.int .i64 N, s]) /\ Up w w' /\ OwnI w' w.heap.size s l := by
 obtain ⟨s, rfl, hV, hN, hl, hlen⟩ := h
 obtain ⟨p, cap, hs, _⟩ := hV
 subst hs
 obtain ⟨W0, hW0⟩ : ∃ W0, (w.alloc (.cells #[.int .i64 N, .slice p l.length cap] 24)).alloc (.cells #[.int .i64 0, .slice none 0 0] 24) = W0 := ⟨_, rfl⟩
 have hB : Blk W0 w.heap.size 24 #[.int .i64 N, .slice p l.length cap] := by rw [<- hW0]; exact (Blk.new _ _ rfl).old _
 have hQ : Blk W0 (w.heap.size + 1) 24 #[.int .i64 0, .slice none 0 0] := by rw [<- hW0]; exact Blk.new _ _ (by simp)
 have hU : Up w W0 := by rw [<- hW0]; exact (Up.alloc _ _).trans (Up.alloc _ _)
 have hV0 : Vw W0 (.slice p l.length cap) l := Vw.up hU ⟨p, cap, rfl, by assumption⟩
 go_enter Tryz.func17, Tryz.ntmps17
 go_wp2_with fail
 clear hW0
 refine wp_region_sp (n := 9) 6 [3, 4, 5, 6, 7, 8] [SP.is (.pointer (some ⟨w.heap.size, 0, none⟩)), SP.is (.int .i64 N), SP.is (.pointer (some ⟨w.heap.size, 1, none⟩)), SP.is (.slice p l.length cap), SP.of (fun v w1 => OwnI w1 w.heap.size v l) (fun _ _ _ h hu => OwnI.up hu h), SP.of (fun v w1 => ∃ s, v = .agg #[.int .i64 N, s] /\ OwnI w1 w.heap.size s l) (fun _ _ _ h hu => h.imp fun _ k => ⟨k.1, OwnI.up hu k.2⟩), SP.any] (fun wq => Blk wq w.heap.size 24 #[.int .i64 N, .slice p l.length cap] /\ Blk wq (w.heap.size + 1) 24 #[.int .i64 0, .slice none 0 0] /\ Vw wq (.slice p l.length cap) l /\ Below w.heap.size w wq) (by kernel_rfl) (by rfl) (by kernel_rfl) (by kernel_rfl) (fun _ _ h hu => ⟨(h.1).up hu, (h.2.1).up hu, (h.2.2.1).up hu, below_up (h.2.2.2) hu⟩) ⟨(by first | assumption | exact gBlk), (by first | assumption | exact gBlk), (by assumption), gUp⟩ (fun ev w9 hS9 i o hne hi hev => ?_) (fun gR wE hq hSE huE => ?_)
 ·have ⟨hS1, hS2, hS3, hSB⟩ := hS9
  have hcC := hev.const
  have hcF := hev.func
  have hcG := hev.global
  rcases i with _ | _ | _ | _ | _ | _ | _ | i
  ·obtain rfl := oI hi
   have e1 := hev.other 1 (by kernel_rfl)
   simp [Act.eval] at e1
   exact lV (.pointer (some ⟨w.heap.size, 0, none⟩))
  ·obtain rfl := oI hi
   have e3 : ev (.tmp 3) = (.pointer (some ⟨w.heap.size, 0, none⟩)) := hev.dep 0 3 (by kernel_rfl)
   have hc0 := hS1.cell 0 rfl; exact leavesR_value (u := .int .i64 N) (by go_simp) rfl
  ·obtain rfl := oI hi
   have e1 := hev.other 1 (by kernel_rfl)
   simp [Act.eval] at e1
   exact lV (.pointer (some ⟨w.heap.size, 1, none⟩))
  ·obtain rfl := oI hi
   have e5 : ev (.tmp 5) = (.pointer (some ⟨w.heap.size, 1, none⟩)) := hev.dep 2 5 (by kernel_rfl)
   have hc0 := hS1.cell 1 rfl; exact leavesR_value (u := .slice p l.length cap) (by go_simp) rfl
  ·obtain rfl := oI hi
   have e6 : ev (.tmp 6) = (.slice p l.length cap) := hev.dep 3 6 (by kernel_rfl)
   exact leavesR_app (l := []) rfl (hcC _) e6 (OwnI.nil _ _) hS3 hSB.size (fun g h => by cases h) (by simp) (by omega) (fun _ _ h => h)
  ·obtain rfl := oI hi
   have e4 : ev (.tmp 4) = (.int .i64 N) := hev.dep 1 4 (by kernel_rfl)
   have e7 : (fun v w1 => OwnI w1 w.heap.size v l) (ev (.tmp 7)) w9 := hev.dep 4 7 (by kernel_rfl)
   dsimp only at e7
   obtain ⟨v7, hv7⟩ : ∃ v, ev (.tmp 7) = v := ⟨_, rfl⟩
   rw [hv7] at e7
   obtain ⟨p7, n7, c7, rfl⟩ := OwnI.slice e7; exact leavesR_value (u := .agg #[.int .i64 N, .slice p7 n7 c7]) (by go_simp) ⟨_, rfl, e7⟩
  ·exact absurd rfl hne
  ·exact absurd (show i + 7 < 7 from (Array.getElem?_eq_some_iff.1 hi).1) (by omega)
 have ⟨hS1, hS2, hS3, hSB⟩ := hSE
 have q0 : gR 3 = (.pointer (some ⟨w.heap.size, 0, none⟩)) := hq 0 3 (by decide) (by kernel_rfl)
 have q1 : gR 4 = (.int .i64 N) := hq 1 4 (by decide) (by kernel_rfl)
 have q2 : gR 5 = (.pointer (some ⟨w.heap.size, 1, none⟩)) := hq 2 5 (by decide) (by kernel_rfl)
 have q3 : gR 6 = (.slice p l.length cap) := hq 3 6 (by decide) (by kernel_rfl)
 have q4 : (fun v w1 => OwnI w1 w.heap.size v l) (gR 7) wE := hq 4 7 (by decide) (by kernel_rfl)
 dsimp only at q4
 obtain ⟨v7, hv7⟩ : ∃ v, gR 7 = v := ⟨_, rfl⟩
 rw [hv7] at q4
 have q5 : (fun v w1 => ∃ s, v = .agg #[.int .i64 N, s] /\ OwnI w1 w.heap.size s l) (gR 8) wE := hq 5 8 (by decide) (by kernel_rfl)
 dsimp only at q5
 obtain ⟨v8, hv8⟩ : ∃ v, gR 8 = v := ⟨_, rfl⟩
 rw [hv8] at q5
 refine ⟨fun h => absurd h (by decide), fun o ho => ?_⟩
 obtain rfl := oI ho
 simp only [putL, List.map_cons, List.map_nil, q0, q1, q2, q3, hv7, hv8, Act.put, pu1, pu2, pu3]
 clear hq hSE q0 q1 q2 q3
 obtain ⟨sR, rfl, hO⟩ := q5
 obtain ⟨p7, n7, c7, rfl⟩ := OwnI.slice hO
 refine wp_stM rfl rfl rfl rfl hS2 rfl rfl (two2 _ _ _ _ _) ?_
 go_wp2_with fail
 exact bodyPost_ret (resM rfl rfl (hS2.setRow _) rfl) rfl ⟨_, rfl, below_setRow hSB (by omega) _, hO.setRow hS2⟩
theorem mkI {ops : Array Oper} {rest : List Oper} {Q : Exit -> Act -> World -> Prop} {a : Act} {w : World} {d : Option Tmp} {l : Tmp} {ty : TypeId} {pos : String} {af : Array Edge} {L : Int} (hl : a.eval (.tmp l) = .int .i64 L) (h0 : 0 <= L) (hn : L < 1000000)
   (h : ∀ g n c w', OwnI w' w.heap.size (.slice (some ⟨g, 0, none⟩) n c) (List.replicate L.toNat 0) -> Up w w' -> wpList Tryz.prog ops Q rest (a.put d (.slice (some ⟨g, 0, none⟩) n c)) w') :
   wpList Tryz.prog ops Q ({ dst := d, op := .makeSlice 22 (.tmp l) (.tmp l), type := ty, pos := pos, after := af, guard := none } :: rest) a w := by
 refine wpList_plain rfl fun _ hK => ?_
 have hi := infoI
 cases hq : Tryz.prog.info? 2 with
 | none => rw [hq] at hi; simp at hi
 | some i =>
   rw [hq] at hi
   simp only [Option.map_some, Option.some.injEq, Prod.mk.injEq] at hi
   have hr := run_make (P := Tryz.prog) (w := w) 22 2 i (.int .i64 0) undI hq hi.1 .i64 .i64 L L (by omega) (by omega) (by rw [hi.2.2]; omega) (by omega)
   rw [hi.2.1, Nat.mul_one] at hr
   have hz : madeCells (Value.int .i64 0).cells L.toNat = (vals (List.replicate L.toNat 0)).toArray := by
    unfold madeCells vals
    apply Array.ext
    ·simp [Value.cells]
    ·intro i h1 h2; simp [Value.cells, Nat.mod_one]
   rw [hz] at hr
   unfold Oper.wp execOp
   simp only [hl, Sem.run_bind, Sem.run_pure, Result.andThen_ok, hr]
   refine hK _ _ (h _ _ _ _ ?_ (Up.alloc _ _))
   refine ⟨by unfold vals; simp, .inr ⟨w.heap.size, L.toNat, (vals (List.replicate L.toNat 0)).toArray, by simp, Nat.le_refl _, heap_alloc_new _ _, by simp, by unfold maxLen; omega, by unfold vals; simp, by unfold vals; simp⟩⟩
def nw (n : Int) : Int := min (max n 0) 8
theorem nw_in (n : Int) : 0 <= nw n /\ nw n <= 8 := by unfold nw; omega
def zeros (n : Int) : List Int := List.replicate (tri n).toNat 0
theorem zth_zeros (n : Int) (i : Nat) : zth (zeros n) i = 0 := by
 unfold zth zeros
 rw [List.getD_eq_getElem?_getD, List.getElem?_replicate]
 split <;> rfl
theorem in64_zeros (n : Int) : In64 (zeros n) := by intro i _; rw [zth_zeros]; unfold I64; omega
theorem len_zeros {n : Int} (h0 : 0 <= n) (h8 : n <= 8) : ((zeros n).length : Int) = tri n := by
 unfold zeros; rw [List.length_replicate]; have := tri_le h0 h8; omega
theorem rnew_any (n : Int) (w : World) :
   Calls Tryz.prog 21 #[.int .i64 n] w fun r w' => ∃ z, r = .returned z /\ Up w w' /\ Sm w' z (nw n) (zeros (nw n)) := by
 have ⟨n0, n8⟩ := nw_in n
 have hq : min (max n 0) 8 = nw n := rfl
 have ⟨m1, m2⟩ := tri_mul n0 n8
 have ⟨t0, t1⟩ := tri_le n0 n8
 have HZ := hid (in64_zeros (nw n))
 have HL := hid (len_zeros n0 n8)
 have htr := tri_def (nw n)
 obtain ⟨T2, hT2⟩ : ∃ p, nw n * (nw n + 1) = p := ⟨_, rfl⟩
 have hm : IntKind.i64.wrap (nw n * (nw n + 1)) = T2 := by rw [hT2]; rw [hT2] at m1 m2; exact IntWalk.i64_in _ (by omega)
 rw [hT2] at m1 m2 htr
 unfold zeros at HZ HL ⊢
 rw [htr] at HZ HL t0 t1 ⊢
 clear htr hT2
 generalize nw n = N at *
 obtain ⟨W0, hW0⟩ : ∃ W0, w.alloc (.cells #[.int .i64 0, .slice none 0 0] 24) = W0 := ⟨_, rfl⟩
 have hQ : Blk W0 w.heap.size 24 #[.int .i64 0, .slice none 0 0] := by rw [<- hW0]; exact Blk.new _ _ rfl
 have hU : Up w W0 := by rw [<- hW0]; exact Up.alloc _ _
 go_enter Tryz.func21, Tryz.ntmps21
 go_wp2_with (first
  | ((with_reducible apply mkI); exact rfl; (focus omega); (focus omega); rintro g n c w2 hO hu2; have hQ2 := hQ.up hu2)
  | ((with_reducible apply stM_P); exact rfl; exact rfl; exact hQ2; exact rfl; exact rfl; exact two2 _ _ _ _ _))
 exact bodyPost_ret (resM rfl rfl (hQ2.setRow _) rfl) rfl ⟨_, rfl, below_setRow (hU.trans hu2) (Nat.le_refl _) _, _, rfl, (hO.setRow hQ2).vw, by unfold I64; omega, HZ.out, by have := HL.out; omega⟩
theorem Glob.up {w w' : World} (h : Glob w) (hu : Up w w') : Glob w' := hu.cellEq h
theorem own_one {w : World} {base : Nat} {t : TypeId} {s x : Value} (h : w.ownsRow base t 1 s 1 [x]) : ∃ g cap C, s = .slice (some ⟨g, 0, none⟩) 1 cap /\ Blk w g t C /\ C[0]? = some x := by
 obtain ⟨_, h0 | ⟨g, cap, cur, rfl, _, hb, _, _, hsz, htake⟩⟩ := h
 ·exact absurd h0.2 (by decide)
 ·refine ⟨g, cap, cur, rfl, hb, ?_⟩
  rw [<- Array.getElem?_toList, <- List.getElem?_take_of_lt (show 0 < 1 * 1 by decide), htake]; rfl
set_option maxHeartbeats 1000000 in
theorem rat_ent {v : Value} {N : Int} {l : List Int} (i j : Int) {w : World} (h : Sm w v N l) (hR : rt N l = true) (hr : rng N i j = true) :
   Calls Tryz.prog 36 #[v, .int .i64 i, .int .i64 j] w fun r w' => r = .returned (.int .i64 (ent N l i j)) /\ Up w w' := by
 obtain ⟨k, hk, hkl, hke⟩ := idx_nat hR hr
 obtain ⟨r1, r2, r3, _⟩ := rt_spec hR
 obtain ⟨hi, hj⟩ := of_decide_eq_true hr
 have HX := hid (fun w => hk ▸ rat_any N i j r2 hi.1 hi.2 hj.1 hj.2 w)
 rw [hke]
 obtain ⟨s, rfl, hV, hN, hl, hlen⟩ := h
 obtain ⟨p, cap, rfl, hcap, hc⟩ := hV
 obtain ⟨ad, rfl, hcell⟩ := hc k hkl
 have hcell' := (Up.alloc w (.cells #[.int .i64 N, .slice (some ad) l.length cap] 24)).cellEq hcell
 clear hc hl hR hr hk hke hi hj r1 r2 r3 hcell
 go_enter Tryz.func36, Tryz.ntmps36
 go_wp2_with fail
 go_quiet ((go_at_call 40; exact Calls.quiet_of_same (HX.out _)))
 go_wp2_with fail
 go_ret
 exact ⟨rfl, up_alloc_drewN _ _ _⟩
def RSymPost (w : World) (N : Int) (l : List Int) (e : Int) (r : Ending) (w' : World) : Prop := ∃ z, r = .returned (.tuple #[z, .int .i64 e]) /\ Up w w' /\ SmO w' z N l
theorem RSymPost.err {w w' : World} {g : Nat} (e : Int) (hu : Up w w') (hg : w.heap.size <= g) :
   RSymPost w 0 [] e (.returned (.tuple #[.agg #[.int .i64 0, .slice none 0 0], .int .i64 e])) (w'.setRow g #[.int .i64 0, .slice none 0 0]) :=
 ⟨_, rfl, below_setRow hu hg _, SmO.zero _⟩
theorem RSymPost.ok {w w' : World} {g base : Nat} {C : Array Value} {s : Value} {N : Int} {l : List Int} (hu : Up w w') (hg : w.heap.size <= g) (hB : Blk w' g 24 C) (hO : OwnI w' base s l) (hN : I64 N) (hl : In64 l) (hn : l.length <= 1000) :
   RSymPost w N l 0 (.returned (.tuple #[.agg #[.int .i64 N, s], .int .i64 0])) (w'.setRow g #[.int .i64 N, s]) :=
 ⟨_, rfl, below_setRow hu hg _, ⟨s, base, rfl, hO.setRow hB, hN, hl, hn⟩⟩
def triN (n : Nat) : Nat := n * (n + 1) / 2
theorem tri_nat (n : Nat) : tri (n : Int) = (triN n : Nat) := by
 unfold tri triN
 rw [Int.natCast_ediv]
 simp [Int.natCast_mul]
theorem triN_succ (n : Nat) : triN (n + 1) = triN n + (n + 1) := by
 unfold triN
 rw [show (n + 1) * (n + 1 + 1) = n * (n + 1) + 2 * (n + 1) by grind]
 omega
theorem triN_mono {m n : Nat} (h : m <= n) : triN m <= triN n := by
 induction n with
 | zero => obtain rfl : m = 0 := by omega
           exact Nat.le_refl _
 | succ n ih =>
   rcases Nat.lt_or_ge m (n + 1) with h1 | h1
   ·have := ih (by omega); rw [triN_succ]; omega
   ·obtain rfl : m = n + 1 := by omega
    exact Nat.le_refl _
def pos (n i j : Nat) : Nat := triN n - triN (n - i) + (j - i)
theorem pos_idx {n i j : Nat} (hij : i <= j) (hj : j < n) : idx (n : Int) (i : Int) (j : Int) = (pos n i j : Nat) := by
 unfold idx pos
 rw [show min (i : Int) (j : Int) = (i : Int) by omega, show max (i : Int) (j : Int) = (j : Int) by omega, tri_nat, show (n : Int) - (i : Int) = ((n - i : Nat) : Int) by omega, tri_nat]
 have := triN_mono (m := n - i) (n := n) (by omega)
 omega
theorem pos_zero (n : Nat) : pos n 0 0 = 0 := by unfold pos; simp
theorem pos_succ {n i j : Nat} (hij : i <= j) : pos n i (j + 1) = pos n i j + 1 := by unfold pos; omega
theorem pos_row {n i : Nat} (hi : i < n) : pos n i n = pos n (i + 1) (i + 1) := by
 unfold pos
 obtain ⟨m, rfl⟩ : ∃ m, n = i + 1 + m := ⟨n - i - 1, by omega⟩
 rw [show i + 1 + m - i = m + 1 by omega, show i + 1 + m - (i + 1) = m by omega, triN_succ]
 have := triN_mono (m := m + 1) (n := i + 1 + m) (by omega)
 rw [triN_succ] at this
 omega
theorem pos_end (n : Nat) : pos n n n = triN n := by unfold pos; simp [triN]
theorem pos_lt {n i j : Nat} (hij : i <= j) (hj : j < n) : pos n i j < triN n := by
 have h1 : j + 1 <= n := hj
 have : ∀ k, j + 1 + k = n -> pos n i j + 1 + k = pos n i n := by
  intro k hk
  unfold pos
  omega
 have h2 := this (n - (j + 1)) (by omega)
 have h3 := pos_row (n := n) (i := i) (by omega)
 have h4 : pos n (i + 1) (i + 1) <= triN n := by unfold pos; omega
 omega
def prs (n : Nat) : List (Nat × Nat) := (List.range n).flatMap fun i => (List.range (n - i)).map fun d => (i, i + d)
theorem prs_all : ∀ n, n < 9 -> ∀ j, j < n -> ∀ i, i < j + 1 -> (prs n).getD (pos n i j) (0, 0) = (i, j) := by decide +kernel
theorem prs_at {n i j : Nat} (hn : n <= 8) (hij : i <= j) (hj : j < n) : (prs n).getD (pos n i j) (0, 0) = (i, j) := prs_all n (by omega) j hj i (by omega)
def mixed (new old : List Int) (p : Nat) : List Int := new.take p ++ old.drop p
theorem mixed_zero (new old : List Int) : mixed new old 0 = old := by simp [mixed]
theorem mixed_all {new old : List Int} (h : new.length = old.length) : mixed new old new.length = new := by unfold mixed; rw [List.take_length, h, List.drop_length, List.append_nil]
theorem mixed_len {new old : List Int} (h : new.length = old.length) (p : Nat) : (mixed new old p).length = old.length := by simp [mixed]; omega
theorem mixed_at {new old : List Int} (h : new.length = old.length) {p : Nat} (hp : p < old.length) : zth (mixed new old p) p = zth old p := by
 have e : (mixed new old p)[p]? = old[p]? := by
  unfold mixed
  rw [List.getElem?_append_right (by simp; omega)]
  simp only [List.length_take, List.getElem?_drop]
  congr 1
  omega
 unfold zth
 rw [List.getD_eq_getElem?_getD, List.getD_eq_getElem?_getD, e]
theorem mixed_get {new old : List Int} (h : new.length = old.length) (p : Nat) {q : Nat} (hq : q < old.length) : zth (mixed new old p) q = if q < p then zth new q else zth old q := by
 unfold zth mixed
 rw [List.getD_eq_getElem?_getD, List.getD_eq_getElem?_getD, List.getD_eq_getElem?_getD]
 split
 ·rename_i hqp
  rw [List.getElem?_append_left (by simp; omega), List.getElem?_take_of_lt hqp]
 ·rename_i hqp
  rw [List.getElem?_append_right (by simp; omega)]
  simp only [List.length_take, List.getElem?_drop]
  congr 2
  omega
theorem list_ext {a b : List Int} (h : a.length = b.length) (hz : ∀ i, i < a.length -> zth a i = zth b i) : a = b := by
 apply List.ext_getElem h
 intro i h1 h2
 rw [<- zth_get h1, <- zth_get h2]
 exact hz i h1
theorem zth_set {l : List Int} {k : Nat} {z : Int} {q : Nat} (hq : q < l.length) : zth (l.set k z) q = if q = k then z else zth l q := by
 rw [zth_get (by rw [List.length_set]; exact hq), List.getElem_set]
 split
 ·rename_i h; rw [if_pos h.symm]
 ·rename_i h; rw [if_neg (fun e => h e.symm), zth_get hq]
theorem mixed_set {new old : List Int} (h : new.length = old.length) {p : Nat} (hp : p < old.length) : (mixed new old p).set p (zth new p) = mixed new old (p + 1) := by
 apply list_ext
 ·rw [List.length_set, mixed_len h, mixed_len h]
 ·intro i hi
  rw [List.length_set, mixed_len h] at hi
  rw [zth_set (by rw [mixed_len h]; exact hi), mixed_get h _ hi, mixed_get h _ hi]
  split
  ·rename_i e; subst e; rw [if_pos (by omega)]
  ·split <;> split <;> first | rfl | omega
theorem mixed_same {new old : List Int} (h : new.length = old.length) {p q : Nat} (hpq : p <= q) (_ : q <= old.length) (hs : ∀ i, p <= i -> i < q -> zth new i = zth old i) : mixed new old p = mixed new old q := by
 apply list_ext
 ·rw [mixed_len h, mixed_len h]
 ·intro i hi
  rw [mixed_len h] at hi
  rw [mixed_get h _ hi, mixed_get h _ hi]
  split <;> split <;> first | rfl | omega | skip
  ·rename_i h1 h2; exact (hs i (by omega) h2).symm
def mk (m : Nat) (f : Nat -> Int) : List Int := (List.range m).map f
theorem mk_len (m : Nat) (f : Nat -> Int) : (mk m f).length = m := by simp [mk]
theorem mk_at {m : Nat} {f : Nat -> Int} {i : Nat} (h : i < m) : zth (mk m f) i = f i := by
 rw [zth_get (by rw [mk_len]; exact h)]
 simp [mk]
def ouL (n : Nat) (l : List Int) (x : Int) (h : List Int) : List Int := mk l.length fun p => zth l p + x * zth h ((prs n).getD p (0, 0)).1 * zth h ((prs n).getD p (0, 0)).2
def diL (n : Nat) (l : List Int) (x : Int) : List Int := mk l.length fun p => if ((prs n).getD p (0, 0)).1 = ((prs n).getD p (0, 0)).2 then zth l p + x else zth l p
theorem inR_bp {z : Int} {k : Nat} (hk : k <= 15) (h : z.natAbs < bp k) : InR z := by
 have h1 := bp_mono hk
 have h2 : bp 15 <= hb := by have := bp_succ 15; have := bp_pos 15; have h3 := bp16; unfold hb at *; omega
 exact InR.mk' (by omega)
theorem wp_folded {P : Program} {c : Code} {Q : Exit -> Act -> World -> Prop} {a : Act} {w : World} (R : World -> Prop) (h : R w) (k : ∀ w', R w' -> c.wp P Q a w') : c.wp P Q a w := k w h
theorem undWs : Tryz.prog.underlying 80 = some (.slice 78) := by kernel_rfl
theorem infoWs : (Tryz.prog.info? 78).map (fun i => (i.zero.map (·.cells.size), i.size, i.bytes)) = some (some 16, 16, 128) := by kernel_rfl
theorem undRs : Tryz.prog.underlying 51 = some (.slice 80) := by kernel_rfl
theorem infoRs : (Tryz.prog.info? 80).map (fun i => (i.zero, i.size, i.bytes)) = some (some (.slice none 0 0), 1, 24) := by kernel_rfl
def wc (z : Int) : List Value := (cells 16 (limb (enc z))).toList
def wcs (l : List Int) : List Value := l.flatMap wc
theorem wc_len (z : Int) : (wc z).length = 16 := by unfold wc; rw [Array.length_toList, cells_size]
theorem wc_one (z : Int) : ∀ u ∈ wc z, u.oneCell' = true := fun u hu => (Array.all_eq_true_iff_forall_mem.1 (cells_one 16 (limb (enc z)))) u (by unfold wc at hu; simpa using hu)
theorem wcs_nil : wcs [] = [] := rfl
theorem wcs_cons (z : Int) (l : List Int) : wcs (z :: l) = wc z ++ wcs l := rfl
theorem wcs_append (l m : List Int) : wcs (l ++ m) = wcs l ++ wcs m := by unfold wcs; rw [List.flatMap_append]
theorem wcs_len (l : List Int) : (wcs l).length = l.length * 16 := by
 induction l with
 | nil => rfl
 | cons z l ih => rw [wcs_cons, List.length_append, wc_len, ih, List.length_cons]; omega
theorem wcs_one {l : List Int} : ∀ u ∈ wcs l, u.oneCell' = true := fun u hu => by
 obtain ⟨z, _, h⟩ := List.mem_flatMap.1 hu
 exact wc_one z u h
theorem zth_split {l : List Int} {i : Nat} (h : i < l.length) : l = l.take i ++ zth l i :: l.drop (i + 1) := by
 rw [zth_get h, <- List.drop_eq_getElem_cons h, List.take_append_drop]
theorem wcs_take_len {l : List Int} {i : Nat} (h : i <= l.length) : (wcs (l.take i)).length = i * 16 := by rw [wcs_len, List.length_take]; omega
theorem wcs_split {l : List Int} {i : Nat} (h : i < l.length) : wcs l = wcs (l.take i) ++ (wc (zth l i) ++ wcs (l.drop (i + 1))) := by
 have e := congrArg wcs (zth_split h)
 rw [wcs_append, wcs_cons] at e
 exact e
theorem wcs_mid {l : List Int} {i j : Nat} (h : i < l.length) (hj : j < 16) : (wcs l)[i * 16 + j]? = (wc (zth l i))[j]? := by
 have h1 := wcs_take_len (l := l) (i := i) (by omega)
 rw [wcs_split h, List.getElem?_append_right (by omega), h1, show i * 16 + j - i * 16 = j by omega, List.getElem?_append_left (by rw [wc_len]; exact hj)]
theorem wcs_set {l : List Int} {i : Nat} (h : i < l.length) (z : Int) : (wcs l).take (i * 16) ++ wc z ++ (wcs l).drop (i * 16 + 16) = wcs (l.set i z) := by
 have h1 := wcs_take_len (l := l) (i := i) (by omega)
 rw [List.set_eq_take_append_cons_drop, if_pos h, wcs_append, wcs_cons, wcs_split h, <- h1, List.take_left' rfl, <- List.drop_drop, List.drop_left' rfl, List.drop_left' (by rw [wc_len])]
 rw [List.append_assoc]
def OwnW (w : World) (base : Nat) (v : Value) (l : List Int) : Prop := w.ownsRow base 78 16 v l.length (wcs l)
theorem OwnW.up {w w' : World} {base : Nat} {v : Value} {l : List Int} (hu : Up w w') (h : OwnW w base v l) : OwnW w' base v l := World.ownsRow.up h hu
theorem OwnW.nil (w : World) (base : Nat) : OwnW w base (.slice none 0 0) [] := World.ownsRow_nil _ _ _ _
theorem OwnW.slice {w : World} {base : Nat} {v : Value} {l : List Int} (h : OwnW w base v l) : ∃ p c, v = .slice p l.length c := by
 obtain ⟨_, ⟨rfl, h0⟩ | ⟨g, cap, cur, rfl, _⟩⟩ := h
 ·exact ⟨none, 0, by rw [h0]⟩
 ·exact ⟨_, cap, rfl⟩
def Wv (w : World) (v : Value) (l : List Int) : Prop :=
 (l = [] /\ ∃ p c, v = .slice p 0 c) \/ ∃ g cap C, v = .slice (some ⟨g, 0, none⟩) l.length cap /\ l.length <= cap /\ Blk w g 78 C /\ C.toList.take (l.length * 16) = wcs l
theorem Wv.up {w w' : World} (hu : Up w w') {v : Value} {l : List Int} (h : Wv w v l) : Wv w' v l := by
 rcases h with h | ⟨g, cap, C, h1, h2, h3, h4⟩
 ·exact .inl h
 ·exact .inr ⟨g, cap, C, h1, h2, h3.up hu, h4⟩
theorem OwnW.wv {w : World} {base : Nat} {v : Value} {l : List Int} (h : OwnW w base v l) : Wv w v l := by
 obtain ⟨_, ⟨rfl, h0⟩ | ⟨g, cap, cur, rfl, _, hB, hc, _, _, ht⟩⟩ := h
 ·exact .inl ⟨List.length_eq_zero_iff.1 h0, _, _, rfl⟩
 ·exact .inr ⟨g, cap, cur, rfl, hc, hB, ht⟩
theorem Wv.slice {w : World} {v : Value} {l : List Int} (h : Wv w v l) : ∃ p c, v = .slice p l.length c := by
 rcases h with ⟨rfl, p, c, rfl⟩ | ⟨g, cap, C, rfl, _⟩
 ·exact ⟨p, c, rfl⟩
 ·exact ⟨_, cap, rfl⟩
theorem Wv.open {w : World} {v : Value} {l : List Int} (h : Wv w v l) (h0 : 0 < l.length) :
   ∃ g cap C, v = .slice (some ⟨g, 0, none⟩) l.length cap /\ l.length <= cap /\ Blk w g 78 C /\ C.toList.take (l.length * 16) = wcs l := by
 rcases h with ⟨rfl, _⟩ | h
 ·exact absurd h0 (by decide)
 ·exact h
theorem wv_range {w : World} {g : Nat} {C : Array Value} {l : List Int} (hB : Blk w g 78 C) (ht : C.toList.take (l.length * 16) = wcs l) {i : Nat} (hi : i < l.length) : w.rangeAt g (i * 16) (wc (zth l i)) := by
 intro j v hv
 have hj : j < 16 := by have := (List.getElem?_eq_some_iff.1 hv).1; rw [wc_len] at this; exact this
 refine hB.cell _ ?_
 rw [<- Array.getElem?_toList, <- List.getElem?_take_of_lt (show i * 16 + j < l.length * 16 by omega), ht, wcs_mid hi hj]
 exact hv
section
variable {a : Act} {w : World} {g off : Nat} {z : Int}
theorem run_ldW {o : Oper} {ev : Operand -> Value} {x : Operand} (ho : o.op = .load 78 x) (hx : ev x = .pointer (some ⟨g, off, none⟩)) (hC : w.rangeAt g off (wc z)) :
   (execOp ev o).run Tryz.prog w = .ok (.value (.agg (cells 16 (limb (enc z))))) w := by
 unfold execOp
 simp only [ho, hx, Instr.loadAt, Instr.sureAddr, Sem.run_bind, Sem.run_pure, Result.andThen_ok, run_loadVar_mid w g off _ (wc z) _ hC undW rfl (by rw [infoW, wc_len])]
 unfold wc
 simp
theorem ldW_P {ops : Array Oper} {rest : List Oper} {Q : Exit -> Act -> World -> Prop} {d : Option Tmp} {s : Tmp} {ty : TypeId} {pos : String} {af : Array Edge} {gd : Option (Nat × Bool)} (hw : Region.wanted { dst := d, op := .load 78 (.tmp s), type := ty, pos := pos, after := af, guard := gd } (yielded ops a.tmps) = true) (hx : a.eval (.tmp s) = .pointer (some ⟨g, off, none⟩))
   (hC : w.rangeAt g off (wc z)) (h : wpList Tryz.prog ops Q rest (a.put d (.agg (cells 16 (limb (enc z))))) w) : wpList Tryz.prog ops Q ({ dst := d, op := .load 78 (.tmp s), type := ty, pos := pos, after := af, guard := gd } :: rest) a w :=
 wpList_run hw (run_ldW rfl hx hC) h
def splW (C : Array Value) (off : Nat) (z : Int) : Array Value := (C.toList.take off ++ wc z ++ C.toList.drop (off + 16)).toArray
theorem run_svW {C : Array Value} (hB : Blk w g 78 C) (hl : off + 16 <= C.size) :
   (storeVar 78 ⟨g, off, none⟩ (wideV (enc z))).run Tryz.prog w = .ok () (w.setRow g (splW C off z)) := by
 have hs := run_storeCells_at Tryz.prog g off 78 (wc z) 0 C w hB (by rw [wc_len]; omega) (wc_one z)
 rw [Nat.add_zero, wc_len] at hs
 unfold splW
 have hi := infoW
 cases hq : Tryz.prog.info? 78 with
 | none => rw [hq] at hi; simp at hi
 | some i =>
   rw [hq] at hi
   have hz : i.size = 16 := by simpa using hi
   have hv : (wideV (enc z)).cells.toList = wc z := rfl
   have hn : (wideV (enc z)).cells.size = 16 := cells_size _ _
   simp [storeVar, sizeOf, typeInfo, hq, hz, hv, hn, hs]
theorem wp_stW {C : Array Value} {K : Act -> World -> Prop} {Q : Exit -> Act -> World -> Prop} {o : Oper} (x y : Operand) (ho : o.op = .store 78 x y) (hx : a.eval x = .pointer (some ⟨g, off, none⟩)) (hy : a.eval y = .agg (cells 16 (limb (enc z)))) (hB : Blk w g 78 C) (hl : off + 16 <= C.size)
   (h : K (a.put o.dst undef) (w.setRow g (splW C off z))) : o.wp Tryz.prog a w K Q := by
 have hw := run_svW (z := z) hB hl
 unfold wideV at hw
 unfold Oper.wp execOp
 simp only [ho, hx, hy, Instr.storeAt, Instr.sureAddr, Sem.run_bind, Sem.run_pure, Result.andThen_ok, hw]
 exact h
theorem stW_P {C : Array Value} {ops : Array Oper} {rest : List Oper} {Q : Exit -> Act -> World -> Prop} {d : Option Tmp} {s u : Tmp} {ty : TypeId} {pos : String} {af : Array Edge} (hx : a.eval (.tmp s) = .pointer (some ⟨g, off, none⟩)) (hy : a.eval (.tmp u) = .agg (cells 16 (limb (enc z)))) (hB : Blk w g 78 C) (hl : off + 16 <= C.size)
   (h : wpList Tryz.prog ops Q rest (a.put d undef) (w.setRow g (splW C off z))) :
   wpList Tryz.prog ops Q ({ dst := d, op := .store 78 (.tmp s) (.tmp u), type := ty, pos := pos, after := af, guard := none } :: rest) a w :=
 wpList_plain rfl fun _ hK => wp_stW _ _ rfl hx hy hB hl (hK _ _ h)
end
theorem OwnW.open {w : World} {base : Nat} {v : Value} {l : List Int} (h : OwnW w base v l) (h0 : 0 < l.length) :
   ∃ g cap C, v = .slice (some ⟨g, 0, none⟩) l.length cap /\ base <= g /\ Blk w g 78 C /\ l.length <= cap /\ cap <= maxLen /\ C.size = cap * 16 /\ C.toList.take (l.length * 16) = wcs l := by
 obtain ⟨_, h1 | ⟨g, cap, cur, hv, hb, hB, hc, hm, hs, ht⟩⟩ := h
 ·omega
 ·exact ⟨g, cap, cur, hv, hb, hB, hc, hm, hs, ht⟩
theorem set_take {C : List Value} {l : List Int} {i : Nat} (ht : C.take (l.length * 16) = wcs l) (hi : i < l.length) (hC : l.length * 16 <= C.length) (z : Int) :
   (C.take (i * 16) ++ wc z ++ C.drop (i * 16 + 16)).take (l.length * 16) = wcs (l.set i z) := by
 rw [<- wcs_set hi z, <- ht, List.take_take, Nat.min_eq_left (by omega), List.drop_take]
 have h1 : (C.take (i * 16) ++ wc z).length = i * 16 + 16 := by rw [List.length_append, wc_len, List.length_take]; omega
 rw [List.take_append, h1, List.take_of_length_le (by omega)]
theorem OwnW.set {w : World} {base g cap n : Nat} {C : Array Value} {l : List Int} (h : OwnW w base (.slice (some ⟨g, 0, none⟩) n cap) l) (hB : Blk w g 78 C) {i : Nat} (hi : i < l.length) (z : Int) :
   OwnW (w.setRow g (splW C (i * 16) z)) base (.slice (some ⟨g, 0, none⟩) n cap) (l.set i z) /\ i * 16 + 16 <= C.size := by
 obtain ⟨g', cap', C', hv, hb, hB', hc, hm, hs, ht⟩ := h.open (by omega)
 injection hv with e1 e2 e3
 injection e1 with e1
 injection e1 with e1
 subst e1 e2 e3
 have hCC : C' = C := by
  unfold Blk at hB hB'
  rw [hB] at hB'
  simp at hB'
  exact hB'.symm
 subst hCC
 have hl : i * 16 + 16 <= C'.size := by omega
 unfold splW
 refine ⟨⟨by rw [wcs_len, List.length_set], .inr ⟨g, cap, _, by rw [List.length_set], hb, hB.setRow _, by rw [List.length_set]; exact hc, hm, ?_, ?_⟩⟩, hl⟩
 ·simp [wc_len]; omega
 ·rw [List.length_set]
  exact set_take ht hi (by simp; omega) z
theorem appW {ops : Array Oper} {rest : List Oper} {Q : Exit -> Act -> World -> Prop} {a : Act} {w : World} {d : Option Tmp} {s u : Operand} {ty : TypeId} {pos : String} {af : Array Edge} {base g off c : Nat} {v : Value} {l m : List Int}
   (hs : a.eval s = v) (hu : a.eval u = .slice (some ⟨g, off, none⟩) m.length c) (hown : OwnW w base v l) (hV : w.rangeAt g off (wcs m)) (hbase : base <= w.heap.size) (hl : l.length < 1000000) (hm : m.length < 1000000)
   (h : ∀ v' w', OwnW w' base v' (l ++ m) -> w.grownBy w' v.ownBlock -> Below base w w' -> wpList Tryz.prog ops Q rest (a.put d v') w') :
   wpList Tryz.prog ops Q ({ dst := d, op := .call { callee := .builtin .append, args := #[s, u], argTypes := #[80, 80] }, type := ty, pos := pos, after := af, guard := none } :: rest) a w := by
 obtain ⟨i0, hi0, he⟩ := Option.map_eq_some_iff.1 infoWs
 simp only [Prod.mk.injEq] at he
 obtain ⟨z0, hz0, hzs⟩ := Option.map_eq_some_iff.1 he.1
 have hlt := World.ownsRow.lt hown
 refine wpList_append_own w rfl s u 80 rfl base 78 i0 z0 16 128 undWs hi0 hz0 he.2.1 he.2.2 hzs (by decide) v l.length (wcs l) hs hown ⟨g, off, none⟩ m.length c (wcs m) hu (wcs_len m) (fun j x hx => by rw [Addr.add_mid]; exact hV j x hx) wcs_one (by unfold maxLen; omega) (by omega) hbase ?_
 intro v' w' h1 h2 _
 refine h v' w' (by unfold OwnW; rw [List.length_append, wcs_append]; exact h1) h2 ⟨h2.os, h2.tape, h2.output, h2.size, fun k hk => h2.block k (by omega) fun e => ?_⟩
 have := hlt k e.symm
 omega
theorem one_range {w : World} {z : Int} {g : Nat} (h : g = w.heap.size) : (w.alloc (.cells (cells 16 (limb (enc z))) 78)).rangeAt g 0 (wcs [z]) := by
 intro j v hv
 have hB : Blk (w.alloc (.cells (cells 16 (limb (enc z))) 78)) g 78 (cells 16 (limb (enc z))) := Blk.new _ _ h
 rw [Nat.zero_add]
 refine hB.cell _ ?_
 rw [<- Array.getElem?_toList]
 rw [show wcs [z] = wc z from by rw [wcs_cons, wcs_nil, List.append_nil]] at hv
 exact hv
theorem fill_one (f : Nat -> Nat) (z : Array Value) : Instr.fill (fun i => some (i * 16, 16)) ((Array.range (1 * 16)).map (z[· % z.size]!)) [(0, .agg (cells 16 f))] = some (cells 16 f) := by
 unfold cells
 kernel_rfl
theorem bsW_P {ops : Array Oper} {rest : List Oper} {Q : Exit -> Act -> World -> Prop} {a : Act} {w : World} {d : Option Tmp} {s : Tmp} {ty : TypeId} {pos : String} {af : Array Edge} {z : Int} (hs : a.eval (.tmp s) = .agg (cells 16 (limb (enc z))))
   (h : wpList Tryz.prog ops Q rest (a.put d (.slice (some ⟨w.heap.size, 0, none⟩) 1 1)) (w.alloc (.cells (cells 16 (limb (enc z))) 78))) :
   wpList Tryz.prog ops Q ({ dst := d, op := .buildSlice 80 1 #[(0, .tmp s)], type := ty, pos := pos, after := af, guard := none } :: rest) a w := by
 obtain ⟨i0, hi0, he⟩ := Option.map_eq_some_iff.1 infoWs
 simp only [Prod.mk.injEq] at he
 obtain ⟨z0, hz0, hzs⟩ := Option.map_eq_some_iff.1 he.1
 refine wpList_buildSlice rfl 80 78 1 _ rfl (cells 16 (limb (enc z))) i0 z0 undWs hi0 hz0 (by rw [he.2.1]; decide) (by rw [he.2.1]; decide) ?_ h
 simp only [List.map_toArray, List.map_cons, List.map_nil, hs, he.2.1]
 exact fill_one _ _
structure Near (g : Nat) (w w' : World) : Prop where
 os : w'.os = w.os
 tape : w'.tape = w.tape
 output : w'.output = w.output
 size : w.heap.size <= w'.heap.size
 block : ∀ k, k < w.heap.size -> k ≠ g -> w'.heap[k]? = w.heap[k]?
theorem Near.refl (g : Nat) (w : World) : Near g w w := ⟨rfl, rfl, rfl, Nat.le_refl _, fun _ _ _ => rfl⟩
theorem Near.trans {g : Nat} {a b c : World} (h : Near g a b) (k : Near g b c) : Near g a c :=
 ⟨k.os.trans h.os, k.tape.trans h.tape, k.output.trans h.output, Nat.le_trans h.size k.size, fun i hi hg => (k.block i (Nat.lt_of_lt_of_le hi h.size) hg).trans (h.block i hi hg)⟩
theorem Near.of {g : Nat} {a b : World} (h : Up a b) : Near g a b := ⟨h.os, h.tape, h.output, h.size, fun k hk _ => h.block k hk⟩
theorem Near.up {g : Nat} {a b c : World} (h : Near g a b) (hu : Up b c) : Near g a c := h.trans (Near.of hu)
theorem Near.cell {g i : Nat} {a w : World} (h : Near g a w) (v : Value) : Near g a (w.setCell ⟨g, i, none⟩ v) := by
 have k : Below 0 w (w.setCell ⟨g, i, none⟩ v) := (Below.refl 0 w).setCell (Nat.zero_le _) v
 exact h.trans ⟨k.os, k.tape, k.output, k.size, fun j _ hg => Below.heap_setCell w ⟨g, i, none⟩ v j hg⟩
theorem Near.row {g b n : Nat} {t : TypeId} {f : Nat -> Nat} {w w' : World} (h : Near g w w') (hb : b ≠ g) (hr : Row w b t n f) : Row w' b t n f := by
 have h1 := hr.lt
 unfold Row Blk at *
 rw [h.block b h1 hb]; exact hr
theorem Near.below {g B : Nat} {a w w' : World} (h : Near g w w') (hg : B <= g) (hb : Below B a w) (hB : B <= w.heap.size) : Below B a w' :=
 Below.trans hb ⟨h.os, h.tape, h.output, h.size, fun k hk => h.block k (by omega) (by omega)⟩
theorem off_step {A L M X V l lo c c' r b b' P : Nat} (h : A + L = M + (b + c) * P) (h1 : lo + c' * 18446744073709551616 = l * V + c) (h2 : r + lo + b = X + b' * 18446744073709551616) :
   A + r * P + (L + l * V * P) = M + X * P + (b' + c') * (P * 18446744073709551616) := by
 have e : (r + lo + b + (lo + c' * 18446744073709551616)) * P = (X + b' * 18446744073709551616 + (l * V + c)) * P := by rw [h1, h2]
 grind
theorem off_last {A L M X c r b b' P : Nat} (h : A + L = M + (b + c) * P) (h2 : r + c + b = X + b' * 18446744073709551616) :
   A + r * P + L = M + X * P + b' * (P * 18446744073709551616) := by
 have e : (r + c + b) * P = (X + b' * 18446744073709551616) * P := by rw [h2]
 grind
theorem sum_shift_upd (f : Nat -> Nat) (o k v : Nat) : sumL (fun j => upd f (o + k) v (o + j)) (k + 1) = sumL (fun j => f (o + j)) k + v * bp k := by
 rw [sumL_succ, upd_same]
 congr 1
 exact sumL_congr fun i hi => upd_other f (o + k) v (by omega)
set_option maxHeartbeats 4000000 in
theorem take_off (gx o n gy cx cy l : Nat) (S V : Nat -> Nat) (hS : ∀ j, j < 17 -> S j < 18446744073709551616) (hV : ∀ j, j < 17 -> V j < 18446744073709551616) (hg : gx ≠ gy) (ho : o + n < 17) (hl : l < 18446744073709551616) (w : World) (rx : Row w gx 155 17 S) (ry : Row w gy 155 17 V) :
   Calls Tryz.prog 106 #[.slice (some ⟨gx, o, none⟩) (n + 1) cx, .slice (some ⟨gy, 0, none⟩) n cy, .int .u64 (l : Nat)] w fun e w' =>
    ∃ (S' : Nat -> Nat) (b : Nat), e = .returned (.bool (decide (b ≠ 0))) /\ b <= 1 /\ sumL (fun j => S' (o + j)) (n + 1) + l * sumL V n = sumL (fun j => S (o + j)) (n + 1) + b * bp (n + 1) /\
      (∀ j, j < o \/ o + n < j -> S' j = S j) /\ (∀ j, j < 17 -> S' j < 18446744073709551616) /\ Row w' gx 155 17 S' /\ Near gx w w' := by
 have HS := hid hS
 have HV := hid hV
 clear hS hV
 go_enter Tryz.func106, Tryz.ntmps106
 go_wp2
 go_loopw [8, 9, 14] (fun tc tb ti wr => ∃ (i c b : Nat) (T : Nat -> Nat), i <= n /\ tc = .int .u64 (c : Nat) /\ tb = .int .u64 (b : Nat) /\ ti = .int .i64 (i : Nat) /\ c < 18446744073709551616 /\ b <= 1 /\
    sumL (fun j => T (o + j)) i + l * sumL V i = sumL (fun j => S (o + j)) i + (b + c) * bp i /\ (∀ j, j < o \/ o + i <= j -> T j = S j) /\ (∀ j, j < 17 -> T j < 18446744073709551616) /\ Row wr gx 155 17 T /\ Near gx w wr)
  (fun _ _ ti _ => n - (intOf ti).toNat)
 case atStart => exact ⟨0, 0, 0, S, by omega, rfl, rfl, rfl, by omega, by omega, by simp [sumL_zero], fun _ _ => rfl, HS.out, rx, Near.refl _ _⟩
 case round =>
  obtain ⟨i, c, b, T, hi, rfl, rfl, rfl, hc, hb, hsum, hT, hTl, hR, hN⟩ := hrel
  have Hsum := hid hsum
  have HT := hid hT
  have HTl := hid hTl
  clear hsum hT hTl rx
  by_cases hlt : i < n
  ·have hVi := HV.out i (by omega)
   have hcy := (hN.row (Ne.symm hg) ry).cell i (by omega)
   have hcx := hR.cell (o + i) (by omega)
   have hfx := hR.frozen (o + i)
   obtain ⟨lo, c', hlo, hc'⟩ : ∃ lo c' : Nat, lo = (l * V i + c + 0) % 18446744073709551616 /\ c' = (l * V i + c + 0) / 18446744073709551616 := ⟨_, _, rfl, rfl⟩
   have hstep := step_any l (V i) c 0 hl hVi hc (by decide)
   rw [<- hlo, <- hc'] at hstep
   obtain ⟨b1, b2, b3⟩ := step_bound hl hVi hc (by decide) hlo hc'
   have HST := hid (show ∀ w, Calls Tryz.prog 94 #[.int .u64 (l : Nat), .int .u64 (V i : Nat), .int .u64 (c : Nat), .int .u64 0] w (fun e w' => e = .returned (.tuple #[.int .u64 (lo : Nat), .int .u64 (c' : Nat)]) /\ w' = w) from hstep)
   have HB3 := hid b3
   clear hlo hc' hstep b3
   obtain ⟨r, b', hadd, hr, hrl, hb1⟩ : ∃ r b' : Nat, (∀ w, (callFunc 78 #[.int .u64 (T (o + i) : Nat), .int .u64 (lo : Nat), .int .u64 (b : Nat)]).run Tryz.prog w = .ok (.value (.tuple #[.int .u64 (r : Nat), .int .u64 (b' : Nat)])) w) /\
      Hid (r + lo + b = T (o + i) + b' * 18446744073709551616) /\ r < 18446744073709551616 /\ b' <= 1 :=
    ⟨_, _, run_sub (T (o + i)) lo b hb, hid (by have := HTl.out (o + i) (by omega); split <;> omega), Nat.mod_lt _ (by decide), by split <;> omega⟩
   have gR := hR.set (o + i) r
   have gN := hN.cell (i := o + i) (.int .u64 (r : Nat))
   clear hR hN
   go_wp2_with (go_at_call 94; (with_reducible refine (HST.out _).mono ?_); rintro e w' ⟨rfl, rfl⟩)
   go_roundw
   case rel =>
    refine ⟨i + 1, c', b', upd T (o + i) r, by omega, rfl, rfl, by go_num, b2, hb1, ?_, fun j hj => by rw [upd_other _ _ _ (by omega)]; exact HT.out j (by omega), upd_lt HTl.out hrl, gR, gN⟩
    rw [sum_shift_upd, sumL_succ V, sumL_succ (fun j => S (o + j)), bp_succ, Nat.mul_add, <- Nat.mul_assoc]
    have h1 := HB3.out
    have h2 := hr.out
    rw [HT.out (o + i) (by omega)] at h2
    exact off_step Hsum.out (by omega) h2
   case measure => simp [intOf] <;> omega
  ·obtain rfl : i = n := by omega
   have hcx := hR.cell (o + i) (by omega)
   have hfx := hR.frozen (o + i)
   obtain ⟨r, b', hadd, hr, hrl, hb1⟩ : ∃ r b' : Nat, (∀ w, (callFunc 78 #[.int .u64 (T (o + i) : Nat), .int .u64 (c : Nat), .int .u64 (b : Nat)]).run Tryz.prog w = .ok (.value (.tuple #[.int .u64 (r : Nat), .int .u64 (b' : Nat)])) w) /\
      Hid (r + c + b = T (o + i) + b' * 18446744073709551616) /\ r < 18446744073709551616 /\ b' <= 1 :=
    ⟨_, _, run_sub (T (o + i)) c b hb, hid (by have := HTl.out (o + i) (by omega); split <;> omega), Nat.mod_lt _ (by decide), by split <;> omega⟩
   have gR := hR.set (o + i) r
   have gN := hN.cell (i := o + i) (.int .u64 (r : Nat))
   clear hR hN
   go_wp2
   go_ret
   refine ⟨upd T (o + i) r, b', ret_bool ?_, hb1, ?_, fun j hj => by rw [upd_other _ _ _ (by omega)]; exact HT.out j (by omega), upd_lt HTl.out hrl, gR, gN⟩
   ·rw [Bool.eq_iff_iff, bne_iff_ne, decide_eq_true_iff]; omega
   ·rw [sum_shift_upd, sumL_succ (fun j => S (o + j)), bp_succ]
    have h2 := hr.out
    rw [HT.out (o + i) (by omega)] at h2
    exact off_last Hsum.out h2
theorem back_step {A L M X V c c' r P : Nat} (h : A + c * P = M + L) (h2 : r + c' * 18446744073709551616 = X + V + c) :
   A + r * P + c' * (P * 18446744073709551616) = M + X * P + (L + V * P) := by
 have e : (r + c' * 18446744073709551616) * P = (X + V + c) * P := by rw [h2]
 grind
set_option maxHeartbeats 4000000 in
theorem put_back (gx o n gy cx cy : Nat) (S V : Nat -> Nat) (hS : ∀ j, j < 17 -> S j < 18446744073709551616) (hV : ∀ j, j < 17 -> V j < 18446744073709551616) (hg : gx ≠ gy) (ho : o + n < 17) (w : World) (rx : Row w gx 155 17 S) (ry : Row w gy 155 17 V) :
   Calls Tryz.prog 107 #[.slice (some ⟨gx, o, none⟩) (n + 1) cx, .slice (some ⟨gy, 0, none⟩) n cy] w fun e w' =>
    ∃ (S' : Nat -> Nat) (b : Nat), e = .returned (.bool (decide (b ≠ 0))) /\ b <= 1 /\ sumL (fun j => S' (o + j)) (n + 1) + b * bp (n + 1) = sumL (fun j => S (o + j)) (n + 1) + sumL V n /\
      (∀ j, j < o \/ o + n < j -> S' j = S j) /\ (∀ j, j < 17 -> S' j < 18446744073709551616) /\ Row w' gx 155 17 S' /\ Near gx w w' := by
 have HS := hid hS
 have HV := hid hV
 clear hS hV
 go_enter Tryz.func107, Tryz.ntmps107
 go_wp2
 go_loopw [5, 10] (fun tc ti wr => ∃ (i c : Nat) (T : Nat -> Nat), i <= n /\ tc = .int .u64 (c : Nat) /\ ti = .int .i64 (i : Nat) /\ c <= 1 /\
    sumL (fun j => T (o + j)) i + c * bp i = sumL (fun j => S (o + j)) i + sumL V i /\ (∀ j, j < o \/ o + i <= j -> T j = S j) /\ (∀ j, j < 17 -> T j < 18446744073709551616) /\ Row wr gx 155 17 T /\ Near gx w wr)
  (fun _ ti _ => n - (intOf ti).toNat)
 case atStart => exact ⟨0, 0, S, by omega, rfl, rfl, by omega, by simp [sumL_zero], fun _ _ => rfl, HS.out, rx, Near.refl _ _⟩
 case round =>
  obtain ⟨i, c, T, hi, rfl, rfl, hc, hsum, hT, hTl, hR, hN⟩ := hrel
  have Hsum := hid hsum
  have HT := hid hT
  have HTl := hid hTl
  clear hsum hT hTl rx
  by_cases hlt : i < n
  ·have hY := hN.row (Ne.symm hg) ry
   have hcy := hY.cell i (by omega)
   have hcx := hR.cell (o + i) (by omega)
   have hfx := hR.frozen (o + i)
   obtain ⟨r, c', hadd, hr, hrl, hc1⟩ : ∃ r c' : Nat, (∀ w, (callFunc 77 #[.int .u64 (T (o + i) : Nat), .int .u64 (V i : Nat), .int .u64 (c : Nat)]).run Tryz.prog w = .ok (.value (.tuple #[.int .u64 (r : Nat), .int .u64 (c' : Nat)])) w) /\
      Hid (r + c' * 18446744073709551616 = T (o + i) + V i + c) /\ r < 18446744073709551616 /\ c' <= 1 :=
    ⟨_, _, run_add (T (o + i)) (V i) c hc, hid (by omega), Nat.mod_lt _ (by decide), by have := HTl.out (o + i) (by omega); have := HV.out i (by omega); omega⟩
   go_wp2
   refine opU (S := (fun wq => Row wq gx 155 17 T /\ Row wq gy 155 17 V /\ wq.cell? ⟨gx, o + i, none⟩ = some (.int .u64 (T (o + i) : Nat)) /\ wq.cell? ⟨gy, i, none⟩ = some (.int .u64 (V i : Nat)) /\ Near gx w wq)) (req := (fun j => j != 16)) (fun _ _ h hu => ⟨(h.1).up hu, (h.2.1).up hu, hu.cell (h.2.2.1), hu.cell (h.2.2.2.1), Near.up (h.2.2.2.2) hu⟩) ⟨gRow, gRow, (by first | assumption | (apply Blk.cell; exact gBlk; exact rfl)), (by first | assumption | (apply Blk.cell; exact gBlk; exact rfl)), (by assumption)⟩ (fun wS hSS hSu => ?_)
   have ⟨hS1, hS2, hS3, hS4, hSB⟩ := hSS
   clear hcx hcy hfx hR hY hN
   have hk1 : (i : Int) < (n : Int) + 1 := by omega
   refine tkP 0 (some 14) hSu ?_
   refine tkP 1 (some 15) hSu ?_
   refine tkP 2 (some 16) hSu ?_
   refine tkP 3 (some 17) hSu ?_
   refine tkP 4 (some 18) hSu ?_
   refine tkT 5 (some 19) rfl hSu hSS ?_ (hy := fun w' hSw => by ((try dsimp only at hSw); (try obtain ⟨_, _, _, _, _⟩ := hSw); go_simp; (try exact rfl)))
   refine tkP 6 (some 20) hSu ?_
   refine tkP 7 (some 21) hSu ?_
   refine tkP 8 (some 22) hSu ?_
   refine tkT 9 (some 23) rfl hSu hSS ?_ (hy := fun w' hSw => by ((try dsimp only at hSw); (try obtain ⟨_, _, _, _, _⟩ := hSw); go_simp; (try exact rfl)))
   refine tkP 10 (some 24) hSu ?_
   refine tkP 11 (some 25) hSu ?_
   refine tkP 12 (some 13) hSu ?_
   refine tkP 13 (some 26) hSu ?_
   refine tkP 14 (some 27) hSu ?_
   refine tkP 15 (some 28) hSu ?_
   refine wpAnyU_one (i := 16) rfl (by kernel_rfl) (by rfl) fun w1 hw1 => ?_
   have hcW := (hS1.up hw1).cell (o+i) (by omega)
   have hfW := (hS1.up hw1).frozen (o+i)
   go_simp
   clear hcW hfW
   refine tkP 17 (some 5) hSu ?_
   refine wpAnyU_done (by kernel_rfl) (fun wF huE => ?_) _
   have gR := ((hS1.up hw1).set (o + i) r).up huE
   have gN := ((hSB.up hw1).cell (i := o + i) (.int .u64 (r : Nat))).up huE
   clear hS1 hS2 hS3 hS4 hSB hSS hw1 huE
   go_wp2
   go_roundw
   case rel =>
    refine ⟨i + 1, c', upd T (o + i) r, by omega, rfl, by go_num, hc1, ?_, fun j hj => by rw [upd_other _ _ _ (by omega)]; exact HT.out j (by omega), upd_lt HTl.out hrl, gR, gN⟩
    rw [sum_shift_upd, sumL_succ V, sumL_succ (fun j => S (o + j)), bp_succ]
    have h2 := hr.out
    rw [HT.out (o + i) (by omega)] at h2
    exact back_step Hsum.out h2
   case measure => simp [intOf] <;> omega
  ·obtain rfl : i = n := by omega
   have hcx := hR.cell (o + i) (by omega)
   have hfx := hR.frozen (o + i)
   obtain ⟨r, c', hadd, hr, hrl, hc1⟩ : ∃ r c' : Nat, (∀ w, (callFunc 77 #[.int .u64 (T (o + i) : Nat), .int .u64 0, .int .u64 (c : Nat)]).run Tryz.prog w = .ok (.value (.tuple #[.int .u64 (r : Nat), .int .u64 (c' : Nat)])) w) /\
      Hid (r + c' * 18446744073709551616 = T (o + i) + 0 + c) /\ r < 18446744073709551616 /\ c' <= 1 := by
    have h := run_add (T (o + i)) 0 c hc
    simp only [show ((0 : Nat) : Int) = 0 from rfl] at h
    exact ⟨_, _, h, hid (by omega), Nat.mod_lt _ (by decide), by have := HTl.out (o + i) (by omega); omega⟩
   have gR := hR.set (o + i) r
   have gN := hN.cell (i := o + i) (.int .u64 (r : Nat))
   clear hR hN
   go_wp2
   go_ret
   refine ⟨upd T (o + i) r, c', ret_bool ?_, hc1, ?_, fun j hj => by rw [upd_other _ _ _ (by omega)]; exact HT.out j (by omega), upd_lt HTl.out hrl, gR, gN⟩
   ·rw [Bool.eq_iff_iff, bne_iff_ne, decide_eq_true_iff]; omega
   ·rw [sum_shift_upd, sumL_succ (fun j => S (o + j)), bp_succ]
    have h2 := hr.out
    rw [HT.out (o + i) (by omega)] at h2
    have h3 := back_step (V := 0) Hsum.out h2
    rw [Nat.zero_mul, Nat.add_zero] at h3
    exact h3
def guessN (h l y : Nat) : Nat := if y <= h then 18446744073709551615 else (18446744073709551616 * h + l) / y
theorem guess_lt {h l y : Nat} (hl : l < 18446744073709551616) : guessN h l y < 18446744073709551616 := by
 unfold guessN
 split
 ·decide
 ·exact short_q (by omega) hl
set_option maxHeartbeats 1000000 in
theorem guess_any (h l y : Nat) (_ : h < 18446744073709551616) (hl : l < 18446744073709551616) (hy : y < 18446744073709551616) (w : World) :
   Calls Tryz.prog 105 #[.int .u64 (h : Nat), .int .u64 (l : Nat), .int .u64 (y : Nat)] w fun e w' => e = .returned (.int .u64 (guessN h l y : Nat)) /\ Up w w' := by
 by_cases hc : y <= h
 ·have e : guessN h l y = 18446744073709551615 := by unfold guessN; rw [if_pos hc]
  rw [e]
  clear e
  go_enter Tryz.func105, Tryz.ntmps105
  go_wp2
  go_ret
  exact ⟨rfl, gUp⟩
 ·have e : guessN h l y = (18446744073709551616 * h + l) / y := by unfold guessN; rw [if_neg hc]
  have hD := fun w => div64_any h l y hy hl (by omega) w
  rw [<- e] at hD
  generalize guessN h l y = g at *
  generalize (18446744073709551616 * h + l) % y = r at *
  have HD := hid hD
  clear e hD
  go_enter Tryz.func105, Tryz.ntmps105
  go_wp2_with (go_at_call 99; (with_reducible refine (HD.out _).mono ?_); rintro e w' ⟨rfl, hu⟩)
  go_ret
  exact ⟨rfl, gUp⟩
theorem sumL_split (f : Nat -> Nat) (a b : Nat) : sumL f (a + b) = sumL f a + sumL (fun j => f (a + j)) b * bp a := by
 induction b with
 | zero => simp [sumL_zero]
 | succ b ih =>
   rw [<- Nat.add_assoc, sumL_succ, ih, sumL_succ, bp_add, Nat.add_mul]
   generalize sumL (fun j => f (a + j)) b = t at *
   generalize bp a = p at *
   generalize bp b = q at *
   grind
theorem zero_above {f : Nat -> Nat} {n k : Nat} (h : sumL f n < bp k) : ∀ j, k <= j -> j < n -> f j = 0 := by
 induction n with
 | zero => intro j _ hj; omega
 | succ n ih =>
   rw [sumL_succ] at h
   intro j h1 h2
   by_cases e : j = n
   ·subst e
    rcases Nat.eq_zero_or_pos (f j) with h3 | h3
    ·exact h3
    ·have h4 : 1 * bp j <= f j * bp j := Nat.mul_le_mul_right _ h3
     have h5 := bp_mono h1
     omega
   ·exact ih (by omega) j h1 (by omega)
theorem sum_cut {f : Nat -> Nat} {n k : Nat} (hk : k <= n) (h : ∀ j, k <= j -> j < n -> f j = 0) : sumL f n = sumL f k := by
 obtain ⟨d, rfl⟩ := Nat.exists_eq_add_of_le hk
 rw [sumL_split]
 rw [sumL_congr (g := fun _ => 0) (fun j hj => h (k + j) (by omega) (by omega)), sumL_zeros]
 omega
theorem guess_ge {F V : Nat -> Nat} {m P W : Nat} (hF : ∀ j, j < m + 2 -> F j < 18446744073709551616) (hW : sumL F (m + 2) = W) (hP : sumL V (m + 1) = P) (h0 : 0 < P) (hlt : W < P * 18446744073709551616) : W / P <= guessN (F (m + 1)) (F m) (V m) := by
 unfold guessN
 split
 ·have : W / P < 18446744073709551616 := by rw [Nat.div_lt_iff_lt_mul h0, Nat.mul_comm]; exact hlt
  omega
 ·rename_i hv
  rw [Nat.le_div_iff_mul_le (by omega)]
  have h1 := sumL_lt (f := F) (k := m) fun j hj => hF j (by omega)
  rw [sumL_succ, sumL_succ, bp_succ] at hW
  rw [sumL_succ] at hP
  have h2 := Nat.div_mul_le_self W P
  generalize W / P = q at *
  have h3 : q * (V m * bp m) <= q * P := Nat.mul_le_mul_left _ (by omega)
  have h4 : q * V m * bp m < (18446744073709551616 * F (m + 1) + F m + 1) * bp m := by
   have e : (18446744073709551616 * F (m + 1) + F m + 1) * bp m = F m * bp m + F (m + 1) * (bp m * 18446744073709551616) + bp m := by grind
   rw [e, Nat.mul_assoc]
   omega
  have h5 := Nat.lt_of_mul_lt_mul_right h4
  omega
theorem round_end {W1 W P g : Nat} (h : W1 + g * P = W) (hge : W / P <= g) (h0 : 0 < P) : W1 < P /\ g = W / P := by
 have h1 : g <= W / P := by rw [Nat.le_div_iff_mul_le h0]; omega
 have h2 : g = W / P := by omega
 refine ⟨?_, h2⟩
 have h3 := Nat.mod_lt W h0
 have h4 := Nat.div_add_mod W P
 rw [<- h2, Nat.mul_comm] at h4
 omega
theorem round_more {W1 W P g B : Nat} (h : W1 + g * P = W + B) (hB : W1 < B) (h0 : 0 < P) : 1 <= g /\ W / P <= g - 1 := by
 have h1 : W < g * P := by omega
 have h2 : W / P < g := by rw [Nat.div_lt_iff_lt_mul h0]; exact h1
 generalize W / P = q at *
 omega
theorem round_next {W1 W2 W P g B b : Nat} (h : W1 + g * P = W + B) (h2 : W2 + b * B = W1 + P) (hg : 1 <= g) (hb : b <= 1) : W2 + (g - 1) * P = W + (1 - b) * B := by
 obtain ⟨k, rfl⟩ : ∃ k, g = k + 1 := ⟨g - 1, by omega⟩
 rw [Nat.add_sub_cancel, Nat.add_mul, Nat.one_mul] at *
 have hb2 : b = 0 \/ b = 1 := by omega
 rcases hb2 with rfl | rfl
 ·simp at *; omega
 ·simp at *; omega
theorem long_step {S S' T : Nat -> Nat} {i m P W W1 g X : Nat} (hm : i + m < 17) (hi : i < 16) (hS : ∀ j, j < 17 -> S j < 18446744073709551616) (hX : X = sumL T 16 * P + sumL S 17) (hT : T i = 0) (hR : sumL S 17 < bp (i + m + 1))
   (hW : sumL (fun j => S (i + j)) (m + 1) = W) (hW1 : sumL (fun j => S' (i + j)) (m + 1) = W1) (ho : ∀ j, j < i \/ i + m < j -> S' j = S j) (he : W1 + g * P = W) (hlt : W1 < P) :
   X = sumL (upd T i g) 16 * P + sumL S' 17 /\ sumL S' 17 < P * bp i := by
 have hz := zero_above hR
 have e1 : sumL S 17 = sumL S i + W * bp i := by
  rw [sum_cut (show i + (m + 1) <= 17 by omega) (fun j h1 h2 => hz j (by omega) h2), sumL_split, hW]
 have e2 : sumL S' 17 = sumL S i + W1 * bp i := by
  rw [sum_cut (show i + (m + 1) <= 17 by omega) (fun j h1 h2 => by rw [ho j (by omega)]; exact hz j (by omega) h2), sumL_split, hW1, sumL_congr fun j hj => ho j (.inl hj)]
 have e3 := sumL_upd T g hi
 rw [hT, Nat.zero_mul, Nat.add_zero] at e3
 have h1 := sumL_lt (f := S) (k := i) fun j hj => hS j (by omega)
 constructor
 ·rw [e2, e3, hX, e1, <- he]
  grind
 ·rw [e2]
  have h2 : (W1 + 1) * bp i <= P * bp i := Nat.mul_le_mul_right _ hlt
  rw [Nat.add_mul] at h2
  omega
theorem long_end {x y s Q R : Nat} (h0 : 0 < y) (h : x * 2 ^ s = Q * (y * 2 ^ s) + R) (hR : R < y * 2 ^ s) : Q = x / y /\ R / 2 ^ s = x % y := by
 have hp := Nat.two_pow_pos s
 generalize 2 ^ s = p at *
 have h1 : x * p / (y * p) = Q := by
  rw [h, Nat.mul_comm Q, Nat.mul_add_div (Nat.mul_pos h0 hp), Nat.div_eq_of_lt hR, Nat.add_zero]
 have h2 : x * p % (y * p) = R := by
  rw [h, Nat.mul_comm Q, Nat.mul_add_mod, Nat.mod_eq_of_lt hR]
 rw [Nat.mul_div_mul_right _ _ hp] at h1
 rw [Nat.mul_mod_mul_right] at h2
 exact ⟨h1.symm, by rw [<- h2, Nat.mul_div_cancel _ hp]⟩
theorem norm_part {y m s : Nat} (hy : y < bp m) (hm : 0 < m) (htop : limb y (m - 1) ≠ 0) (hs : s = 64 - Lib.bitLen (limb y (m - 1))) : y * 2 ^ s < bp m /\ 9223372036854775808 * bp (m - 1) <= y * 2 ^ s /\ s < 64 := by
 obtain ⟨k, rfl⟩ : ∃ k, m = k + 1 := ⟨m - 1, by omega⟩
 rw [Nat.add_sub_cancel] at *
 obtain ⟨b1, b2, b3, b4⟩ := bitLen_spec (limb_lt y k) htop
 have e : limb y k = y / bp k := by
  unfold limb
  exact Nat.mod_eq_of_lt (by rw [Nat.div_lt_iff_lt_mul (bp_pos k), Nat.mul_comm, <- bp_succ]; exact hy)
 generalize Lib.bitLen (limb y k) = L at *
 rw [e] at b2 b3
 have h1 : y < 2 ^ L * bp k := by rw [<- Nat.div_lt_iff_lt_mul (bp_pos k)]; exact b3
 have h2 : 2 ^ (L - 1) * bp k <= y := by rw [<- Nat.le_div_iff_mul_le (bp_pos k)]; exact b2
 have hp := Nat.two_pow_pos s
 have e1 : 2 ^ L * 2 ^ s = 18446744073709551616 := by rw [<- Nat.pow_add, show L + s = 64 by omega]
 have e2 : 2 ^ (L - 1) * 2 ^ s = 9223372036854775808 := by rw [<- Nat.pow_add, show L - 1 + s = 63 by omega]
 refine ⟨?_, ?_, by omega⟩
 ·have h3 : y * 2 ^ s < 2 ^ L * bp k * 2 ^ s := Nat.mul_lt_mul_of_pos_right h1 hp
  rw [bp_succ, <- e1]
  calc y * 2 ^ s < 2 ^ L * bp k * 2 ^ s := h3
   _ = bp k * (2 ^ L * 2 ^ s) := by grind
 ·have h3 : 2 ^ (L - 1) * bp k * 2 ^ s <= y * 2 ^ s := Nat.mul_le_mul_right _ h2
  rw [<- e2]
  calc 2 ^ (L - 1) * 2 ^ s * bp k = 2 ^ (L - 1) * bp k * 2 ^ s := by grind
   _ <= y * 2 ^ s := h3
theorem run_allocL {o : Oper} {a : Act} (ho : o.op = .alloc 155) (w : World) :
   (execOp a.eval o).run Tryz.prog w = .ok (.value (.pointer (some ⟨w.heap.size, 0, none⟩))) (w.alloc (.cells (cells 17 (fun _ => 0)) 155)) := by
 rw [<- zeros17]
 unfold execOp
 rw [ho]
 dsimp only
 go_simp
theorem wpAnyU_allocL {ops : Array Oper} {Q : Exit -> Act -> World -> Prop} {md : Region.Mode} {S : World -> Prop} {req : Nat -> Bool} {i : Nat} {o : Oper} {d : Option Tmp} {fuel : Nat} {listed : Array Bool} {a : Act} {w : World}
   (hi : ops[i]? = some o) (hd : o.dst = d) (hr : Region.ready md ops listed = [i]) (hw : Region.wanted o (yielded ops a.tmps) = true) (ho : o.op = .alloc 155) (hSup : ∀ w w', S w -> Up w w' -> S w')
   (h : ∀ w1, Up w w1 -> wpAnyU Tryz.prog md ops Q S req fuel (listed.setIfInBounds i true) (a.put d (.pointer (some ⟨w1.heap.size, 0, none⟩))) (w1.alloc (.cells (cells 17 (fun _ => 0)) 155))) : wpAnyU Tryz.prog md ops Q S req (fuel + 1) listed a w := by
 subst hd
 refine wpAnyU_one hi hr hw fun w1 hw1 => ?_
 unfold Oper.wp
 rw [run_allocL ho w1]
 exact ⟨fun _ hS => hSup _ _ hS (Up.alloc _ _), h w1 hw1⟩
theorem wpAnyU_alloc2L {ops : Array Oper} {Q : Exit -> Act -> World -> Prop} {md : Region.Mode} {S : World -> Prop} {req : Nat -> Bool} {i j : Nat} {oi oj : Oper} {di dj : Tmp} {fuel : Nat} {listed : Array Bool} {a : Act} {w : World}
   (hi : ops[i]? = some oi) (hj : ops[j]? = some oj) (hdi : oi.dst = some di) (hdj : oj.dst = some dj) (hd : di ≠ dj) (hgi : oi.guard = none) (hgj : oj.guard = none) (hoi : oi.op = .alloc 155) (hoj : oj.op = .alloc 155)
   (hr : Region.ready md ops listed = [i, j]) (hr1 : Region.ready md ops (listed.setIfInBounds i true) = [j]) (hr2 : Region.ready md ops (listed.setIfInBounds j true) = [i]) (hij : i ≠ j) (hSup : ∀ w w', S w -> Up w w' -> S w')
   (h : ∀ w1 p q, Up w w1 -> Row w1 p 155 17 (fun _ => 0) -> Row w1 q 155 17 (fun _ => 0) -> p ≠ q -> w.heap.size <= p -> w.heap.size <= q ->
    wpAnyU Tryz.prog md ops Q S req fuel ((listed.setIfInBounds i true).setIfInBounds j true) ((a.put (some di) (.pointer (some ⟨p, 0, none⟩))).put (some dj) (.pointer (some ⟨q, 0, none⟩))) w1) :
   wpAnyU Tryz.prog md ops Q S req (fuel + 2) listed a w := by
 have hwi : ∀ a : Act, Region.wanted oi (yielded ops a.tmps) = true := fun a => by simp [Region.wanted, hgi]
 have hwj : ∀ a : Act, Region.wanted oj (yielded ops a.tmps) = true := fun a => by simp [Region.wanted, hgj]
 refine wpAnyU_all hr (by simp) fun w1 hw1 k hk => ?_
 simp only [List.mem_cons, List.not_mem_nil, or_false] at hk
 rcases hk with rfl | rfl
 ·unfold wpOp
  simp only [hi, hwi, if_true]
  refine .inl ?_
  unfold Oper.wp
  rw [run_allocL hoi w1]
  refine ⟨fun _ hS => hSup _ _ hS (Up.alloc _ _), ?_⟩
  refine wpAnyU_allocL hj hdj hr1 (hwj _) hoj hSup fun w2 hw2 => ?_
  rw [hdi]
  have h1 := hw1.size
  have h2 := hw2.size
  simp only [World.alloc, Array.size_push] at h2
  exact h _ _ _ ((hw1.trans ((Up.alloc _ _).trans hw2)).trans (Up.alloc _ _)) ((Row.up (row_newc _ 17 _ rfl) hw2).up (Up.alloc _ _)) (row_newc _ 17 _ rfl) (by omega) (by omega) (by omega)
 ·unfold wpOp
  simp only [hj, hwj, if_true]
  refine .inl ?_
  unfold Oper.wp
  rw [run_allocL hoj w1]
  refine ⟨fun _ hS => hSup _ _ hS (Up.alloc _ _), ?_⟩
  refine wpAnyU_allocL hi hdi hr2 (hwi _) hoi hSup fun w2 hw2 => ?_
  rw [hdj, Act.put_comm a (x := some dj) (y := some di) _ _ (fun d h1 h2 => hd (by rw [Option.some.inj h1, Option.some.inj h2])), Array.setIfInBounds_comm _ _ (Ne.symm hij)]
  have h1 := hw1.size
  have h2 := hw2.size
  simp only [World.alloc, Array.size_push] at h2
  exact h _ _ _ ((hw1.trans ((Up.alloc _ _).trans hw2)).trans (Up.alloc _ _)) (row_newc _ 17 _ rfl) ((Row.up (row_newc _ 17 _ rfl) hw2).up (Up.alloc _ _)) (by omega) (by omega) (by omega)
theorem wp_worldD {P : Program} {c : Code} {Q : Exit -> Act -> World -> Prop} {a : Act} {w : World} (R : World -> Prop) (h : R w) (k : ∀ w', R w' -> c.wp P Q a w') : c.wp P Q a w := k w h
section
variable {P : Program} {ops : Array Oper} {Q : Exit -> Act -> World -> Prop} {md : Region.Mode} {S : World -> Prop} {req : Nat -> Bool}
theorem wpAnyU_callN {i : Nat} {o : Oper} {d : Option Tmp} {fuel : Nat} {listed : Array Bool} {a : Act} {w : World} {f : FuncId} {args : Array Value} {R : World -> Value -> World -> Prop} (hi : ops[i]? = some o) (hd : o.dst = d) (hr : Region.ready md ops listed = [i]) (hw : Region.wanted o (yielded ops a.tmps) = true) (hq : req i = false)
   (hrun : ∀ w', (execOp a.eval o).run P w' = .ok (.enter f args) w') (hc : ∀ w', Up w w' -> Calls P f args w' fun e w'' => ∃ v, e = .returned v /\ R w' v w'')
   (h : ∀ w' v w'', Up w w' -> R w' v w'' -> wpAnyU P md ops Q S req fuel (listed.setIfInBounds i true) (a.put d v) w'') : wpAnyU P md ops Q S req (fuel + 1) listed a w := by
 refine wpAnyU_one hi hr hw fun w1 hw1 => ?_
 unfold Oper.wp
 rw [hrun w1]
 subst hd
 refine Calls.mono (hc w1 hw1) fun e w'' he => ?_
 obtain ⟨v, rfl, hR⟩ := he
 exact ⟨(fun h1 => by (rw [hq] at h1; cases h1)), h w1 v w'' hw1 hR⟩
end
theorem undL2 : Tryz.prog.underlying 155 = some (.array (Tryz.prog.arrayLen 155) (Tryz.prog.elem 155)) := by kernel_rfl
theorem lenL2 : Tryz.prog.arrayLen 155 = 17 := by kernel_rfl
theorem run_size1 (w : World) : (sizeOf (Tryz.prog.elem 155)).run Tryz.prog w = .ok 1 w := by rfl
theorem slice_win {p i m : Nat} (h : i + m < 17) (w : World) :
   (Instr.sliceAt 155 (.pointer (some ⟨p, 0, none⟩)) (some (.int .i64 (i : Nat))) (some (.int .i64 ((i : Int) + (m : Int) + 1))) none).run Tryz.prog w = .ok (.slice (some ⟨p, i, none⟩) (m + 1) (17 - i)) w := by
 rw [run_sliceAt_array_lh w 155 ⟨p, 0, none⟩ undL2 .i64 .i64 (i : Nat) ((i : Int) + (m : Int) + 1) (by omega) (by omega) (by rw [lenL2]; omega), run_size1, lenL2]
 simp only [Result.andThen_ok, slicedAt, Int.toNat_natCast, Nat.mul_one]
 rw [if_neg (by omega), show ((i : Int) + (m : Int) + 1).toNat - i = m + 1 by omega]
 simp [Addr.add]
 intro h0; exact h0.symm
theorem slice_low {q m : Nat} (h : m < 17) (w : World) :
   (Instr.sliceAt 155 (.pointer (some ⟨q, 0, none⟩)) none (some (.int .i64 (m : Nat))) none).run Tryz.prog w = .ok (.slice (some ⟨q, 0, none⟩) m 17) w := by
 rw [run_sliceAt_array_h w 155 ⟨q, 0, none⟩ undL2 .i64 (m : Nat) (by omega) (by rw [lenL2]; omega), run_size1, lenL2]
 simp [slicedAt, Addr.add]
set_option maxHeartbeats 8000000 in
theorem divide_long (x y : Nat) (hx : x < bp 16) (hy : y < bp 16) (hxy : y <= x) (hm2 : 2 <= lenL (limb y) 16) (w : World) :
   Calls Tryz.prog 98 #[wideV x, wideV y] w fun e w' => e = .returned (divV x y) /\ Up w w' := by
 have HLX := hid (length_any x)
 have HLY := hid (length_any y)
 have hn16 := lenL_le (limb x) 16
 have hm16 := lenL_le (limb y) 16
 have hyb := sum_len hy
 have hxb := lt_bp_len hx
 have hyl := lt_bp_len hy
 have hyg := bp_le_of_len (limb y) 16 (by omega)
 have htop := lenL_top (limb y) 16 (by omega)
 rw [sumL_limb, Nat.mod_eq_of_lt hy] at hyg
 obtain ⟨n, hn⟩ : ∃ n, lenL (limb x) 16 = n := ⟨_, rfl⟩
 obtain ⟨m, hm⟩ : ∃ m, lenL (limb y) 16 = m := ⟨_, rfl⟩
 rw [hn] at HLX hn16 hxb
 rw [hm] at HLY hm16 hyl hyg htop hm2
 have hmn : m <= n := by
  rcases Nat.lt_or_ge (m - 1) n with h | h
  ·omega
  ·have := bp_mono h; omega
 obtain ⟨s, hs⟩ : ∃ s, s = 64 - Lib.bitLen (limb y (m - 1)) := ⟨_, rfl⟩
 obtain ⟨hP1, hP2, hs64⟩ := norm_part hyl (by omega) htop hs
 have hlz := fun w => Tryz.bits_LeadingZeros64 (limb y (m - 1) : Nat) w (by omega) (by have := limb_lt y (m - 1); omega)
 have hbl := (bitLen_spec (limb_lt y (m - 1)) htop).2.2.2
 rw [Int.toNat_natCast, show (64 : Int) - (Lib.bitLen (limb y (m - 1)) : Int) = (s : Nat) by omega] at hlz
 have HLZ := hid hlz
 have HL1 := hid (left_any x hx s hs64)
 have HL2 := hid (left_any y hy s hs64)
 have es : IntKind.u64.wrap (s : Int) = (s : Nat) := by rw [IntKind.wrap_u64]; omega
 have em1 : IntKind.i64.wrap ((m : Int) - 1) = ((m - 1 : Nat) : Int) := by rw [IntWalk.i64_in _ (by omega)]; omega
 obtain ⟨m1, hm1⟩ : ∃ m1, m - 1 = m1 := ⟨_, rfl⟩
 rw [hm1] at em1 HLZ htop
 have enm : IntKind.i64.wrap ((n : Int) - (m : Int)) = (n : Int) - (m : Int) := IntWalk.i64_in _ (by omega)
 have HP1 := hid hP1
 have HP2 := hid hP2
 have Hn := hid hxb
 have hy0 := hid (show 0 < y by have := bp_pos (m - 1); omega)
 have Hx := hid hx
 have Hy := hid hy
 have Hm1 := hid hm1
 have ltm : m1 < 16 := by omega
 clear hyb hyg hyl hxb htop hs hlz hbl hP1 hP2 hxy hx hy hn hm hm1
 unfold wideV at HLX HLY HL1 HL2
 unfold longV at HL1 HL2
 have HD := hid (show divV x y = divV x y from rfl)
 unfold wideV
 go_enter Tryz.func98, Tryz.ntmps98
 go_wp2
 refine opU (S := (fun wq => Row wq w.heap.size 78 16 (limb x) /\ Row wq (w.heap.size + 1) 78 16 (limb y) /\ Row wq (w.heap.size + 1 + 1) 78 16 (fun _ => 0) /\ Row wq (w.heap.size + 1 + 1 + 1) 78 16 (fun _ => 0) /\ Below w.heap.size w wq)) (req := (fun _ => true)) (fun _ _ h hu => ⟨(h.1).up hu, (h.2.1).up hu, (h.2.2.1).up hu, (h.2.2.2.1).up hu, below_up (h.2.2.2.2) hu⟩) ⟨gRow, gRow, gRow, gRow, gUp⟩ (fun wS hSS hSu => ?_)
 have ⟨hS1, hS2, hS3, hS4, hSB⟩ := hSS
 refine tkT 0 (some 15) rfl hSu hSS ?_ (hy := fun w' hSw => run_ld undW infoW _ rfl _ rfl hSw.1)
 refine tkC 1 (some 16) rfl hSu hSS ?_ (hy := fun w' hSw => (HLX.out _))
 refine tkT 2 (some 17) rfl hSu hSS ?_ (hy := fun w' hSw => run_ld undW infoW _ rfl _ rfl hSw.2.1)
 refine tkC 3 (some 18) rfl hSu hSS ?_ (hy := fun w' hSw => (HLY.out _))
 refine tkP 4 (some 6) hSu ?_
 refine tkP 5 (some 7) hSu ?_
 refine wpAnyU_done (by kernel_rfl) (fun wF huE => ?_) _
 have gX := hS1.up huE
 have gY := hS2.up huE
 have gQ := hS3.up huE
 have gR := hS4.up huE
 have gB := below_up hSB huE
 clear hS1 hS2 hS3 hS4 hSB hSS huE
 have hct := gY.cell m1 ltm
 go_upto_region 3 with (first | (go_at_call 100; (with_reducible refine (HLZ.out _).mono ?_); rintro e w' ⟨rfl, rfl⟩))
 clear hct HLX HLY HLZ
 refine opU (S := (fun wq => Row wq w.heap.size 78 16 (limb x) /\ Row wq (w.heap.size + 1) 78 16 (limb y) /\ Row wq (w.heap.size + 1 + 1) 78 16 (fun _ => 0) /\ Row wq (w.heap.size + 1 + 1 + 1) 78 16 (fun _ => 0) /\ Below w.heap.size w wq)) (req := (fun j => j != 8 && j != 9)) (fun _ _ h hu => ⟨(h.1).up hu, (h.2.1).up hu, (h.2.2.1).up hu, (h.2.2.2.1).up hu, below_up (h.2.2.2.2) hu⟩) ⟨gRow, gRow, gRow, gRow, gUp⟩ (fun wS hSS hSu => ?_)
 have ⟨hS1, hS2, hS3, hS4, hSB⟩ := hSS
 clear gX gY gQ gR gB
 refine tkT 0 (some 25) rfl hSu hSS ?_ (hy := fun w' hSw => run_ld undW infoW _ rfl _ rfl hSw.1)
 refine tkP 1 (some 26) hSu ?_
 refine tkC 2 (some 27) rfl hSu hSS ?_ (hy := fun w' hSw => (HL1.out _))
 refine tkT 3 (some 28) rfl hSu hSS ?_ (hy := fun w' hSw => run_ld undW infoW _ rfl _ rfl hSw.2.1)
 refine tkP 4 (some 29) hSu ?_
 refine tkC 5 (some 30) rfl hSu hSS ?_ (hy := fun w' hSw => (HL2.out _))
 refine wpAnyU_alloc2L (i := 6) (j := 7) (di := 9) (dj := 10) rfl rfl rfl rfl (by decide) rfl rfl rfl rfl (by kernel_rfl) (by kernel_rfl) (by kernel_rfl) (by decide) hSu.out fun w3 p q hw3 hp hq hpq hpl hql => ?_
 try simp only [Act.put, pu1, pu2, pu3]
 have l3 := hS3.lt
 have l4 := hS4.lt
 have lB := hSB.size
 refine wpAnyU_one (i := 8) rfl (by kernel_rfl) (by rfl) fun w4 hw4 => ?_
 refine wp_st_rowN infoL rfl _ _ rfl _ rfl rfl (hp.up hw4) ?_
 refine ⟨fun h => by simp at h, ?_⟩
 try simp only [Act.put, pu1, pu2, pu3]
 refine wpAnyU_one (i := 9) rfl (by kernel_rfl) (by rfl) fun w5 hw5 => ?_
 refine wp_st_rowN infoL rfl _ _ rfl _ rfl rfl (((hq.up hw4).row_other _ (Ne.symm hpq)).up hw5) ?_
 refine ⟨fun h => by simp at h, ?_⟩
 try simp only [Act.put, pu1, pu2, pu3]
 refine wpAnyU_done (by kernel_rfl) (fun wF huE => ?_) _
 have g3 := (((((hS3.up hw3).up hw4).row_other (cells 17 (limb (x * 2 ^ s))) (show w.heap.size + 1 + 1 ≠ p by omega)).up hw5).row_other (cells 17 (limb (y * 2 ^ s))) (show w.heap.size + 1 + 1 ≠ q by omega)).up huE
 have g4 := (((((hS4.up hw3).up hw4).row_other (cells 17 (limb (x * 2 ^ s))) (show w.heap.size + 1 + 1 + 1 ≠ p by omega)).up hw5).row_other (cells 17 (limb (y * 2 ^ s))) (show w.heap.size + 1 + 1 + 1 ≠ q by omega)).up huE
 have gp : Row wF p 155 17 (limb (x * 2 ^ s)) := ((((hp.up hw4).setRow _).up hw5).row_other (cells 17 (limb (y * 2 ^ s))) hpq).up huE
 have gq : Row wF q 155 17 (limb (y * 2 ^ s)) := ((((hq.up hw4).row_other (cells 17 (limb (x * 2 ^ s))) (Ne.symm hpq)).up hw5).setRow _).up huE
 have gB := below_up (below_setRow (below_up (below_setRow (below_up (below_up hSB hw3) hw4) (show w.heap.size <= p by omega) (cells 17 (limb (x * 2 ^ s)))) hw5) (show w.heap.size <= q by omega) (cells 17 (limb (y * 2 ^ s)))) huE
 have lp : w.heap.size + 1 + 1 + 1 < p := by omega
 have lq : w.heap.size + 1 + 1 + 1 < q := by omega
 clear hS1 hS2 hS3 hS4 hSB hSS hw3 hw4 hw5 huE hp hq hpl hql l3 l4 lB HL1 HL2
 have l1 := gp.lt
 have l2 := gq.lt
 have l5 := gB.size
 go_upto_block 0 with (fail)
 try simp only [Act.put]
 refine wp_worldD (fun wd => Row wd (w.heap.size + 1 + 1) 78 16 (fun _ => 0) /\ Row wd (w.heap.size + 1 + 1 + 1) 78 16 (fun _ => 0) /\ Row wd p 155 17 (limb (x * 2 ^ s)) /\ Row wd q 155 17 (limb (y * 2 ^ s)) /\ Row wd wF.heap.size 78 16 (fun _ => 0) /\ Below w.heap.size w wd) ⟨gRow, gRow, gRow, gRow, gRow, gUp⟩ (fun w0 hD => ?_)
 clear g3 g4 gp gq gB
 obtain ⟨g3, g4, gp, gq, gT, gB⟩ := hD
 have lt : p < wF.heap.size /\ q < wF.heap.size := ⟨l1, l2⟩
 clear l1 l2 l5
 generalize wF.heap.size = t at *
 clear enm em1 es
 obtain ⟨P, hP⟩ : ∃ P, y * 2 ^ s = P := ⟨_, rfl⟩
 obtain ⟨X2, hX2⟩ : ∃ X2, x * 2 ^ s = X2 := ⟨_, rfl⟩
 have HP := hid hP
 have HX2 := hid hX2
 rw [hP] at HP1 HP2 gq
 rw [hX2] at gp
 clear hP hX2
 have hPm : sumL (limb P) m = P := by rw [sumL_limb, Nat.mod_eq_of_lt HP1.out]
 have HPm := hid hPm
 have hP0 : 0 < P := by have := HP2.out; have := bp_pos (m - 1); omega
 have HP0 := hid hP0
 clear hPm hP0
 go_wp2_with fail
 go_loopw [12] (fun ti wr => ∃ (k : Nat) (S T : Nat -> Nat), k <= n - m + 1 /\ ti = .int .i64 ((k : Int) - 1) /\ (∀ j, j < 17 -> S j < 18446744073709551616) /\ (∀ j, j < 16 -> T j < 18446744073709551616) /\ (∀ j, j < k -> T j = 0) /\ X2 = sumL T 16 * P + sumL S 17 /\ sumL S 17 < P * bp k /\
    Row wr (w.heap.size + 1 + 1) 78 16 (fun _ => 0) /\ Row wr (w.heap.size + 1 + 1 + 1) 78 16 (fun _ => 0) /\ Row wr p 155 17 S /\ Row wr q 155 17 (limb P) /\ Row wr t 78 16 T /\ Below w.heap.size w wr)
  (fun ti _ => (intOf ti + 1).toNat)
 case atStart =>
  refine ⟨n - m + 1, limb X2, fun _ => 0, Nat.le_refl _, ?_, fun j _ => limb_lt _ j, fun _ _ => by simp, fun _ _ => rfl, ?_, ?_, g3, g4, gp, gq, gT, gB⟩
  ·congr 1; omega
  ·have h1 := Hn.out
   have h2 := HX2.out
   have h3 := bp_mono hn16
   have h4 := bp_succ 16
   have h5 : 2 ^ s <= 18446744073709551616 := Nat.pow_le_pow_right (n := 2) (by decide) (show s <= 64 by omega)
   have h6 : x * 2 ^ s < bp 16 * 18446744073709551616 := Nat.mul_lt_mul_of_lt_of_le (by omega) h5 (by decide)
   rw [sumL_zeros, sumL_limb, Nat.mod_eq_of_lt (by rw [h4]; omega)]
   omega
  ·have h1 := Hn.out
   have h2 := HX2.out
   have h7 := HP2.out
   have h5 : 2 ^ s <= 9223372036854775808 := Nat.pow_le_pow_right (n := 2) (by decide) (show s <= 63 by omega)
   have h6 : x * 2 ^ s < bp n * 9223372036854775808 := Nat.mul_lt_mul_of_lt_of_le h1 h5 (by decide)
   have h8 : 9223372036854775808 * bp (m - 1) * bp (n - m + 1) <= P * bp (n - m + 1) := Nat.mul_le_mul_right _ h7
   rw [Nat.mul_assoc, <- bp_add, show m - 1 + (n - m + 1) = n by omega] at h8
   have h9 := Nat.mod_le X2 (bp 17)
   rw [sumL_limb]
   omega
 case round =>
  clear g3 g4 gp gq gT gB
  obtain ⟨k, S, T, hk, rfl, hS, hT, hT0, hX, hR, g3, g4, gp, gq, gT, gB⟩ := hrel
  have HS := hid hS
  have HT := hid hT
  have HT0 := hid hT0
  have HX := hid hX
  have HR := hid hR
  clear hS hT hT0 hX hR
  rcases Nat.eq_zero_or_pos k with hk0 | hk0
  ·subst hk0
   have hE : sumL T 16 = x / y /\ sumL S 17 / 2 ^ s % bp 16 = x % y := by
    have h1 := HX.out
    have h2 := HR.out
    rw [bp_zero, Nat.mul_one] at h2
    rw [<- HX2.out, <- HP.out] at h1
    rw [<- HP.out] at h2
    obtain ⟨h3, h4⟩ := long_end hy0.out h1 h2
    refine ⟨h3, ?_⟩
    rw [h4]
    exact Nat.mod_eq_of_lt (Nat.lt_of_le_of_lt (Nat.mod_le _ _) Hx.out)
   have hTl : ∀ j, j < 16 -> T j = limb (x / y) j := fun j hj => by rw [<- hE.1]; exact (limb_sumL HT.out hj).symm
   have gT2 : Row wr t 78 16 (limb (x / y)) := gT.congr hTl
   have hRt := fun w => right_any S HS.out s hs64 w
   rw [hE.2] at hRt
   unfold longV wideV at hRt
   have HRt := hid hRt
   clear hE hTl hRt gT
   go_wp2_with fail
   refine opU (S := (fun wq => Row wq (w.heap.size + 1 + 1) 78 16 (fun _ => 0) /\ Row wq (w.heap.size + 1 + 1 + 1) 78 16 (fun _ => 0) /\ Row wq p 155 17 S /\ Row wq t 78 16 (limb (x / y)) /\ Below w.heap.size w wq)) (req := (fun j => j != 4 && j != 5)) (fun _ _ h hu => ⟨(h.1).up hu, (h.2.1).up hu, (h.2.2.1).up hu, (h.2.2.2.1).up hu, below_up (h.2.2.2.2) hu⟩) ⟨gRow, gRow, gRow, gRow, gUp⟩ (fun wS hSS hSu => ?_)
   have ⟨hS1, hS2, hS3, hS4, hSB⟩ := hSS
   clear g3 g4 gp gq gT2 gB
   refine tkT 0 (some 80) rfl hSu hSS ?_ (hy := fun w' hSw => run_ld undW infoW _ rfl _ rfl hSw.2.2.2.1)
   refine tkT 1 (some 81) rfl hSu hSS ?_ (hy := fun w' hSw => run_ld undL infoL _ rfl _ rfl hSw.2.2.1)
   refine tkP 2 (some 82) hSu ?_
   refine tkC 3 (some 83) rfl hSu hSS ?_ (hy := fun w' hSw => (HRt.out _))
   refine wpAnyU_one (i := 4) rfl (by kernel_rfl) (by rfl) fun w4 hw4 => ?_
   refine wp_st_rowN infoW rfl _ _ rfl _ rfl rfl ((hS1.up hw4)) ?_
   refine ⟨fun h => by simp at h, ?_⟩
   try simp only [Act.put, pu1, pu2, pu3]
   refine wpAnyU_one (i := 5) rfl (by kernel_rfl) (by rfl) fun w5 hw5 => ?_
   refine wp_st_rowN infoW rfl _ _ rfl _ rfl rfl ((((hS2.up hw4).row_other _ (show w.heap.size + 1 + 1 + 1 ≠ w.heap.size + 1 + 1 by omega)).up hw5)) ?_
   refine ⟨fun h => by simp at h, ?_⟩
   try simp only [Act.put, pu1, pu2, pu3]
   refine wpAnyU_done (by kernel_rfl) (fun wF huE => ?_) _
   have ga : Row wF (w.heap.size + 1 + 1) 78 16 (limb (x / y)) := ((((hS1.up hw4).setRow _).up hw5).row_other (cells 16 (limb (x % y))) (show w.heap.size + 1 + 1 ≠ w.heap.size + 1 + 1 + 1 by omega)).up huE
   have gb : Row wF (w.heap.size + 1 + 1 + 1) 78 16 (limb (x % y)) := ((((hS2.up hw4).row_other (cells 16 (limb (x / y))) (show w.heap.size + 1 + 1 + 1 ≠ w.heap.size + 1 + 1 by omega)).up hw5).setRow _).up huE
   have gB := below_up (below_setRow (below_up (below_setRow (below_up hSB hw4) (show w.heap.size <= w.heap.size + 1 + 1 by omega) (cells 16 (limb (x / y)))) hw5) (show w.heap.size <= w.heap.size + 1 + 1 + 1 by omega) (cells 16 (limb (x % y)))) huE
   clear hS1 hS2 hS3 hS4 hSB hSS hw4 hw5 huE
   go_wp2_with fail
   exact bodyPost_ret (resCC rfl undW infoW _ _ _ rfl rfl ga gb) rfl ⟨rfl, gB⟩
  ·obtain ⟨i, rfl⟩ : ∃ i, k = i + 1 := ⟨k - 1, by omega⟩
   rw [show ((i + 1 : Nat) : Int) - 1 = (i : Nat) by omega]
   have him : i + m < 17 := by omega
   have hm1 : m = m1 + 1 := by have := Hm1.out; omega
   have HM := hid hm1
   have him1 : i + m1 < 17 := by omega
   have e1 : IntKind.i64.wrap ((i : Int) + (m : Int)) = (i : Int) + (m : Int) := IntWalk.i64_in _ (by omega)
   have e2 : IntKind.i64.wrap ((i : Int) + (m : Int) - 1) = (i : Int) + (m1 : Int) := by rw [IntWalk.i64_in _ (by omega)]; omega
   have e3 : IntKind.i64.wrap ((m : Int) - 1) = (m1 : Int) := by rw [IntWalk.i64_in _ (by omega)]; omega
   have e4 : ((i : Int) + (m : Int)).toNat = i + m := by omega
   have e5 : ((i : Int) + (m1 : Int)).toNat = i + m1 := by omega
   have j1 : (i : Int) + (m : Int) < 17 := by omega
   have j2 : (0 : Int) <= (i : Int) + (m : Int) := by omega
   have j3 : (i : Int) + (m1 : Int) < 17 := by omega
   have j4 : (0 : Int) <= (i : Int) + (m1 : Int) := by omega
   have j5 : (m1 : Int) < 17 := by omega
   have e6 : IntKind.i64.wrap ((i : Int) + (m : Int) + 1) = (i : Int) + (m : Int) + 1 := IntWalk.i64_in _ (by omega)
   have hgs := fun w => guess_any (S (i + m)) (S (i + m1)) (limb P m1) (HS.out _ him) (HS.out _ him1) (limb_lt _ _) w
   have hgl := guess_lt (h := S (i + m)) (y := limb P m1) (HS.out _ him1)
   obtain ⟨g, hg⟩ : ∃ g, guessN (S (i + m)) (S (i + m1)) (limb P m1) = g := ⟨_, rfl⟩
   rw [hg] at hgs hgl
   have HG := hid hgs
   have Hg := hid hg
   have HGL := hid hgl
   clear hgs hg hgl hm1
   have c1 := gp.cell (i + m) him
   have c2 := gp.cell (i + m1) him1
   have c3 := gq.cell m1 (by omega)
   go_wp2_with fail
   refine opU (S := (fun wq => Row wq (w.heap.size + 1 + 1) 78 16 (fun _ => 0) /\ Row wq (w.heap.size + 1 + 1 + 1) 78 16 (fun _ => 0) /\ Row wq p 155 17 S /\ Row wq q 155 17 (limb P) /\ Row wq t 78 16 T /\ wq.cell? ⟨p, i + m, none⟩ = some (.int .u64 (S (i + m) : Nat)) /\ wq.cell? ⟨p, i + m1, none⟩ = some (.int .u64 (S (i + m1) : Nat)) /\ wq.cell? ⟨q, m1, none⟩ = some (.int .u64 (limb P m1 : Nat)) /\ Below w.heap.size w wq)) (req := (fun _ => true)) (fun _ _ h hu => ⟨(h.1).up hu, (h.2.1).up hu, (h.2.2.1).up hu, (h.2.2.2.1).up hu, (h.2.2.2.2.1).up hu, hu.cell (h.2.2.2.2.2.1), hu.cell (h.2.2.2.2.2.2.1), hu.cell (h.2.2.2.2.2.2.2.1), below_up (h.2.2.2.2.2.2.2.2) hu⟩) ⟨gRow, gRow, gRow, gRow, gRow, (by first | assumption | (apply Blk.cell; exact gBlk; exact rfl)), (by first | assumption | (apply Blk.cell; exact gBlk; exact rfl)), (by first | assumption | (apply Blk.cell; exact gBlk; exact rfl)), gUp⟩ (fun wS hSS hSu => ?_)
   have ⟨hS1, hS2, hS3, hS4, hS5, hS6, hS7, hS8, hSB⟩ := hSS
   clear g3 g4 gp gq gT gB c1 c2 c3
   refine tkP 0 (some 38) hSu ?_
   refine tkP 1 (some 39) hSu ?_
   refine tkP 2 (some 40) hSu ?_
   refine tkP 3 (some 41) hSu ?_
   refine tkT 4 (some 42) rfl hSu hSS ?_ (hy := fun w' hSw => by ((try dsimp only at hSw); (try obtain ⟨_, _, _, _, _, _, _, _, _⟩ := hSw); go_simp; (try exact rfl)))
   refine tkP 5 (some 43) hSu ?_
   refine tkP 6 (some 44) hSu ?_
   refine tkP 7 (some 45) hSu ?_
   refine tkP 8 (some 46) hSu ?_
   refine tkP 9 (some 47) hSu ?_
   refine tkT 10 (some 48) rfl hSu hSS ?_ (hy := fun w' hSw => by ((try dsimp only at hSw); (try obtain ⟨_, _, _, _, _, _, _, _, _⟩ := hSw); go_simp; (try exact rfl)))
   refine tkP 11 (some 49) hSu ?_
   refine tkP 12 (some 50) hSu ?_
   refine tkP 13 (some 51) hSu ?_
   refine tkT 14 (some 52) rfl hSu hSS ?_ (hy := fun w' hSw => by ((try dsimp only at hSw); (try obtain ⟨_, _, _, _, _, _, _, _, _⟩ := hSw); go_simp; (try exact rfl)))
   refine tkC 15 (some 53) rfl hSu hSS ?_ (hy := fun w' hSw => (HG.out _))
   refine tkP 16 (some 13) hSu ?_
   refine wpAnyU_done (by kernel_rfl) (fun wF huE => ?_) _
   have g3 := hS1.up huE
   have g4 := hS2.up huE
   have gp := hS3.up huE
   have gq := hS4.up huE
   have gT := hS5.up huE
   have gB := below_up hSB huE
   clear hS1 hS2 hS3 hS4 hS5 hS6 hS7 hS8 hSB hSS huE
   go_wp2_with fail
   refine opU (S := (fun wq => Row wq (w.heap.size + 1 + 1) 78 16 (fun _ => 0) /\ Row wq (w.heap.size + 1 + 1 + 1) 78 16 (fun _ => 0) /\ Row wq p 155 17 S /\ Row wq q 155 17 (limb P) /\ Row wq t 78 16 T /\ Below w.heap.size w wq)) (req := (fun j => j != 9)) (fun _ _ h hu => ⟨(h.1).up hu, (h.2.1).up hu, (h.2.2.1).up hu, (h.2.2.2.1).up hu, (h.2.2.2.2.1).up hu, below_up (h.2.2.2.2.2) hu⟩) ⟨gRow, gRow, gRow, gRow, gRow, gUp⟩ (fun wS hSS hSu => ?_)
   have ⟨hS1, hS2, hS3, hS4, hS5, hSB⟩ := hSS
   clear g3 g4 gp gq gT gB
   have sl1 := fun w' => slice_win (p := p) him w'
   have sl2 := fun w' => slice_low (q := q) (m := m) (by omega) w'
   refine tkP 0 (some 54) hSu ?_
   refine tkP 1 (some 55) hSu ?_
   refine tkP 2 (some 56) hSu ?_
   refine tkP 3 (some 57) hSu ?_
   refine tkP 4 (some 58) hSu ?_
   refine tkP 5 (some 59) hSu ?_
   refine tkP 6 (some 60) hSu ?_
   refine tkP 7 (some 61) hSu ?_
   refine tkP 8 (some 62) hSu ?_
   refine wpAnyU_callN (i := 9) (d := some 63) (f := 106) (args := #[.slice (some ⟨p, i, none⟩) (m + 1) (17 - i), .slice (some ⟨q, 0, none⟩) m 17, .int .u64 (g : Nat)]) (R := fun w' v w'' => ∃ (S' : Nat -> Nat) (b : Nat), v = .bool (decide (b ≠ 0)) /\ b <= 1 /\ sumL (fun j => S' (i + j)) (m + 1) + g * P = sumL (fun j => S (i + j)) (m + 1) + b * bp (m + 1) /\ (∀ j, j < i \/ i + m < j -> S' j = S j) /\ (∀ j, j < 17 -> S' j < 18446744073709551616) /\ Row w'' p 155 17 S' /\ Near p w' w'') rfl rfl (by kernel_rfl) (by rfl) rfl (fun w' => by go_simp) (fun w' hw' => ?_) (fun w1 v w2 hw1 hR1 => ?_)
   ·refine (take_off p i m q (17 - i) 17 g S (limb P) HS.out (fun j _ => limb_lt _ j) hpq him HGL.out w' (hS3.up hw') (hS4.up hw')).mono ?_
    rintro e w'' ⟨S', b, rfl, h1, h2, h3, h4, h5, h6⟩
    rw [HPm.out] at h2
    exact ⟨_, rfl, S', b, rfl, h1, h2, h3, h4, h5, h6⟩
   try simp only [Act.put, pu1, pu2, pu3]
   obtain ⟨S1, b, rfl, hb, he, ho, hl, gp, hN⟩ := hR1
   have He := hid he
   have Ho := hid ho
   have Hl := hid hl
   clear he ho hl
   refine tkP 10 (some 14) hSu ?_
   refine wpAnyU_done (by kernel_rfl) (fun wF huE => ?_) _
   have l1 := (hSB.size : w.heap.size <= wS.heap.size)
   have l2 := hw1.size
   have g3 := (hN.row (show w.heap.size + 1 + 1 ≠ p by omega) (hS1.up hw1)).up huE
   have g4 := (hN.row (show w.heap.size + 1 + 1 + 1 ≠ p by omega) (hS2.up hw1)).up huE
   have gq := (hN.row (Ne.symm hpq) (hS4.up hw1)).up huE
   have gT := (hN.row (show t ≠ p by omega) (hS5.up hw1)).up huE
   have gB := below_up (hN.below (show w.heap.size <= p by omega) (below_up hSB hw1) (by omega)) huE
   replace gp := gp.up huE
   clear hS1 hS2 hS3 hS4 hS5 hSB hSS huE hw1 hN l1 l2
   obtain ⟨W, hW⟩ : ∃ W, sumL (fun j => S (i + j)) (m + 1) = W := ⟨_, rfl⟩
   have HW := hid hW
   have hq0 : W / P <= g := by
    have h1 := HR.out
    have h2 : m = m1 + 1 := HM.out
    have h3 : W < P * 18446744073709551616 := by
     have h4 : W * bp i <= sumL S 17 := by
      obtain ⟨d, hd⟩ : ∃ d, 17 = i + (m + 1) + d := ⟨17 - (i + (m + 1)), by omega⟩
      rw [hd, sumL_split, sumL_split, hW]
      omega
     rw [bp_succ] at h1
     have h5 : W * bp i < P * 18446744073709551616 * bp i := by
      have e : P * 18446744073709551616 * bp i = P * (bp i * 18446744073709551616) := by grind
      omega
     exact Nat.lt_of_mul_lt_mul_right h5
    have h6 := guess_ge (F := fun j => S (i + j)) (V := limb P) (m := m1) (P := P) (W := W) (fun j hj => HS.out _ (by omega)) (by show sumL (fun j => S (i + j)) (m1 + 1 + 1) = W; rw [<- h2]; exact hW) (by rw [<- h2]; exact HPm.out) HP0.out h3
    rw [<- h2, Hg.out] at h6
    exact h6
   have he := He.out
   rw [hW] at he
   clear He
   have He := hid he
   have Hq0 := hid hq0
   clear hW he hq0
   go_wp2_with fail
   go_loopw [13, 14] (fun tg tv wr => ∃ (g b : Nat) (S1 : Nat -> Nat), tg = .int .u64 (g : Nat) /\ tv = .bool (!decide (b = 0)) /\ b <= 1 /\ g < 18446744073709551616 /\ W / P <= g /\ sumL (fun j => S1 (i + j)) (m + 1) + g * P = W + b * bp (m + 1) /\ (∀ j, j < i \/ i + m < j -> S1 j = S j) /\ (∀ j, j < 17 -> S1 j < 18446744073709551616) /\
      Row wr (w.heap.size + 1 + 1) 78 16 (fun _ => 0) /\ Row wr (w.heap.size + 1 + 1 + 1) 78 16 (fun _ => 0) /\ Row wr p 155 17 S1 /\ Row wr q 155 17 (limb P) /\ Row wr t 78 16 T /\ Below w.heap.size w wr)
    (fun tg _ _ => (intOf tg).toNat)
   case atStart => exact ⟨g, b, S1, rfl, rfl, hb, HGL.out, Hq0.out, He.out, Ho.out, Hl.out, g3, g4, gp, gq, gT, gB⟩
   case round =>
    clear g3 g4 gp gq gT gB He Ho Hl Hq0 hb Hg HGL HG S1
    obtain ⟨g, b, S1, rfl, rfl, hb, hgl, hq0, he, ho, hl, g3, g4, gp, gq, gT, gB⟩ := hrel
    have He := hid he
    have Ho := hid ho
    have Hl := hid hl
    have Hq0 := hid hq0
    have Hgl := hid hgl
    clear he ho hl hq0 hgl
    rcases (show b = 0 \/ b = 1 by omega) with rfl | rfl
    ·have he := He.out
     rw [Nat.zero_mul, Nat.add_zero] at he
     obtain ⟨hlt, hgq⟩ := round_end he Hq0.out HP0.out
     have hR2 := HR.out
     have hR3 : sumL S 17 < bp (i + m + 1) := by
      have h1 := HP1.out
      have h2 : P * bp (i + 1) <= bp m * bp (i + 1) := Nat.mul_le_mul_right _ (Nat.le_of_lt h1)
      rw [<- bp_add, show m + (i + 1) = i + m + 1 by omega] at h2
      omega
     obtain ⟨hX1, hX3⟩ := long_step him (by omega) HS.out HX.out (HT0.out i (by omega)) hR3 HW.out rfl Ho.out he hlt
     have HX1 := hid hX1
     have HX3 := hid hX3
     have e7 : IntKind.i64.wrap ((i : Int) - 1) = (i : Int) - 1 := IntWalk.i64_in _ (by omega)
     have hi16 : (i : Int) < 16 := by omega
     have hct := gT.cell i (by omega)
     have hft := gT.frozen i
     have gT1 := gT.set i g
     have lt1 := lt.1
     have gp1 := gp.other ⟨t, i, none⟩ (.int .u64 (g : Nat)) (show p ≠ t by omega)
     have gq1 := gq.other ⟨t, i, none⟩ (.int .u64 (g : Nat)) (show q ≠ t by omega)
     have g31 := g3.other ⟨t, i, none⟩ (.int .u64 (g : Nat)) (show w.heap.size + 1 + 1 ≠ t by omega)
     have g41 := g4.other ⟨t, i, none⟩ (.int .u64 (g : Nat)) (show w.heap.size + 1 + 1 + 1 ≠ t by omega)
     have gB1 := gB.setCell (p := ⟨t, i, none⟩) (show w.heap.size <= t by omega) (.int .u64 (g : Nat))
     clear he hlt hgq hR2 hR3 hX1 hX3 g3 g4 gp gq gT gB
     go_wp2_with fail
     go_roundw
     case rel => exact ⟨i, S1, upd T i g, by omega, rfl, Hl.out, upd_lt HT.out Hgl.out, fun j hj => by rw [upd_other _ _ _ (by omega)]; exact HT0.out j (by omega), HX1.out, HX3.out, g31, g41, gp1, gq1, gT1, gB1⟩
     case measure => simp [intOf] <;> omega
    ·have he := He.out
     rw [Nat.one_mul] at he
     have hW1 := sumL_lt (f := fun j => S1 (i + j)) (k := m + 1) fun j hj => Hl.out _ (by omega)
     obtain ⟨hg1, hq1⟩ := round_more he hW1 HP0.out
     obtain ⟨G, hG⟩ : ∃ G, g - 1 = G := ⟨_, rfl⟩
     rw [hG] at hq1
     have HGg := hid hG
     have HGq := hid hq1
     have HG1 := hid hg1
     have hgl := Hgl.out
     have eg : IntKind.u64.wrap ((g : Int) - 1) = (G : Nat) := by rw [IntKind.wrap_u64]; omega
     clear he hW1 hg1 hq1 hG hgl
     go_wp2_with fail
     refine opU (S := (fun wq => Row wq (w.heap.size + 1 + 1) 78 16 (fun _ => 0) /\ Row wq (w.heap.size + 1 + 1 + 1) 78 16 (fun _ => 0) /\ Row wq p 155 17 S1 /\ Row wq q 155 17 (limb P) /\ Row wq t 78 16 T /\ Below w.heap.size w wq)) (req := (fun j => j != 8)) (fun _ _ h hu => ⟨(h.1).up hu, (h.2.1).up hu, (h.2.2.1).up hu, (h.2.2.2.1).up hu, (h.2.2.2.2.1).up hu, below_up (h.2.2.2.2.2) hu⟩) ⟨gRow, gRow, gRow, gRow, gRow, gUp⟩ (fun wS hSS hSu => ?_)
     have ⟨hS1, hS2, hS3, hS4, hS5, hSB⟩ := hSS
     clear g3 g4 gp gq gT gB
     refine tkP 0 (some 67) hSu ?_
     refine tkP 1 (some 68) hSu ?_
     refine tkP 2 (some 69) hSu ?_
     refine tkP 3 (some 70) hSu ?_
     refine tkP 4 (some 71) hSu ?_
     refine tkP 5 (some 72) hSu ?_
     refine tkP 6 (some 73) hSu ?_
     refine tkP 7 (some 74) hSu ?_
     refine wpAnyU_callN (i := 8) (d := some 75) (f := 107) (args := #[.slice (some ⟨p, i, none⟩) (m + 1) (17 - i), .slice (some ⟨q, 0, none⟩) m 17]) (R := fun w' v w'' => ∃ (S' : Nat -> Nat) (b : Nat), v = .bool (decide (b ≠ 0)) /\ b <= 1 /\ sumL (fun j => S' (i + j)) (m + 1) + b * bp (m + 1) = sumL (fun j => S1 (i + j)) (m + 1) + P /\ (∀ j, j < i \/ i + m < j -> S' j = S1 j) /\ (∀ j, j < 17 -> S' j < 18446744073709551616) /\ Row w'' p 155 17 S' /\ Near p w' w'') rfl rfl (by kernel_rfl) (by rfl) rfl (fun w' => by go_simp) (fun w' hw' => ?_) (fun w1 v w2 hw1 hR1 => ?_)
     ·refine (put_back p i m q (17 - i) 17 S1 (limb P) Hl.out (fun j _ => limb_lt _ j) hpq him w' (hS3.up hw') (hS4.up hw')).mono ?_
      rintro e w'' ⟨S', b, rfl, h1, h2, h3, h4, h5, h6⟩
      rw [HPm.out] at h2
      exact ⟨_, rfl, S', b, rfl, h1, h2, h3, h4, h5, h6⟩
     try simp only [Act.put, pu1, pu2, pu3]
     obtain ⟨S2, b', rfl, hb', he2, ho2, hl2, gp, hN⟩ := hR1
     have Hn2 := hid (round_next (b := b') (by have := He.out; rw [Nat.one_mul] at this; exact this) he2 HG1.out hb')
     have Ho2 := hid ho2
     have Hl2 := hid hl2
     clear he2 ho2 hl2
     rcases (show b' = 0 \/ b' = 1 by omega) with rfl | rfl
     ·skip
      refine tkP 9 (some 76) hSu ?_
      refine tkP 10 (some 14) hSu ?_
      refine wpAnyU_done (by kernel_rfl) (fun wF huE => ?_) _
      have l1 := (hSB.size : w.heap.size <= wS.heap.size)
      have l2 := hw1.size
      have g3 := (hN.row (show w.heap.size + 1 + 1 ≠ p by omega) (hS1.up hw1)).up huE
      have g4 := (hN.row (show w.heap.size + 1 + 1 + 1 ≠ p by omega) (hS2.up hw1)).up huE
      have gq := (hN.row (Ne.symm hpq) (hS4.up hw1)).up huE
      have gT := (hN.row (show t ≠ p by omega) (hS5.up hw1)).up huE
      have gB := below_up (hN.below (show w.heap.size <= p by omega) (below_up hSB hw1) (by omega)) huE
      replace gp := gp.up huE
      clear hS1 hS2 hS3 hS4 hS5 hSB hSS huE hw1 hN l1 l2 hb'
      go_wp2_with fail
      go_roundw
      case rel =>
       have h1 := Hn2.out
       rw [HGg.out] at h1
       exact ⟨G, 1, S2, rfl, rfl, by omega, by have := Hgl.out; have := HGg.out; omega, HGq.out, h1, fun j hj => (Ho2.out j hj).trans (Ho.out j hj), Hl2.out, g3, g4, gp, gq, gT, gB⟩
      case measure => have := HGg.out; have := HG1.out; simp [intOf] <;> omega
     ·skip
      refine tkP 9 (some 76) hSu ?_
      refine tkP 10 (some 14) hSu ?_
      refine wpAnyU_done (by kernel_rfl) (fun wF huE => ?_) _
      have l1 := (hSB.size : w.heap.size <= wS.heap.size)
      have l2 := hw1.size
      have g3 := (hN.row (show w.heap.size + 1 + 1 ≠ p by omega) (hS1.up hw1)).up huE
      have g4 := (hN.row (show w.heap.size + 1 + 1 + 1 ≠ p by omega) (hS2.up hw1)).up huE
      have gq := (hN.row (Ne.symm hpq) (hS4.up hw1)).up huE
      have gT := (hN.row (show t ≠ p by omega) (hS5.up hw1)).up huE
      have gB := below_up (hN.below (show w.heap.size <= p by omega) (below_up hSB hw1) (by omega)) huE
      replace gp := gp.up huE
      clear hS1 hS2 hS3 hS4 hS5 hSB hSS huE hw1 hN l1 l2 hb'
      go_wp2_with fail
      go_roundw
      case rel =>
       have h1 := Hn2.out
       rw [HGg.out] at h1
       exact ⟨G, 0, S2, rfl, rfl, by omega, by have := Hgl.out; have := HGg.out; omega, HGq.out, h1, fun j hj => (Ho2.out j hj).trans (Ho.out j hj), Hl2.out, g3, g4, gp, gq, gT, gB⟩
      case measure => have := HGg.out; have := HG1.out; simp [intOf] <;> omega
set_option maxHeartbeats 1000000 in
theorem divide_many (x y : Nat) (hx : x < bp 16) (hy : y < bp 16) (h : ¬ x < y) (h1 : 2 <= lenL (limb y) 16) (w : World) :
   Calls Tryz.prog 91 #[wideV x, wideV y] w fun e w' => e = .returned (divV x y) /\ Up w w' := by
 have hO := fun w => order_any x y hx hy w
 have ho := ordZ_ge h
 have hL := fun w => length_any y w
 have hD := fun w => divide_long x y hx hy (by omega) h1 w
 obtain ⟨n, hn⟩ : ∃ n, lenL (limb y) 16 = n := ⟨_, rfl⟩
 rw [hn] at hL h1
 have hn1 : ((n : Int) == 1) = false := by simp; omega
 have HO := hid hO
 have HL := hid hL
 unfold divV at *
 clear hO hL h hn
 generalize ordZ x y = oz at *
 have hoz : ¬ oz < 0 := by omega
 obtain ⟨q, eq⟩ : ∃ q, x / y = q := ⟨_, rfl⟩
 obtain ⟨r, er⟩ : ∃ r, x % y = r := ⟨_, rfl⟩
 rw [eq, er] at hD ⊢
 clear eq er
 unfold wideV at *
 have HD := hid hD
 clear hD
 go_enter Tryz.func91, Tryz.ntmps91
 go_wp2_with (first | ((with_reducible apply ld_rowP undW infoW); exact rfl; exact rfl; exact gRow) | ((with_reducible apply st_rowP infoW); exact rfl; exact rfl; exact gRow) | ((with_reducible apply st_rowZ infoW); exact rfl; exact rfl; exact gRow) | (go_at_call 96; refine (HO.out _).mono ?_; rintro e w' ⟨rfl, hu⟩) | (go_at_call 93; refine (HL.out _).mono ?_; rintro e w' ⟨rfl, hu⟩) | (go_at_call 98; refine (HD.out _).mono ?_; rintro e w' ⟨rfl, hu⟩))
 exact bodyPost_ret (resCC rfl undW infoW _ _ _ rfl rfl gRow gRow) rfl ⟨rfl, gUp⟩
theorem divide_any {x y : Nat} (hx : x < bp 16) (hy : y < bp 16) (h0 : y ≠ 0) (w : World) :
   Calls Tryz.prog 91 #[wideV x, wideV y] w fun e w' => e = .returned (divV x y) /\ Up w w' := by
 by_cases h : x < y
 ·exact divide_less x y hx hy h w
 ·have h1 : lenL (limb y) 16 ≠ 0 := fun e => by
   have := (lenL_zero_iff (limb y) 16).1 e
   rw [sumL_limb, Nat.mod_eq_of_lt hy] at this
   exact h0 this
  by_cases h2 : lenL (limb y) 16 = 1
  ·exact divide_one x y hx hy h h2 w
  ·exact divide_many x y hx hy h (by omega) w
theorem div_any {a b : Int} (ha : InR a) (hb' : InR b) (w : World) :
   Calls Tryz.prog 83 #[wideV (enc a), wideV (enc b)] w fun e w' => e = .returned (divZV a b) /\ Up w w' :=
 div_z ha hb' (fun h w => divide_any (enc_natAbs ha).2 (enc_natAbs hb').2 (by omega) w) w
def tk (F R : List Int) (q : Int) (n : Nat) : List Int := mk n fun i => (zth F 0 * zth R (i + 1) - zth R 0 * zth F (i + 1)).tdiv q
def Few (l : List Int) : Prop := ∀ i, (zth l i).natAbs < bp 5
theorem few_inR {z : Int} {k : Nat} (hk : k <= 15) (h : z.natAbs < bp k) : InR z := inR_bp hk h
theorem tdiv_bp {a b : Int} {k : Nat} (h : a.natAbs < bp k) : (a.tdiv b).natAbs < bp k := by
 rw [Int.natAbs_tdiv]
 exact Nat.lt_of_le_of_lt (Nat.div_le_self _ _) h
theorem up_var {w0 w2 w3 w4 : World} {C D : Array Value} {t : TypeId} (h : Up w0 w2) (h3 : Up (w2.alloc (.cells C t)) w3) (h4 : Up (w3.setRow w2.heap.size D) w4) : Up w0 w4 :=
 Up.trans (below_setRow ((h.trans (Up.alloc _ _)).trans h3) h.size D) h4
def Rv (w : World) (v : Value) (L : List (List Int)) : Prop :=
 (L = [] /\ ∃ p c, v = .slice p 0 c) \/ ∃ g o cap C, v = .slice (some ⟨g, o, none⟩) L.length cap /\ L.length <= cap /\ Blk w g 80 C /\ ∀ i, i < L.length -> ∃ s, C[o + i]? = some s /\ Wv w s (L.getD i [])
theorem Rv.slice {w : World} {v : Value} {L : List (List Int)} (h : Rv w v L) : ∃ p c, v = .slice p L.length c := by
 rcases h with ⟨rfl, p, c, rfl⟩ | ⟨g, o, cap, C, rfl, _⟩
 ·exact ⟨p, c, rfl⟩
 ·exact ⟨_, cap, rfl⟩
def Wb (w : World) (base : Nat) (v : Value) (l : List Int) : Prop := Wv w v l /\ ∀ a n c, v = .slice (some a) n c -> 0 < n -> base <= a.block
theorem Wb.up {w w' : World} (hu : Up w w') {base : Nat} {v : Value} {l : List Int} (h : Wb w base v l) : Wb w' base v l := ⟨h.1.up hu, h.2⟩
theorem OwnW.wb {w : World} {base b : Nat} {v : Value} {l : List Int} (h : OwnW w b v l) (hb : base <= b) : Wb w base v l := by
 refine ⟨h.wv, fun a n c e h0 => ?_⟩
 obtain ⟨_, ⟨rfl, h1⟩ | ⟨g, cap, cur, rfl, h2, _⟩⟩ := h
 ·simp at e
 ·injection e with e1
  injection e1 with e1
  subst e1
  exact Nat.le_trans hb h2
def OwnR (w : World) (base : Nat) (v : Value) (L : List (List Int)) : Prop :=
 ∃ xs : List Value, w.ownsRow base 80 1 v L.length xs /\ ∀ i, i < L.length -> ∃ s, xs[i]? = some s /\ Wb w base s (L.getD i [])
theorem OwnR.up {w w' : World} {base : Nat} {v : Value} {L : List (List Int)} (hu : Up w w') (h : OwnR w base v L) : OwnR w' base v L := by
 obtain ⟨xs, h1, h2⟩ := h
 exact ⟨xs, World.ownsRow.up h1 hu, fun i hi => by obtain ⟨s, h5, h6⟩ := h2 i hi; exact ⟨s, h5, h6.up hu⟩⟩
theorem OwnR.nil (w : World) (base : Nat) : OwnR w base (.slice none 0 0) [] := ⟨[], World.ownsRow_nil _ _ _ _, fun _ hi => absurd hi (Nat.not_lt_zero _)⟩
def Rz (w : World) (v : Value) (L : List (List Int)) : Prop :=
 (L = [] /\ ∃ p c, v = .slice p 0 c) \/ ∃ g cap C, v = .slice (some ⟨g, 0, none⟩) L.length cap /\ L.length <= cap /\ Blk w g 80 C /\ ∀ i, i < L.length -> ∃ s, C[i]? = some s /\ Wv w s (L.getD i [])
theorem Rz.up {w w' : World} (hu : Up w w') {v : Value} {L : List (List Int)} (h : Rz w v L) : Rz w' v L := by
 rcases h with h | ⟨g, cap, C, h1, h2, h3, h4⟩
 ·exact .inl h
 ·exact .inr ⟨g, cap, C, h1, h2, h3.up hu, fun i hi => by obtain ⟨s, h5, h6⟩ := h4 i hi; exact ⟨s, h5, h6.up hu⟩⟩
theorem Rz.open {w : World} {v : Value} {L : List (List Int)} (h : Rz w v L) (h0 : 0 < L.length) :
   ∃ g cap C, v = .slice (some ⟨g, 0, none⟩) L.length cap /\ L.length <= cap /\ Blk w g 80 C /\ ∀ i, i < L.length -> ∃ s, C[i]? = some s /\ Wv w s (L.getD i []) := by
 rcases h with ⟨rfl, _⟩ | h
 ·exact absurd h0 (by decide)
 ·exact h
theorem Rz.slice {w : World} {v : Value} {L : List (List Int)} (h : Rz w v L) : ∃ p c, v = .slice p L.length c := by
 rcases h with ⟨rfl, p, c, rfl⟩ | ⟨g, cap, C, rfl, _⟩
 ·exact ⟨p, c, rfl⟩
 ·exact ⟨_, cap, rfl⟩
theorem OwnR.rz {w : World} {base : Nat} {v : Value} {L : List (List Int)} (h : OwnR w base v L) : Rz w v L := by
 obtain ⟨xs, ⟨_, ⟨rfl, h0⟩ | ⟨g, cap, cur, rfl, _, hB, hc, _, _, ht⟩⟩, h2⟩ := h
 ·exact .inl ⟨List.length_eq_zero_iff.1 h0, _, _, rfl⟩
 ·refine .inr ⟨g, cap, cur, rfl, hc, hB, fun i hi => ?_⟩
  obtain ⟨s, h3, h4⟩ := h2 i hi
  rw [<- ht, List.getElem?_take_of_lt (by omega), Array.getElem?_toList] at h3
  exact ⟨s, h3, h4.1⟩
theorem OwnR.slice {w : World} {base : Nat} {v : Value} {L : List (List Int)} (h : OwnR w base v L) : ∃ p c, v = .slice p L.length c := h.rz.slice
theorem Wv.grown {w w' : World} {row : Option Nat} {v : Value} {l : List Int} (h : Wv w v l) (hg : w.grownBy w' row) (hr : ∀ k, row = some k -> ∃ C, Blk w k 80 C) : Wv w' v l := by
 rcases h with h | ⟨g, cap, C, h1, h2, h3, h4⟩
 ·exact .inl h
 ·refine .inr ⟨g, cap, C, h1, h2, ?_, h4⟩
  unfold Blk
  rw [hg.block g h3.lt ?_]
  ·exact h3
  ·intro e
   obtain ⟨D, hD⟩ := hr g e.symm
   unfold Blk at hD h3
   rw [hD] at h3
   simp at h3
theorem appR {ops : Array Oper} {rest : List Oper} {Q : Exit -> Act -> World -> Prop} {a : Act} {w : World} {d : Option Tmp} {s u : Operand} {ty : TypeId} {pos : String} {af : Array Edge} {base g c : Nat} {v : Value} {L : List (List Int)} {x : Value} {r : List Int}
   (hs : a.eval s = v) (hu : a.eval u = .slice (some ⟨g, 0, none⟩) 1 c) (hown : OwnR w base v L) (hV : w.cell? ⟨g, 0, none⟩ = some x) (hx : Wb w base x r) (hbase : base <= w.heap.size) (hl : L.length < 1000000)
   (h : ∀ v' w', OwnR w' base v' (L ++ [r]) -> w.grownBy w' v.ownBlock -> Below base w w' -> wpList Tryz.prog ops Q rest (a.put d v') w') :
   wpList Tryz.prog ops Q ({ dst := d, op := .call { callee := .builtin .append, args := #[s, u], argTypes := #[51, 51] }, type := ty, pos := pos, after := af, guard := none } :: rest) a w := by
 obtain ⟨i0, hi0, he⟩ := Option.map_eq_some_iff.1 infoRs
 simp only [Prod.mk.injEq] at he
 obtain ⟨xs, hxs, hE⟩ := hown
 have hlt := World.ownsRow.lt hxs
 have hrow : ∀ k, v.ownBlock = some k -> ∃ C, Blk w k 80 C := by
  intro k hk
  obtain ⟨_, ⟨rfl, _⟩ | ⟨g', cap, cur, rfl, _, hB, _⟩⟩ := hxs
  ·simp [Value.ownBlock] at hk
  ·simp [Value.ownBlock] at hk; subst hk; exact ⟨cur, hB⟩
 have hxl : xs.length = L.length := by have := hxs.1; omega
 obtain ⟨px, cx, rfl⟩ := hx.1.slice
 refine wpList_append_own w rfl s u 51 rfl base 80 i0 _ 1 24 undRs hi0 he.1 he.2.1 he.2.2 rfl (by decide) v L.length xs hs hxs ⟨g, 0, none⟩ 1 c [.slice px r.length cx] hu rfl (fun j y hy => by
  rcases j with _ | j
  ·simp at hy; subst hy; rw [Addr.add_mid]; exact hV
  ·simp at hy) (by simp [Value.oneCell']) (by unfold maxLen; omega) (by omega) hbase ?_
 intro v' w' h1 h2 _
 refine h v' w' ⟨xs ++ [.slice px r.length cx], by rw [List.length_append]; exact h1, fun i hi => ?_⟩ h2 ⟨h2.os, h2.tape, h2.output, h2.size, fun k hk => h2.block k (by omega) fun e => ?_⟩
 ·rw [List.length_append, List.length_singleton] at hi
  by_cases e : i < L.length
  ·obtain ⟨s', h3, h4⟩ := hE i e
   refine ⟨s', by rw [List.getElem?_append_left (by omega)]; exact h3, ?_⟩
   rw [show (L ++ [r]).getD i [] = L.getD i [] from by rw [List.getD_eq_getElem?_getD, List.getD_eq_getElem?_getD, List.getElem?_append_left e]]
   exact ⟨h4.1.grown h2 hrow, h4.2⟩
  ·obtain rfl : i = L.length := by omega
   refine ⟨_, by rw [List.getElem?_append_right (by omega), hxl, Nat.sub_self]; rfl, ?_⟩
   rw [show (L ++ [r]).getD L.length [] = r from by rw [List.getD_eq_getElem?_getD, List.getElem?_append_right (Nat.le_refl _), Nat.sub_self]; rfl]
   exact ⟨hx.1.grown h2 hrow, hx.2⟩
 ·have := hlt k e.symm
  omega
theorem take_map_succ {α β : Type} (f : α -> β) (L : List α) (d : α) {k : Nat} (hk : k < L.length) : (L.map f).take (k + 1) = (L.map f).take k ++ [f (L.getD k d)] := by
 rw [List.take_add_one, List.getElem?_eq_getElem (by rw [List.length_map]; exact hk), List.getElem_map, List.getD_eq_getElem?_getD, List.getElem?_eq_getElem hk]
 rfl
theorem leavesR_up {P : Program} {R : Value -> World -> Prop} {w w' : World} {r : Result Next} {u : Value} (h : r = .ok (.value u) w') (hu : Up w w') (hR : R u w') : LeavesR P R w r := by subst h; exact ⟨hR, hu⟩
def ouC (N : Int) (l : List Int) (x : Int) (h : List Int) : Int := if rt N l && decide ((h.length : Int) = N) then (if (ouL N.toNat l x h).all fit then 0 else 21) else 23
def ouR (N : Int) (l : List Int) (x : Int) (h : List Int) : List Int := if ouC N l x h = 0 then ouL N.toNat l x h else []
def ouN (N : Int) (l : List Int) (x : Int) (h : List Int) : Int := if ouC N l x h = 0 then N else 0
theorem ouL_len (n : Nat) (l : List Int) (x : Int) (h : List Int) : (ouL n l x h).length = l.length := mk_len _ _
theorem ouL_at {n : Nat} {l : List Int} (x : Int) (h : List Int) (hn : n <= 8) (hl : l.length = triN n) {i j : Nat} (hij : i <= j) (hj : j < n) : zth (ouL n l x h) (pos n i j) = zth l (pos n i j) + x * zth h i * zth h j := by
 unfold ouL
 rw [mk_at (by rw [hl]; exact pos_lt hij hj), prs_at hn hij hj]
theorem fit_i64 {v : Int} (h : fit v = true) : I64 v := by have := of_decide_eq_true h; unfold I64; omega
theorem In64.of_fit {l : List Int} (h : ∀ q, q < l.length -> fit (zth l q) = true) : In64 l := fun q hq => fit_i64 (h q hq)
theorem ord_len {x y : Nat} (h : nl x < nl y) : x < y := by
 have h1 := lt_bp_nl x
 have h2 := bp_le_nl (show 0 < nl y by omega)
 have h3 := bp_mono (show nl x <= nl y - 1 by omega)
 omega
set_option maxHeartbeats 1000000 in
theorem cmp_am {x y : Nat} {va vb : Value} {w : World} (ha : Am w va x) (hb : Am w vb y) (_ : nl x < 1000000) (hy : nl y < 1000000) :
   Calls Tryz.prog 58 #[va, vb] w fun e w' => e = .returned (.int .i64 (ordZ x y)) /\ Up w w' := by
 obtain ⟨a, ca, rfl, hca1, hca0⟩ := ha.open
 obtain ⟨b, cb, rfl, hcb1, hcb0⟩ := hb.open
 clear ha hb
 rcases Nat.lt_trichotomy (nl x) (nl y) with h | h | h
 ·have e : ordZ x y = -1 := by unfold ordZ; rw [if_pos (ord_len h)]
  rw [e]
  have d0 : ((nl x : Int) != (nl y : Nat)) = true := by simp; omega
  have d1 : decide ((nl x : Int) < (nl y : Nat)) = true := decide_eq_true (by omega)
  clear e hca0 hcb0
  generalize nl x = p at *
  generalize nl y = q at *
  go_enter Tryz.func58, Tryz.ntmps58
  go_wp2
  go_ret
  exact ⟨rfl, gUp⟩
 ·have H := hid h
  go_enter Tryz.func58, Tryz.ntmps58
  rw [h]
  clear h
  go_wp2
  go_loopw [5] (fun i wr => ∃ m : Nat, m <= nl y /\ i = .int .i64 ((m : Int) - 1) /\ (∀ i, m <= i -> i < nl y -> limb x i = limb y i) /\ Below w.heap.size w wr)
   (fun i _ => (intOf i + 1).toNat)
  case atStart => exact ⟨nl y, Nat.le_refl _, rfl, fun i h1 h2 => by omega, Below.refl _ _⟩
  case round =>
   obtain ⟨m, hm, rfl, hgx, hB⟩ := hrel
   have Hgx := hid hgx
   clear hgx
   by_cases hlt : 0 < m
   ·obtain ⟨k, rfl⟩ : ∃ k, m = k + 1 := ⟨m - 1, by omega⟩
    have e : (((k + 1 : Nat) : Int) - 1) = (k : Int) := by omega
    rw [e]
    clear e
    have hHy := H.out
    obtain ⟨ba, rfl, hba, hca⟩ := hca0 k (by omega)
    obtain ⟨bb, rfl, hbb, hcb⟩ := hcb0 k (by omega)
    clear hHy
    have hcx := hca wr hB
    have hcy := hcb wr hB
    have hl1 := limb_lt x k
    have hl2 := limb_lt y k
    have sx : sumL (limb x) (nl y) = x := by rw [<- H.out]; exact sum_nl x
    have sy := sum_nl y
    have h1 : limb x k < limb y k -> ordZ x y = -1 := fun h => by
     have := sumL_lt_of (fun i _ => limb_lt x i) (show k < nl y by omega) (fun j h1 h2 => Hgx.out j (by omega) h2) h
     rw [sx, sy] at this
     simp [ordZ, this]
    have h2 : limb y k < limb x k -> ordZ x y = 1 := fun h => by
     have := sumL_lt_of (fun i _ => limb_lt y i) (show k < nl y by omega) (fun j h1 h2 => (Hgx.out j (by omega) h2).symm) h
     rw [sx, sy] at this
     have h3 : ¬ x < y := by omega
     simp [ordZ, this, h3]
    have hE : limb x k = limb y k -> ∀ i, k <= i -> i < nl y -> limb x i = limb y i := fun h i h1 h2 => by
     by_cases e : i = k
     ·rw [e]; exact h
     ·exact Hgx.out i (by omega) h2
    have H1 := hid h1
    have H2 := hid h2
    have HE := hid hE
    clear sx sy h1 h2 hE hca hcb hca0 hcb0
    generalize limb x k = lx at *
    generalize limb y k = ly at *
    rcases Nat.lt_trichotomy lx ly with h | h | h
    ·have d0 : ((lx : Int) != ly) = true := by simp; omega
     have d1 : decide ((lx : Int) < ly) = true := decide_eq_true (by omega)
     go_wp2
     go_quiet (fail)
     go_wp2
     go_quiet (fail)
     go_wp2
     go_ret
     exact ⟨ret_int (H1.out h).symm, below_drewN (below_drewN hB _) _⟩
    ·have HF := hid (HE.out h)
     have d0 : ((lx : Int) != ly) = false := by simp; omega
     clear HE
     go_wp2
     go_quiet (fail)
     go_wp2
     go_roundw
     case rel => exact ⟨k, by omega, by go_num, HF.out, below_drewN hB _⟩
     case measure => simp [intOf] <;> omega
    ·have d0 : ((lx : Int) != ly) = true := by simp; omega
     have d1 : decide ((lx : Int) < ly) = false := decide_eq_false (by omega)
     go_wp2
     go_quiet (fail)
     go_wp2
     go_quiet (fail)
     go_wp2
     go_ret
     exact ⟨ret_int (H2.out h).symm, below_drewN (below_drewN hB _) _⟩
   ·obtain rfl : m = 0 := by omega
    have h0 : x = y := by
     rw [<- sum_nl x, <- sum_nl y, H.out]
     exact sumL_congr fun i hi => Hgx.out i (by omega) hi
    have H0 := hid h0
    clear h0
    go_wp2
    go_ret
    exact ⟨ret_int (by simp [ordZ, H0.out]), hB⟩
 ·have e : ordZ x y = 1 := by
   have := ord_len h
   unfold ordZ
   rw [if_neg (by omega)]
   first | rw [if_neg (by omega)] | rw [if_pos (by omega)]
  rw [e]
  have d0 : ((nl x : Int) != (nl y : Nat)) = true := by simp; omega
  have d1 : decide ((nl x : Int) < (nl y : Nat)) = false := decide_eq_false (by omega)
  clear e hca0 hcb0
  generalize nl x = p at *
  generalize nl y = q at *
  go_enter Tryz.func58, Tryz.ntmps58
  go_wp2
  go_ret
  exact ⟨rfl, gUp⟩
theorem Am.setRow {w : World} {v : Value} {x g : Nat} {C D : Array Value} (h : Am w v x) (hg : Blk w g 59 C) : Am (w.setRow g D) v x := by
 obtain ⟨a, c, h1, h2, h3⟩ := h
 refine ⟨a, c, h1, h2, fun h0 => ?_⟩
 obtain ⟨b, E, h4, h6, h7⟩ := h3 h0
 refine ⟨b, E, h4, h6.row_other D ?_, h7⟩
 rintro rfl
 unfold Blk at *
 rw [hg] at h6
 simp at h6
theorem Big.setRow {w : World} {v : Value} {z : Int} {g : Nat} {C D : Array Value} (h : Big w v z) (hg : Blk w g 59 C) : Big (w.setRow g D) v z := by
 obtain ⟨a, c, h1, h2⟩ := h
 exact ⟨a, c, h1, h2.setRow hg⟩
theorem Big.shape {w : World} {v : Value} {z : Int} (h : Big w v z) : ∃ b a n c, v = .agg #[.bool b, .slice a n c] := by
 obtain ⟨a, c, h1, _⟩ := h
 exact ⟨_, a, _, c, h1⟩
theorem pm_int (z : Int) : z = pm (decide (z < 0)) z.natAbs := by
 by_cases h : z < 0 <;> simp [pm, h] <;> omega
theorem pm_same (p : Bool) (X Y : Nat) : pm p X + pm p Y = pm p (X + Y) := by cases p <;> simp [pm] <;> omega
theorem pm_more {p : Bool} {X Y : Nat} (h : Y <= X) : pm p X + pm (!p) Y = pm p (X - Y) := by cases p <;> simp [pm] <;> omega
theorem pm_less {p : Bool} {X Y : Nat} (h : X < Y) : pm p X + pm (!p) Y = pm (!p) (Y - X) := by cases p <;> simp [pm] <;> omega
set_option maxHeartbeats 1000000 in
theorem add_pm (p q : Bool) (X Y : Nat) (a b : Option Addr) (ca cb : Nat) (w : World) (hA : Am w (.slice a (nl X) ca) X) (hB : Am w (.slice b (nl Y) cb) Y) (hx : nl X < 50000) (hy : nl Y < 50000) :
   Calls Tryz.prog 35 #[.agg #[.bool p, .slice a (nl X) ca], .agg #[.bool q, .slice b (nl Y) cb]] w fun e w' => Up w w' /\ ∃ v, e = .returned v /\ Big w' v (pm p X + pm q Y) := by
 by_cases hpq : p = q
 ·subst hpq
  rw [pm_same]
  go_enter Tryz.func35, Tryz.ntmps35
  go_wp2
  refine opU (S := (fun wq => Blk wq (w.heap.size + 1 + 1) 59 #[.bool false, .slice none 0 0] /\ wq.cell? ⟨w.heap.size, 0, none⟩ = some (.bool p) /\ wq.cell? ⟨w.heap.size, 1, none⟩ = some (.slice a (nl X) ca) /\ wq.cell? ⟨w.heap.size + 1, 1, none⟩ = some (.slice b (nl Y) cb) /\ Below w.heap.size w wq)) (req := (fun j => j != 8)) (fun _ _ h hu => ⟨(h.1).up hu, hu.cell (h.2.1), hu.cell (h.2.2.1), hu.cell (h.2.2.2.1), below_up (h.2.2.2.2) hu⟩) ⟨gBlk, (by first | assumption | (apply Blk.cell; exact gBlk; exact rfl)), (by first | assumption | (apply Blk.cell; exact gBlk; exact rfl)), (by first | assumption | (apply Blk.cell; exact gBlk; exact rfl)), gUp⟩ (fun wS hSS hSu => ?_)
  have ⟨hS1, hS2, hS3, hS4, hSB⟩ := hSS
  refine tkP 0 (some 10) hSu ?_
  refine tkT 1 (some 11) rfl hSu hSS ?_ (hy := fun w' hSw => by ((try dsimp only at hSw); (try obtain ⟨_, _, _, _, _⟩ := hSw); go_simp; (try exact rfl)))
  refine tkP 2 (some 12) hSu ?_
  refine tkT 3 (some 13) rfl hSu hSS ?_ (hy := fun w' hSw => by ((try dsimp only at hSw); (try obtain ⟨_, _, _, _, _⟩ := hSw); go_simp; (try exact rfl)))
  refine tkP 4 (some 14) hSu ?_
  refine tkT 5 (some 15) rfl hSu hSS ?_ (hy := fun w' hSw => by ((try dsimp only at hSw); (try obtain ⟨_, _, _, _, _⟩ := hSw); go_simp; (try exact rfl)))
  refine wpAnyU_callE (i := 6) (d := (some 16)) rfl rfl (by kernel_rfl) (by rfl) hSu.out (fun w' => by go_simp) (fun w' hw' => plus_am (hA.up (below_up hSB hw')) (hB.up (below_up hSB hw')) (by omega) (by omega)) fun vP wP hwP hRP => ?_
  try simp only [Act.put, pu1, pu2, pu3]
  obtain ⟨a1, c1, rfl⟩ := hRP.shape
  refine wpAnyU_callE (i := 7) (d := (some 17)) rfl rfl (by kernel_rfl) (by rfl) hSu.out (fun w' => by go_simp) (fun w' hw' => callE_of (made_any p a1 (nl (X + Y)) c1 w')) fun vM wM hwM hRM => ?_
  try simp only [Act.put, pu1, pu2, pu3]
  subst hRM
  refine wpAnyU_one (i := 8) rfl (by kernel_rfl) (by rfl) fun w2 hw2 => ?_
  have gK := ((hS1.up hwP).up hwM).up hw2
  refine wp_stB rfl rfl rfl rfl gK rfl rfl (one2 _ _ _ _) ?_
  refine ⟨fun h => by simp at h, ?_⟩
  try simp only [Act.put, pu1, pu2, pu3]
  refine wpAnyU_done (by kernel_rfl) (fun wF huE => ?_) _
  have gR := (gK.setRow #[.bool (p && decide (0 < nl (X + Y))), .slice a1 (nl (X + Y)) c1]).up huE
  have gA := (((hRP.up hwM).up hw2).setRow (D := #[.bool (p && decide (0 < nl (X + Y))), .slice a1 (nl (X + Y)) c1]) gK).up huE
  have gB := below_up (below_setRow (below_up (below_up (below_up hSB hwP) hwM) hw2) (show w.heap.size <= w.heap.size + 1 + 1 by omega) #[.bool (p && decide (0 < nl (X + Y))), .slice a1 (nl (X + Y)) c1]) huE
  have gBig := big_made p gA
  clear gK hRP hwP hwM hw2 huE hS1 hS2 hS3 hS4 hSB hSS gA
  go_wp2
  exact bodyPost_ret (resB rfl rfl gR rfl) rfl ⟨gB, _, rfl, gBig⟩
 ·have hq : q = !p := by cases p <;> cases q <;> simp_all
  subst hq
  have d0 : (p == !p) = false := by cases p <;> rfl
  clear hpq
  by_cases hc : Y <= X
  ·rw [pm_more hc]
   have d1 : decide (0 <= ordZ X Y) = true := by
    unfold ordZ
    rw [if_neg (by omega)]
    split <;> simp
   go_enter Tryz.func35, Tryz.ntmps35
   go_wp2_with (first | (go_at_call 58; (with_reducible refine (cmp_am (hA.up gUp) (hB.up gUp) (by omega) (by omega)).mono ?_); rintro e wC ⟨rfl, huC⟩))
   refine opU (S := (fun wq => Blk wq (w.heap.size + 1 + 1) 59 #[.bool false, .slice none 0 0] /\ wq.cell? ⟨w.heap.size, 0, none⟩ = some (.bool p) /\ wq.cell? ⟨w.heap.size, 1, none⟩ = some (.slice a (nl X) ca) /\ wq.cell? ⟨w.heap.size + 1, 1, none⟩ = some (.slice b (nl Y) cb) /\ Below w.heap.size w wq)) (req := (fun j => j != 8)) (fun _ _ h hu => ⟨(h.1).up hu, hu.cell (h.2.1), hu.cell (h.2.2.1), hu.cell (h.2.2.2.1), below_up (h.2.2.2.2) hu⟩) ⟨gBlk, (by first | assumption | (apply Blk.cell; exact gBlk; exact rfl)), (by first | assumption | (apply Blk.cell; exact gBlk; exact rfl)), (by first | assumption | (apply Blk.cell; exact gBlk; exact rfl)), gUp⟩ (fun wS hSS hSu => ?_)
   have ⟨hS1, hS2, hS3, hS4, hSB⟩ := hSS
   refine tkP 0 (some 24) hSu ?_
   refine tkT 1 (some 25) rfl hSu hSS ?_ (hy := fun w' hSw => by ((try dsimp only at hSw); (try obtain ⟨_, _, _, _, _⟩ := hSw); go_simp; (try exact rfl)))
   refine tkP 2 (some 26) hSu ?_
   refine tkT 3 (some 27) rfl hSu hSS ?_ (hy := fun w' hSw => by ((try dsimp only at hSw); (try obtain ⟨_, _, _, _, _⟩ := hSw); go_simp; (try exact rfl)))
   refine tkP 4 (some 28) hSu ?_
   refine tkT 5 (some 29) rfl hSu hSS ?_ (hy := fun w' hSw => by ((try dsimp only at hSw); (try obtain ⟨_, _, _, _, _⟩ := hSw); go_simp; (try exact rfl)))
   refine wpAnyU_callE (i := 6) (d := (some 30)) rfl rfl (by kernel_rfl) (by rfl) hSu.out (fun w' => by go_simp) (fun w' hw' => minus_am (hA.up (below_up hSB hw')) (hB.up (below_up hSB hw')) (by omega) hc) fun vP wP hwP hRP => ?_
   try simp only [Act.put, pu1, pu2, pu3]
   obtain ⟨a1, c1, rfl⟩ := hRP.shape
   refine wpAnyU_callE (i := 7) (d := (some 31)) rfl rfl (by kernel_rfl) (by rfl) hSu.out (fun w' => by go_simp) (fun w' hw' => callE_of (made_any p a1 (nl (X - Y)) c1 w')) fun vM wM hwM hRM => ?_
   try simp only [Act.put, pu1, pu2, pu3]
   subst hRM
   refine wpAnyU_one (i := 8) rfl (by kernel_rfl) (by rfl) fun w2 hw2 => ?_
   have gK := ((hS1.up hwP).up hwM).up hw2
   refine wp_stB rfl rfl rfl rfl gK rfl rfl (one2 _ _ _ _) ?_
   refine ⟨fun h => by simp at h, ?_⟩
   try simp only [Act.put, pu1, pu2, pu3]
   refine wpAnyU_done (by kernel_rfl) (fun wF huE => ?_) _
   have gR := (gK.setRow #[.bool (p && decide (0 < nl (X - Y))), .slice a1 (nl (X - Y)) c1]).up huE
   have gA := (((hRP.up hwM).up hw2).setRow (D := #[.bool (p && decide (0 < nl (X - Y))), .slice a1 (nl (X - Y)) c1]) gK).up huE
   have gB := below_up (below_setRow (below_up (below_up (below_up hSB hwP) hwM) hw2) (show w.heap.size <= w.heap.size + 1 + 1 by omega) #[.bool (p && decide (0 < nl (X - Y))), .slice a1 (nl (X - Y)) c1]) huE
   have gBig := big_made p gA
   clear gK hRP hwP hwM hw2 huE hS1 hS2 hS3 hS4 hSB hSS gA
   go_wp2
   exact bodyPost_ret (resB rfl rfl gR rfl) rfl ⟨gB, _, rfl, gBig⟩
  ·rw [pm_less (by omega)]
   have d1 : decide (0 <= ordZ X Y) = false := by
    unfold ordZ
    rw [if_pos (by omega)]
    rfl
   go_enter Tryz.func35, Tryz.ntmps35
   go_wp2_with (first | (go_at_call 58; (with_reducible refine (cmp_am (hA.up gUp) (hB.up gUp) (by omega) (by omega)).mono ?_); rintro e wC ⟨rfl, huC⟩))
   refine opU (S := (fun wq => Blk wq (w.heap.size + 1 + 1) 59 #[.bool false, .slice none 0 0] /\ wq.cell? ⟨w.heap.size + 1, 0, none⟩ = some (.bool (!p)) /\ wq.cell? ⟨w.heap.size + 1, 1, none⟩ = some (.slice b (nl Y) cb) /\ wq.cell? ⟨w.heap.size, 1, none⟩ = some (.slice a (nl X) ca) /\ Below w.heap.size w wq)) (req := (fun j => j != 8)) (fun _ _ h hu => ⟨(h.1).up hu, hu.cell (h.2.1), hu.cell (h.2.2.1), hu.cell (h.2.2.2.1), below_up (h.2.2.2.2) hu⟩) ⟨gBlk, (by first | assumption | (apply Blk.cell; exact gBlk; exact rfl)), (by first | assumption | (apply Blk.cell; exact gBlk; exact rfl)), (by first | assumption | (apply Blk.cell; exact gBlk; exact rfl)), gUp⟩ (fun wS hSS hSu => ?_)
   have ⟨hS1, hS2, hS3, hS4, hSB⟩ := hSS
   refine tkP 0 (some 32) hSu ?_
   refine tkT 1 (some 33) rfl hSu hSS ?_ (hy := fun w' hSw => by ((try dsimp only at hSw); (try obtain ⟨_, _, _, _, _⟩ := hSw); go_simp; (try exact rfl)))
   refine tkP 2 (some 34) hSu ?_
   refine tkT 3 (some 35) rfl hSu hSS ?_ (hy := fun w' hSw => by ((try dsimp only at hSw); (try obtain ⟨_, _, _, _, _⟩ := hSw); go_simp; (try exact rfl)))
   refine tkP 4 (some 36) hSu ?_
   refine tkT 5 (some 37) rfl hSu hSS ?_ (hy := fun w' hSw => by ((try dsimp only at hSw); (try obtain ⟨_, _, _, _, _⟩ := hSw); go_simp; (try exact rfl)))
   refine wpAnyU_callE (i := 6) (d := (some 38)) rfl rfl (by kernel_rfl) (by rfl) hSu.out (fun w' => by go_simp) (fun w' hw' => minus_am (hB.up (below_up hSB hw')) (hA.up (below_up hSB hw')) (by omega) (by omega)) fun vP wP hwP hRP => ?_
   try simp only [Act.put, pu1, pu2, pu3]
   obtain ⟨a1, c1, rfl⟩ := hRP.shape
   refine wpAnyU_callE (i := 7) (d := (some 39)) rfl rfl (by kernel_rfl) (by rfl) hSu.out (fun w' => by go_simp) (fun w' hw' => callE_of (made_any (!p) a1 (nl (Y - X)) c1 w')) fun vM wM hwM hRM => ?_
   try simp only [Act.put, pu1, pu2, pu3]
   subst hRM
   refine wpAnyU_one (i := 8) rfl (by kernel_rfl) (by rfl) fun w2 hw2 => ?_
   have gK := ((hS1.up hwP).up hwM).up hw2
   refine wp_stB rfl rfl rfl rfl gK rfl rfl (one2 _ _ _ _) ?_
   refine ⟨fun h => by simp at h, ?_⟩
   try simp only [Act.put, pu1, pu2, pu3]
   refine wpAnyU_done (by kernel_rfl) (fun wF huE => ?_) _
   have gR := (gK.setRow #[.bool ((!p) && decide (0 < nl (Y - X))), .slice a1 (nl (Y - X)) c1]).up huE
   have gA := (((hRP.up hwM).up hw2).setRow (D := #[.bool ((!p) && decide (0 < nl (Y - X))), .slice a1 (nl (Y - X)) c1]) gK).up huE
   have gB := below_up (below_setRow (below_up (below_up (below_up hSB hwP) hwM) hw2) (show w.heap.size <= w.heap.size + 1 + 1 by omega) #[.bool ((!p) && decide (0 < nl (Y - X))), .slice a1 (nl (Y - X)) c1]) huE
   have gBig := big_made (!p) gA
   clear gK hRP hwP hwM hw2 huE hS1 hS2 hS3 hS4 hSB hSS gA
   go_wp2
   exact bodyPost_ret (resB rfl rfl gR rfl) rfl ⟨gB, _, rfl, gBig⟩
theorem add_big {x y : Int} {va vb : Value} {w : World} (ha : Big w va x) (hb : Big w vb y) (hx : nl x.natAbs < 50000) (hy : nl y.natAbs < 50000) :
   Calls Tryz.prog 35 #[va, vb] w fun e w' => Up w w' /\ ∃ v, e = .returned v /\ Big w' v (x + y) := by
 obtain ⟨a, ca, rfl, hA⟩ := ha
 obtain ⟨b, cb, rfl, hB⟩ := hb
 have h := add_pm (decide (x < 0)) (decide (y < 0)) x.natAbs y.natAbs a b ca cb w hA hB hx hy
 rw [<- pm_int, <- pm_int] at h
 exact h
theorem mul64_up (x y : Nat) (hx : x < 18446744073709551616) (hy : y < 18446744073709551616) {h l : Nat} (eh : h = x * y / 18446744073709551616) (el : l = x * y % 18446744073709551616) (w : World) :
   Calls Tryz.prog 79 #[.int .u64 x, .int .u64 y] w fun e w' => e = .returned (.tuple #[.int .u64 (h : Nat), .int .u64 (l : Nat)]) /\ Up w w' := by
 refine (Tryz.bits_Mul64 x y hx hy w).mono ?_
 rintro e w' ⟨rfl, rfl⟩
 exact ⟨by rw [eh, el], Up.refl _⟩
set_option maxHeartbeats 2000000 in
theorem times_am {x y : Nat} {va vb : Value} {w : World} (ha : Am w va x) (hb : Am w vb y) (hx : nl x < 100000) (hy : nl y < 100000) :
   Calls Tryz.prog 60 #[va, vb] w fun e w' => Up w w' /\ ∃ v, e = .returned v /\ Am w' v (x * y) := by
 obtain ⟨a, ca, rfl, hca1, hca0⟩ := ha.open
 obtain ⟨b, cb, rfl, hcb1, hcb0⟩ := hb.open
 have HSX := hid (sum_nl x)
 have HSY := hid (sum_nl y)
 clear ha hb
 generalize nl x = n at *
 generalize nl y = m at *
 go_enter Tryz.func60, Tryz.ntmps60
 go_wp2_with (first | ((with_reducible apply mkP (n := n + m)); exact rfl; (first | rfl | omega); omega))
 go_loopw [6] (fun ti wr => ∃ (i : Nat) (S : Nat -> Nat), i <= n /\ ti = .int .i64 (i : Nat) /\ (∀ j, j < n + m -> S j < 18446744073709551616) /\ sumL S (n + m) = sumL (limb x) i * sumL (limb y) m /\ (∀ j, i + m <= j -> j < n + m -> S j = 0) /\ Row wr w.heap.size 76 (n + m) S /\ Below w.heap.size w wr)
  (fun ti _ => n - (intOf ti).toNat)
 case atStart => exact ⟨0, fun _ => 0, by omega, rfl, fun _ _ => by simp, by rw [sumL_zero, Nat.zero_mul]; exact sumL_zeros _, fun _ _ _ => rfl, row_newc _ _ _ rfl, (by repeat (first | assumption | (with_reducible exact Below.refl _ _) | ((with_reducible apply bl_alloc); (focus (first | exact Nat.le_refl _ | (simp; done) | (simp; omega) | omega)))))⟩
 case round =>
  obtain ⟨i, S, hi, rfl, hSb, hsum, hz, hM, hB⟩ := hrel
  have HSb := hid hSb
  have Hsum := hid hsum
  have Hz := hid hz
  clear hSb hsum hz
  obtain ⟨wo, rfl⟩ : ∃ wo : World, wo = wr := ⟨_, rfl⟩
  by_cases hlt : i < n
  ·obtain ⟨ba, rfl, hba, hca⟩ := hca0 i hlt
   go_wp2
   go_loopw [7, 8] (fun tc tk wi => ∃ (k c : Nat) (S' : Nat -> Nat), k <= m /\ tk = .int .i64 (k : Nat) /\ tc = .int .u64 (c : Nat) /\ c < 18446744073709551616 /\ (∀ j, j < n + m -> S' j < 18446744073709551616) /\
      sumL S' (n + m) + c * (bp i * bp k) = sumL (limb x) i * sumL (limb y) m + limb x i * bp i * sumL (limb y) k /\ (∀ j, i + m <= j -> j < n + m -> S' j = 0) /\ Row wi w.heap.size 76 (n + m) S' /\ Below w.heap.size w wi)
    (fun _ tk _ => m - (intOf tk).toNat)
   case atStart => exact ⟨0, 0, S, by omega, rfl, rfl, by omega, HSb.out, by rw [sumL_zero, Hsum.out]; omega, Hz.out, hM, hB⟩
   case round =>
    clear hM hB HSb Hsum Hz
    obtain ⟨k, c, S', hk, rfl, rfl, hc, hSb, hsum, hz, hM, hB⟩ := hrel
    have HSb := hid hSb
    have Hsum := hid hsum
    have Hz := hid hz
    clear hSb hsum hz
    by_cases hkt : k < m
    ·obtain ⟨bb, rfl, hbb, hcb⟩ := hcb0 k hkt
     have hcx := hca _ hB
     have hcy := hcb _ hB
     obtain ⟨h, eh⟩ : ∃ h, h = limb x i * limb y k / 18446744073709551616 := ⟨_, rfl⟩
     obtain ⟨l, el⟩ : ∃ l, l = limb x i * limb y k % 18446744073709551616 := ⟨_, rfl⟩
     have hlx' := limb_lt x i
     have hly' := limb_lt y k
     have HM := hid (fun w => mul64_up _ _ hlx' hly' eh el w)
     have hsk := HSb.out (i + k) (by omega)
     obtain ⟨r1, c1, HA, e1, f1⟩ : ∃ r c : Nat, (∀ w, (callFunc 77 #[.int .u64 (l : Nat), .int .u64 (S' (i + k) : Nat), .int .u64 0]).run Tryz.prog w = .ok (.value (.tuple #[.int .u64 (r : Nat), .int .u64 (c : Nat)])) w) /\
      r = (l + S' (i + k) + 0) % 18446744073709551616 /\ c = (l + S' (i + k) + 0) / 18446744073709551616 := ⟨_, _, run_add l (S' (i + k)) 0 (by omega), rfl, rfl⟩
     obtain ⟨r2, c2, HA2, e2, f2⟩ : ∃ r cc : Nat, (∀ w, (callFunc 77 #[.int .u64 (r1 : Nat), .int .u64 (c : Nat), .int .u64 0]).run Tryz.prog w = .ok (.value (.tuple #[.int .u64 (r : Nat), .int .u64 (cc : Nat)])) w) /\
      r = (r1 + c + 0) % 18446744073709551616 /\ cc = (r1 + c + 0) / 18446744073709551616 := ⟨_, _, run_add r1 c 0 (by omega), rfl, rfl⟩
     obtain ⟨g1, g2, g3⟩ := step_arith hlx' hly' hsk hc eh el e1 f1 e2 f2
     obtain ⟨hr, hc', hrc⟩ := step_bound hlx' hly' hsk hc g2 g3
     have Hrc := hid hrc
     obtain ⟨h1, eh1⟩ : ∃ h1, h1 = h + c1 := ⟨_, rfl⟩
     obtain ⟨h2, eh2⟩ : ∃ h2, h2 = h1 + c2 := ⟨_, rfl⟩
     have w1 : IntKind.u64.wrap ((h : Int) + c1) = (h1 : Nat) := by rw [IntKind.wrap_u64]; omega
     have w2 : IntKind.u64.wrap ((h1 : Int) + c2) = (h2 : Nat) := by rw [IntKind.wrap_u64]; omega
     have hh2 : h2 < 18446744073709551616 := by omega
     have Hh2 := hid (show h + c1 + c2 = h2 by omega)
     clear e1 f1 e2 f2 g1 g2 g3 hrc eh el eh1 eh2 hc'
     go_wp2
     refine opU (S := (fun wq => Row wq w.heap.size 76 (n + m) S' /\ wq.cell? ⟨ba, i, none⟩ = some (.int .u64 (limb x i : Nat)) /\ wq.cell? ⟨bb, k, none⟩ = some (.int .u64 (limb y k : Nat)) /\ Below w.heap.size w wq)) (req := (fun _ => true)) (fun _ _ h hu => ⟨(h.1).up hu, hu.cell (h.2.1), hu.cell (h.2.2.1), below_up (h.2.2.2) hu⟩) ⟨gRow, (by first | assumption | (apply Blk.cell; exact gBlk; exact rfl)), (by first | assumption | (apply Blk.cell; exact gBlk; exact rfl)), gUp⟩ (fun wS hSS hSu => ?_)
     have ⟨hS1, hS2, hS3, hSB⟩ := hSS
     clear hcx hcy hM hB
     refine tkP 0 (some 31) hSu ?_
     refine tkP 1 (some 32) hSu ?_
     refine tkP 2 (some 33) hSu ?_
     refine tkT 3 (some 34) rfl hSu hSS ?_ (hy := fun w' hSw => by ((try dsimp only at hSw); (try obtain ⟨_, _, _, _⟩ := hSw); go_simp; (try exact rfl)))
     refine tkP 4 (some 35) hSu ?_
     refine tkP 5 (some 36) hSu ?_
     refine tkP 6 (some 37) hSu ?_
     refine tkT 7 (some 38) rfl hSu hSS ?_ (hy := fun w' hSw => by ((try dsimp only at hSw); (try obtain ⟨_, _, _, _⟩ := hSw); go_simp; (try exact rfl)))
     refine tkC 8 (some 39) rfl hSu hSS ?_ (hy := fun w' hSw => (HM.out _))
     refine tkP 9 (some 30) hSu ?_
     refine tkP 10 (some 40) hSu ?_
     refine tkP 11 (some 41) hSu ?_
     refine tkP 12 (some 9) hSu ?_
     refine tkP 13 (some 10) hSu ?_
     refine wpAnyU_done (by kernel_rfl) (fun wE huE => ?_) _
     have ⟨hS1, hS2, hS3, hSB⟩ := hSu.out _ _ hSS huE
     clear huE hSS
     have E2 : ((i : Int) + (k : Int)).toNat = i + k := by omega
     have E3 : ((n + m : Nat) : Int) = (n : Int) + m := by omega
     have hik : (i : Int) + (k : Int) < (n : Int) + m := by omega
     have hcs := hS1.cell (i + k) (by omega)
     have hfs := hS1.frozen (i + k)
     have gM := hS1.set (i + k) r2
     have gB := hSB.setCell (p := ⟨w.heap.size, i + k, none⟩) (Nat.le_refl _) (.int .u64 (r2 : Nat))
     clear hS1 hS2 hS3 hSB
     go_wp2
     go_roundw
     case rel =>
      refine ⟨k + 1, h2, upd S' (i + k) r2, by omega, by go_num, rfl, hh2, upd_lt HSb.out hr, ?_, fun j h1 h2 => by rw [upd_other _ _ _ (by omega)]; exact Hz.out j h1 h2, gM, gB⟩
      have hu := sumL_upd S' r2 (show i + k < n + m by omega)
      have hr' := Hrc.out
      rw [bp_add] at hu
      rw [Hh2.out] at hr'
      rw [bp_succ, sumL_succ (limb y) k, <- Nat.mul_assoc (bp i)]
      exact times_step Hsum.out hu hr'
     case measure => simp [intOf] <;> omega
    ·obtain rfl : k = m := by omega
     have E2 : ((i : Int) + (k : Int)).toNat = i + k := by omega
     have E3 : ((n + k : Nat) : Int) = (n : Int) + k := by omega
     have hik : (i : Int) + (k : Int) < (n : Int) + k := by omega
     have hcs := hM.cell (i + k) (by omega)
     have hfs := hM.frozen (i + k)
     have gM := hM.set (i + k) c
     have gB := hB.setCell (p := ⟨w.heap.size, i + k, none⟩) (Nat.le_refl _) (.int .u64 (c : Nat))
     clear hM hB
     go_wp2
     go_roundw
     case rel =>
      refine ⟨i + 1, upd S' (i + k) c, by omega, by go_num, upd_lt HSb.out hc, ?_, fun j h1 h2 => by rw [upd_other _ _ _ (by omega)]; exact Hz.out j (by omega) h2, gM, gB⟩
      have h2 := sumL_upd S' c (show i + k < n + k by omega)
      have h3 := Hz.out (i + k) (Nat.le_refl _) (by omega)
      have h4 := Hsum.out
      rw [bp_add, h3, Nat.zero_mul, Nat.add_zero] at h2
      rw [h2, sumL_succ (limb x) i, Nat.add_mul]
      exact h4
     case measure => simp [intOf] <;> omega
  ·obtain rfl : i = n := by omega
   have he := Hsum.out
   rw [HSX.out, HSY.out] at he
   have ht := trim_row w.heap.size (i + m) (i + m) (i + m) S wo hM (Nat.le_refl _) (Nat.le_refl _) (by omega)
   have hres := am_row (c := i + m) hM (Nat.le_refl _) (Nat.le_refl _) HSb.out
   rw [he] at hres
   have HT := hid ht
   have HR := hid hres
   clear ht hres he HSb Hsum Hz hM
   go_wp2_with (go_at_call 50; (with_reducible refine HT.out.mono ?_); rintro e w' ⟨rfl, hu⟩)
   go_ret
   exact ⟨below_up hB hu, _, rfl, HR.out.up hu⟩
end Go.Proofs.YtdpgpchcgmmklaaGreatDoor
