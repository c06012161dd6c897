import Derived.Test.YtbmlkimgjkdaiaaGreatDoorPb
import Derived.Deep.MidRow
import Derived.Laws.AppendOwnNone
import Derived.Laws.AppendOwn
import Derived.Laws.OwnMore
import Derived.Deep.QuietTactic
import Derived.BigQuiet
import Derived.Deep.LoopGhost
import Derived.Laws.CopyOwn
import Derived.Laws.StructEq
import Derived.ChangeSame
import Derived.Lib.MinMax
namespace Go.Proofs.YtbmlkimgjkdaiaaGreatDoor
open Go Go.RowKit
set_option maxRecDepth 100000
def Agg (t : TypeId) (n : Nat) : Prop := ((∃ fs, Tryz.prog.underlying t = some (.struct fs)) \/ ∃ m e, Tryz.prog.underlying t = some (.array m e)) /\ (Tryz.prog.info? t).map (·.size) = some n
theorem agg_of {t : TypeId} {n : Nat} (h : (match Tryz.prog.underlying t with | some (.struct _) => true | some (.array _ _) => true | _ => false) = true) (hi : (Tryz.prog.info? t).map (·.size) = some n) : Agg t n := by
 refine ⟨?_, hi⟩
 split at h
 ·exact .inl ⟨_, by assumption⟩
 ·exact .inr ⟨_, _, by assumption⟩
 ·cases h
theorem Agg.load {t t' : TypeId} {n : Nat} (hA : Agg t n) {w : World} {g : Nat} {C : Array Value} (hC : Blk w g t' C) (h2 : C.size = n) : (loadVar t ⟨g, 0, none⟩).run Tryz.prog w = .ok (.agg C) w := by
 obtain ⟨⟨fs, h3⟩ | ⟨m, e, h3⟩, h5⟩ := hA
 ·exact run_loadVar_row w g t' t C (0, 0) _ hC h3 rfl (by rw [h5, h2])
 ·exact run_loadVar_row w g t' t C (0, 0) _ hC h3 rfl (by rw [h5, h2])
theorem Agg.loadm {t : TypeId} {n : Nat} (hA : Agg t n) {w : World} {g off : Nat} {cs : List Value} (hC : w.rangeAt g off cs) (h2 : cs.length = n) : (loadVar t ⟨g, off, none⟩).run Tryz.prog w = .ok (.agg cs.toArray) w := by
 obtain ⟨⟨fs, h3⟩ | ⟨m, e, h3⟩, h5⟩ := hA
 ·exact run_loadVar_mid w g off t cs _ hC h3 rfl (by rw [h5, h2])
 ·exact run_loadVar_mid w g off t cs _ hC h3 rfl (by rw [h5, h2])
section
variable {ops : Array Oper} {rest : List Oper} {Q : Exit -> Act -> World -> Prop} {a : Act} {w : World} {d : Option Tmp} {s u : Tmp} {t t' ty : TypeId} {pos : String} {af : Array Edge} {gd : Option (Nat × Bool)} {g n off : Nat} {C D : Array Value} {cs : List Value}
theorem run_ldX {o : Oper} {ev : Operand -> Value} {x : Operand} (hA : Agg t n) (ho : o.op = .load t x) (hx : ev x = .pointer (some ⟨g, 0, none⟩)) (hC : Blk w g t' C) (h2 : C.size = n) : (execOp ev o).run Tryz.prog w = .ok (.value (.agg C)) w := by
 unfold execOp
 simp only [ho, hx, Instr.loadAt, Instr.sureAddr, Sem.run_bind, Sem.run_pure, Result.andThen_ok, hA.load hC h2]
theorem run_ldXm {o : Oper} {ev : Operand -> Value} {x : Operand} (hA : Agg t n) (ho : o.op = .load t x) (hx : ev x = .pointer (some ⟨g, off, none⟩)) (hC : w.rangeAt g off cs) (h2 : cs.length = n) : (execOp ev o).run Tryz.prog w = .ok (.value (.agg cs.toArray)) w := by
 unfold execOp
 simp only [ho, hx, Instr.loadAt, Instr.sureAddr, Sem.run_bind, Sem.run_pure, Result.andThen_ok, hA.loadm hC h2]
theorem ldX_P (hA : Agg t n) (hw : Region.wanted { dst := d, op := .load t (.tmp s), type := ty, pos := pos, after := af, guard := gd } (yielded ops a.tmps) = true) (hx : a.eval (.tmp s) = .pointer (some ⟨g, 0, none⟩)) (hC : Blk w g t' C) (h2 : C.size = n)
   (h : wpList Tryz.prog ops Q rest (a.put d (.agg C)) w) : wpList Tryz.prog ops Q ({ dst := d, op := .load t (.tmp s), type := ty, pos := pos, after := af, guard := gd } :: rest) a w :=
 wpList_run hw (run_ldX hA rfl hx hC h2) h
theorem ldXm_P (hA : Agg t n) (hw : Region.wanted { dst := d, op := .load t (.tmp s), type := ty, pos := pos, after := af, guard := gd } (yielded ops a.tmps) = true) (hx : a.eval (.tmp s) = .pointer (some ⟨g, off, none⟩)) (hC : w.rangeAt g off cs) (h2 : cs.length = n)
   (h : wpList Tryz.prog ops Q rest (a.put d (.agg cs.toArray)) w) : wpList Tryz.prog ops Q ({ dst := d, op := .load t (.tmp s), type := ty, pos := pos, after := af, guard := gd } :: rest) a w :=
 wpList_run hw (run_ldXm hA rfl hx hC h2) h
theorem stX_P (hA : Agg t n) (hx : a.eval (.tmp s) = .pointer (some ⟨g, 0, none⟩)) (hy : a.eval (.tmp u) = .agg D) (hC : Blk w g t' C) (h2 : C.size = n) (h3 : D.size = n) (h1 : D.all (·.oneCell') = true)
   (h : wpList Tryz.prog ops Q rest (a.put d undef) (w.setRow g D)) :
   wpList Tryz.prog ops Q ({ dst := d, op := .store t (.tmp s) (.tmp u), type := ty, pos := pos, after := af, guard := none } :: rest) a w := by
 obtain ⟨_, h5⟩ := hA
 exact wpList_plain rfl fun _ hK => wp_store_row _ _ _ rfl g D hx hy _ C hC (by rw [h5, h3]) (by rw [h2, h3]) h1 (hK _ _ h)
end
theorem resX {fn : Func} {p : Tmp} {t t' : TypeId} {n : Nat} (hA : Agg t n) (h : fn.results = #[.cell p t]) {tmps : Array Value} {w : World} {g : Nat} {C : Array Value} (hp : tmps.getD p undef = .pointer (some ⟨g, 0, none⟩)) (hC : Blk w g t' C) (h2 : C.size = n) :
   (results fn tmps).run Tryz.prog w = .ok (.agg C) w := by
 obtain ⟨⟨fs, h3⟩ | ⟨m, e, h3⟩, h5⟩ := hA
 ·exact results_cell_row h tmps w g t' C (0, 0) _ hp hC h3 rfl (by rw [h5, h2])
 ·exact results_cell_row h tmps w g t' C (0, 0) _ hp hC h3 rfl (by rw [h5, h2])
theorem resXT {fn : Func} {p u : Tmp} {t t' : TypeId} {n : Nat} (hA : Agg t n) (h : fn.results = #[.cell p t, .tmp u]) {tmps : Array Value} {w : World} {g : Nat} {C : Array Value} (hp : tmps.getD p undef = .pointer (some ⟨g, 0, none⟩)) (hC : Blk w g t' C) (h2 : C.size = n) :
   (results fn tmps).run Tryz.prog w = .ok (.tuple #[.agg C, tmps.getD u undef]) w := by
 rw [results_cell_tmp h, hp]
 simp only [asAddr, Sem.run_pure, Result.andThen_ok, hA.load hC h2]
theorem Blk.part {w : World} {g : Nat} {t : TypeId} {C : Array Value} (h : Blk w g t C) (off : Nat) (cs : List Value) (hc : ∀ j v, cs[j]? = some v -> C[off + j]? = some v) : w.rangeAt g off cs := fun j v hv => h.cell (off + j) (hc j v hv)
theorem Blk.part2 {w : World} {g : Nat} {t : TypeId} {C : Array Value} (h : Blk w g t C) (off : Nat) {x y : Value} (h0 : C[off]? = some x) (h1 : C[off + 1]? = some y) : w.rangeAt g off [x, y] := h.part off _ fun j v hv => by
 rcases j with _ | _ | j
 ·simp at hv; subst hv; exact h0
 ·simp at hv; subst hv; exact h1
 ·simp at hv
theorem aggII (k l : IntKind) (x y : Int) : (#[Value.int k x, Value.int l y]).all (·.oneCell') = true := by simp [Value.oneCell']
theorem aggIII (k l m : IntKind) (x y z : Int) : (#[Value.int k x, Value.int l y, Value.int m z]).all (·.oneCell') = true := by simp [Value.oneCell']
theorem ErrsG.setRow {B : ByteArray} {w : World} {u : Value} {e : Int} {g : Nat} {T : TypeId} {C D : Array Value} (h : ErrsG B w u e) (hg : Blk w g T C) (hT : T ≠ 76) : ErrsG B (w.setRow g D) u e := by
 rcases h with h | ⟨h1, t, x, h2, b, v, h4, h5, h6⟩
 ·exact .inl h
 ·refine .inr ⟨h1, t, x, h2, b, v, h4, h5.row_other D ?_, h6⟩
  rintro rfl
  have h7 := hg.symm.trans h5
  simp only [Option.some.injEq, Obj.cells.injEq] at h7
  exact hT h7.2.1
def aw (v : Int) : Bool := decide (4194304 < v.natAbs)
theorem within_any (v : Int) (h1 : -9223372036854775808 <= v) (h2 : v < 9223372036854775808) (w : World) :
   Calls Tryz.prog 21 #[.int .i64 v] w fun e w' => e = .returned (.bool (!aw v)) /\ Up w w' := by
 have hA := fun w => fx_amount v h1 h2 w
 obtain ⟨A, hAd⟩ : ∃ A, v.natAbs = A := ⟨_, rfl⟩
 have hV : aw v = decide (4194304 < A) := by unfold aw; rw [hAd]
 rw [hV]
 rw [hAd] at hA
 by_cases hb : A < 9223372036854775808
 ·rw [i64V_yes (by omega)] at hA
  have HA := hid hA
  obtain ⟨p, hp⟩ : ∃ p, decide (4194304 < A) = p := ⟨_, rfl⟩
  have hq : decide ((A : Int) <= 4194304) = !p := by rw [<- hp, <- decide_not, decide_eq_decide]; omega
  rw [hp]
  clear hA h1 h2 hAd hV hb hp
  go_enter Tryz.func21, Tryz.ntmps21
  go_wp2_with (first | (go_at_call 37; (with_reducible refine (HA.out _).mono ?_); rintro e w' ⟨rfl, hu⟩))
  go_ret
  exact ⟨rfl, gUp⟩
 ·rw [i64V_no (by omega)] at hA
  have HA := hid hA
  rw [show decide (4194304 < A) = true from decide_eq_true (by omega)]
  clear hA h1 h2 hAd hV hb
  go_enter Tryz.func21, Tryz.ntmps21
  go_wp2_with (first | (go_at_call 37; (with_reducible refine (HA.out _).mono ?_); rintro e w' ⟨rfl, hu⟩))
  go_ret
  exact ⟨rfl, gUp⟩
def away (x y : Int) : Bool := aw x || aw y
theorem reached_any (x y : Int) (hx : -9223372036854775808 <= x /\ x < 9223372036854775808) (hy : -9223372036854775808 <= y /\ y < 9223372036854775808) (w : World) :
   Calls Tryz.prog 11 #[.agg #[.int .i64 x, .int .i64 y]] w fun e w' => e = .returned (.bool (!away x y)) /\ Up w w' := by
 have HX := hid (fun w => within_any x hx.1 hx.2 w)
 have HY := hid (fun w => within_any y hy.1 hy.2 w)
 unfold away
 generalize aw x = p at *
 generalize aw y = q at *
 obtain ⟨W0, hW0⟩ : ∃ W0, w.alloc (.cells #[.int .i64 x, .int .i64 y] 23) = W0 := ⟨_, rfl⟩
 have hB : Blk W0 w.heap.size 23 #[.int .i64 x, .int .i64 y] := by rw [<- hW0]; exact Blk.new _ _ rfl
 have hU : Up w W0 := by rw [<- hW0]; exact Up.alloc _ _
 have hc0 := hB.cell 0 rfl
 clear hx hy
 cases p
 ·go_enter Tryz.func11, Tryz.ntmps11
  go_wp2_with (first
   | (go_at_call 21; first
      | ((with_reducible refine (HX.out _).mono ?_); rintro e w1 ⟨rfl, hu1⟩; have hc1 := (hB.up hu1).cell 1 rfl)
      | ((with_reducible refine (HY.out _).mono ?_); rintro e w2 ⟨rfl, hu2⟩)))
  go_ret
  exact ⟨rfl, (hU.trans hu1).trans hu2⟩
 ·go_enter Tryz.func11, Tryz.ntmps11
  go_wp2_with (first
   | go_skip
   | (go_at_call 21; (with_reducible refine (HX.out _).mono ?_); rintro e w1 ⟨rfl, hu1⟩))
  go_ret
  exact ⟨rfl, hU.trans hu1⟩
def lineB : ByteArray := ⟨#[108, 105, 110, 101]⟩
theorem lwrong_any (n : Int) (w : World) :
   Calls Tryz.prog 12 #[.int .i64 n] w fun r w' => ∃ t x, r = .returned (.iface t x) /\ Up w w' /\ IsEr w' (.iface t x) (.flt lineB (.num n)) := by
 have HW := hid (fun w => wrap_any (op := { data := #[108, 105, 110, 101] }) (v := .iface 48 (.int .i64 n)) (e := .num n) (w := w) rfl)
 go_enter Tryz.func12, Tryz.ntmps12
 go_wp2_with (first | (go_at_call 22; (with_reducible refine (HW.out _).mono ?_); rintro r w1 ⟨u1, rfl, hu1, h1⟩))
 go_ret
 obtain ⟨t, u, rfl⟩ := h1.iface
 exact ⟨_, _, rfl, hu1, h1⟩
theorem IsEr.errs {w : World} {t : TypeId} {x : Value} {n : Int} (h0 : n ≠ 0) (h : IsEr w (.iface t x) (.flt lineB (.num n))) : ErrsG lineB w (.iface t x) n := .inr ⟨h0, t, x, rfl, h⟩
theorem aggA : Agg 24 2 := agg_of (by kernel_rfl) (by kernel_rfl)
theorem aggP : Agg 23 2 := agg_of (by kernel_rfl) (by kernel_rfl)
theorem aggL : Agg 29 3 := agg_of (by kernel_rfl) (by kernel_rfl)
theorem undA : Tryz.prog.underlying 24 = some (.array 2 2) := by kernel_rfl
theorem ixA (w : World) (a b : Int) (k : Nat) (z : Int) (h : k = 0 /\ z = a \/ k = 1 /\ z = b) : (Instr.index 24 (.agg #[.int .i64 a, .int .i64 b]) (.int .i64 (k : Nat))).run Tryz.prog w = .ok (.int .i64 z) w := by
 rcases h with ⟨rfl, rfl⟩ | ⟨rfl, rfl⟩ <;>
 simp [Instr.index, run_underlying undA, asIntOf, part, go_sem]
theorem muldiv_ok (a b c : Int) (a1 : -9223372036854775808 <= a) (a2 : a < 9223372036854775808) (b1 : -9223372036854775808 <= b) (b2 : b < 9223372036854775808) (c1 : 0 < c) (c2 : c < 9223372036854775808) (p1 : -1000000000000000000 <= a * b) (p2 : a * b <= 1000000000000000000) (w : World) :
   Calls Tryz.prog 25 #[.int .i64 a, .int .i64 b, .int .i64 c] w fun e w' => e = .returned (.tuple #[.int .i64 (nv a b c), .bool true]) /\ Up w w' := by
 have hb := nv_bound c1 p1 p2
 have H := fx_muldiv a b c a1 a2 b1 b2 (by omega) c2 w
 rw [show nearV a b c = .tuple #[.int .i64 (nv a b c), .bool true] from by unfold nearV; rw [if_pos c1]; exact i64V_yes (by unfold nv at hb; omega)] at H
 exact H
set_option maxHeartbeats 1000000 in
theorem parts_any (x y r : Int) (hx : -8388608 <= x /\ x <= 8388608) (hy : -8388608 <= y /\ y <= 8388608) (r1 : 0 < r) (r2 : r < 9223372036854775808) (w : World) :
   Calls Tryz.prog 14 #[.agg #[.int .i64 x, .int .i64 y], .int .i64 r] w fun e w' => e = .returned (.agg #[.int .i64 (nv x 256 r), .int .i64 (nv y 256 r)]) /\ Up w w' := by
 have HX := hid (fun w => muldiv_ok x 256 r (by omega) (by omega) (by omega) (by omega) r1 r2 (by omega) (by omega) w)
 have HY := hid (fun w => muldiv_ok y 256 r (by omega) (by omega) (by omega) (by omega) r1 r2 (by omega) (by omega) w)
 generalize nv x 256 r = X at *
 generalize nv y 256 r = Y at *
 obtain ⟨W0, hW0⟩ : ∃ W0, (w.alloc (.cells #[.int .i64 x, .int .i64 y] 24)).alloc (.cells #[.int .i64 0, .int .i64 0] 24) = W0 := ⟨_, rfl⟩
 have hB : Blk W0 w.heap.size 24 #[.int .i64 x, .int .i64 y] := by rw [<- hW0]; exact (Blk.new _ _ rfl).up (Up.alloc _ _)
 have hZ : Blk W0 (w.heap.size + 1) 24 #[.int .i64 0, .int .i64 0] := by rw [<- hW0]; exact Blk.new _ _ (by simp)
 have hU : Up w W0 := by rw [<- hW0]; exact (Up.alloc _ _).trans (Up.alloc _ _)
 clear hx hy r1 r2
 go_enter Tryz.func14, Tryz.ntmps14
 go_wp2_with (first | ((with_reducible apply ldX_P aggA); exact rfl; exact rfl; exact hB; exact rfl))
 go_loopg [8] 2 (fun g t8 wr => ∃ (k : Nat) (a b : Int), k <= 2 /\ 2 - k <= g /\ t8 = .int .i64 (k : Nat) /\ Blk wr w.heap.size 24 #[.int .i64 a, .int .i64 b] /\ Blk wr (w.heap.size + 1) 24 #[.int .i64 0, .int .i64 0] /\ Up w wr /\ Hid (a = (if 0 < k then X else x) /\ b = (if 1 < k then Y else y)))
 case atStart => exact ⟨0, x, y, by decide, by decide, rfl, hB, hZ, hU, rfl, rfl⟩
 case round =>
  obtain ⟨k, a, b, hk, hkg, rfl, hBr, hZr, hUr, hab⟩ := hrel
  clear hB hZ hU hW0
  rcases k with _ | _ | _ | k
  ·obtain ⟨rfl, rfl⟩ : a = x /\ b = y := hab.out
   clear hab hk
   have hix := fun w => ixA w a b 0 a (.inl ⟨rfl, rfl⟩)
   rw [show ((0 : Nat) : Int) = 0 from rfl] at hix
   go_wp2_with (first | (go_at_call 25; (with_reducible refine (HX.out _).mono ?_); rintro e w1 ⟨rfl, hu1⟩; have hb1 := hBr.up hu1; have hc1 := hb1.cell 0 rfl; have hf1 := hb1.frozen 0))
   go_roundg 1
   case measure => omega
   case rel => exact ⟨1, X, b, by decide, by decide, rfl, hb1.set 0 _, (hZr.up hu1).other _ _ (by simp), (hUr.trans hu1).setCell (p := ⟨w.heap.size, 0, none⟩) (Nat.le_refl _) _, rfl, rfl⟩
  ·obtain ⟨rfl, rfl⟩ : a = X /\ b = y := hab.out
   clear hab hk
   have hix := fun w => ixA w x b 1 b (.inr ⟨rfl, rfl⟩)
   rw [show ((1 : Nat) : Int) = 1 from rfl] at hix
   go_wp2_with (first | (go_at_call 25; (with_reducible refine (HY.out _).mono ?_); rintro e w1 ⟨rfl, hu1⟩; have hb1 := hBr.up hu1; have hc1 := hb1.cell 1 rfl; have hf1 := hb1.frozen 1))
   go_roundg 0
   case measure => omega
   case rel => exact ⟨2, a, Y, by decide, by decide, rfl, hb1.set 1 _, (hZr.up hu1).other _ _ (by simp), (hUr.trans hu1).setCell (p := ⟨w.heap.size, 1, none⟩) (Nat.le_refl _) _, rfl, rfl⟩
  ·obtain ⟨rfl, rfl⟩ : a = X /\ b = Y := hab.out
   clear hab hk hkg
   go_wp2_with (first
    | ((with_reducible apply ldX_P aggA); exact rfl; exact rfl; exact hBr; exact rfl)
    | ((with_reducible apply stX_P aggA); exact rfl; exact rfl; exact hZr; exact rfl; exact rfl; exact aggII _ _ _ _))
   exact bodyPost_ret (resX aggA rfl rfl (hZr.setRow _) rfl) rfl ⟨rfl, below_setRow hUr (by omega) _⟩
  ·omega
def nn (v : Int) : Bool := decide (v = -9223372036854775808)
def tnV (a b : Int) (p : Bool) : Value := .tuple #[.agg (if p then #[.int .i64 0, .int .i64 0] else #[.int .i64 (-a), .int .i64 (-b)]), .bool (!p)]
theorem sub0_any (v : Int) (h1 : -9223372036854775808 <= v) (h2 : v < 9223372036854775808) (w : World) :
   Calls Tryz.prog 36 #[.int .i64 0, .int .i64 v] w fun e w' => e = .returned (.tuple #[.int .i64 (if nn v then 0 else -v), .bool (!nn v)]) /\ Up w w' := by
 have h := fx_sub 0 v (by omega) (by omega) h1 h2 w
 rw [Int.zero_sub] at h
 by_cases hv : v = -9223372036854775808
 ·rw [i64V_no (by omega)] at h
  rw [show nn v = true from decide_eq_true hv]
  exact h
 ·rw [i64V_yes (by omega)] at h
  rw [show nn v = false from decide_eq_false hv]
  exact h
set_option maxHeartbeats 1000000 in
theorem turned_any (a b : Int) (ha : -9223372036854775808 <= a /\ a < 9223372036854775808) (hb : -9223372036854775808 <= b /\ b < 9223372036854775808) (w : World) :
   Calls Tryz.prog 20 #[.agg #[.int .i64 a, .int .i64 b]] w fun e w' => e = .returned (tnV a b (nn a || nn b)) /\ Up w w' := by
 have HX := hid (fun w => sub0_any a ha.1 ha.2 w)
 have HY := hid (fun w => sub0_any b hb.1 hb.2 w)
 obtain ⟨p, hp⟩ : ∃ p, nn a = p := ⟨_, rfl⟩
 obtain ⟨q, hq⟩ : ∃ q, nn b = q := ⟨_, rfl⟩
 rw [hp] at HX ⊢
 rw [hq] at HY ⊢
 obtain ⟨W0, hW0⟩ : ∃ W0, (w.alloc (.cells #[.int .i64 a, .int .i64 b] 24)).alloc (.cells #[.int .i64 0, .int .i64 0] 24) = W0 := ⟨_, rfl⟩
 have hB : Blk W0 w.heap.size 24 #[.int .i64 a, .int .i64 b] := by rw [<- hW0]; exact (Blk.new _ _ rfl).up (Up.alloc _ _)
 have hZ : Blk W0 (w.heap.size + 1) 24 #[.int .i64 0, .int .i64 0] := by rw [<- hW0]; exact Blk.new _ _ (by simp)
 have hU : Up w W0 := by rw [<- hW0]; exact (Up.alloc _ _).trans (Up.alloc _ _)
 clear ha hb hp hq
 go_enter Tryz.func20, Tryz.ntmps20
 go_wp2_with (first | ((with_reducible apply ldX_P aggA); exact rfl; exact rfl; exact hB; exact rfl))
 go_loopg [9] 2 (fun g t9 wr => ∃ (k : Nat) (x y : Int), k <= 2 /\ 2 - k <= g /\ t9 = .int .i64 (k : Nat) /\ Blk wr w.heap.size 24 #[.int .i64 x, .int .i64 y] /\ Blk wr (w.heap.size + 1) 24 #[.int .i64 0, .int .i64 0] /\ Up w wr /\ Hid (x = (if 0 < k then -a else a) /\ y = (if 1 < k then -b else b) /\ (0 < k -> p = false) /\ (1 < k -> q = false)))
 case atStart => exact ⟨0, a, b, by decide, by decide, rfl, hB, hZ, hU, rfl, rfl, fun h => absurd h (by decide), fun h => absurd h (by decide)⟩
 case round =>
  obtain ⟨k, x, y, hk, hkg, rfl, hBr, hZr, hUr, hab⟩ := hrel
  clear hB hZ hU hW0
  rcases k with _ | _ | _ | k
  ·obtain ⟨rfl, rfl, _, _⟩ : x = a /\ y = b /\ _ /\ _ := hab.out
   clear hab hk
   have hix := fun w => ixA w x y 0 x (.inl ⟨rfl, rfl⟩)
   rw [show ((0 : Nat) : Int) = 0 from rfl] at hix
   cases p
   ·go_wp2_with (first | (go_at_call 36; (with_reducible refine (HX.out _).mono ?_); rintro e w1 ⟨rfl, hu1⟩; have hb1 := hBr.up hu1; have hc1 := hb1.cell 0 rfl; have hf1 := hb1.frozen 0))
    go_roundg 1
    case measure => omega
    case rel => exact ⟨1, -x, y, by decide, by decide, rfl, hb1.set 0 _, (hZr.up hu1).other _ _ (by simp), (hUr.trans hu1).setCell (p := ⟨w.heap.size, 0, none⟩) (Nat.le_refl _) _, rfl, rfl, fun _ => by trivial, fun h => absurd h (by decide)⟩
   ·go_wp2_with (first
     | (go_at_call 36; (with_reducible refine (HX.out _).mono ?_); rintro e w1 ⟨rfl, hu1⟩; have hz1 := hZr.up hu1)
     | ((with_reducible apply stX_P aggA); exact rfl; exact rfl; exact hz1; exact rfl; exact rfl; exact aggII _ _ _ _))
    exact bodyPost_ret (resXT aggA rfl rfl (hz1.setRow _) rfl) rfl ⟨rfl, below_setRow (hUr.trans hu1) (by omega) _⟩
  ·obtain ⟨rfl, rfl, hp, _⟩ : x = -a /\ y = b /\ _ /\ _ := hab.out
   obtain rfl : p = false := hp (by decide)
   clear hab hk hp
   have hix := fun w => ixA w a y 1 y (.inr ⟨rfl, rfl⟩)
   rw [show ((1 : Nat) : Int) = 1 from rfl] at hix
   cases q
   ·go_wp2_with (first | (go_at_call 36; (with_reducible refine (HY.out _).mono ?_); rintro e w1 ⟨rfl, hu1⟩; have hb1 := hBr.up hu1; have hc1 := hb1.cell 1 rfl; have hf1 := hb1.frozen 1))
    go_roundg 0
    case measure => omega
    case rel => exact ⟨2, -a, -y, by decide, by decide, rfl, hb1.set 1 _, (hZr.up hu1).other _ _ (by simp), (hUr.trans hu1).setCell (p := ⟨w.heap.size, 1, none⟩) (Nat.le_refl _) _, rfl, rfl, fun _ => by trivial, fun _ => by trivial⟩
   ·go_wp2_with (first
     | (go_at_call 36; (with_reducible refine (HY.out _).mono ?_); rintro e w1 ⟨rfl, hu1⟩; have hz1 := hZr.up hu1)
     | ((with_reducible apply stX_P aggA); exact rfl; exact rfl; exact hz1; exact rfl; exact rfl; exact aggII _ _ _ _))
    exact bodyPost_ret (resXT aggA rfl rfl (hz1.setRow _) rfl) rfl ⟨rfl, below_setRow (hUr.trans hu1) (by omega) _⟩
  ·obtain ⟨rfl, rfl, hp, hq⟩ : x = -a /\ y = -b /\ _ /\ _ := hab.out
   obtain rfl : p = false := hp (by decide)
   obtain rfl : q = false := hq (by decide)
   clear hab hk hkg hp hq
   go_wp2_with (first
    | ((with_reducible apply ldX_P aggA); exact rfl; exact rfl; exact hBr; exact rfl)
    | ((with_reducible apply stX_P aggA); exact rfl; exact rfl; exact hZr; exact rfl; exact rfl; exact aggII _ _ _ _))
   exact bodyPost_ret (resXT aggA rfl rfl (hZr.setRow _) rfl) rfl ⟨rfl, below_setRow hUr (by omega) _⟩
  ·omega
noncomputable def wayR (x y : Int) : Nat := sq (x.natAbs * x.natAbs + y.natAbs * y.natAbs)
def near (x y : Int) : Prop := wayR x y < 1000
noncomputable def lnC (fx fy tx ty : Int) : Int := if away fx fy || away tx ty then 21 else if wayR (tx - fx) (ty - fy) < 1000 then 33 else 0
noncomputable def lnX (fx fy tx ty : Int) : Int := if lnC fx fy tx ty = 0 then nv (tx - fx) 256 (wayR (tx - fx) (ty - fy)) else 0
noncomputable def lnY (fx fy tx ty : Int) : Int := if lnC fx fy tx ty = 0 then nv (ty - fy) 256 (wayR (tx - fx) (ty - fy)) else 0
noncomputable def lnZ (fx fy tx ty : Int) : Int := if lnC fx fy tx ty = 0 then (wayR (tx - fx) (ty - fy) : Nat) else 0
theorem aw_no {v : Int} (h : aw v = false) : -4194304 <= v /\ v <= 4194304 := by have := of_decide_eq_false h; omega
theorem away_no {x y : Int} (h : away x y = false) : (-4194304 <= x /\ x <= 4194304) /\ (-4194304 <= y /\ y <= 4194304) := by
 unfold away at h
 simp only [Bool.or_eq_false_iff] at h
 exact ⟨aw_no h.1, aw_no h.2⟩
theorem wayR_lt {x y : Int} (hx : -8388608 <= x /\ x <= 8388608) (hy : -8388608 <= y /\ y <= 8388608) : wayR x y < 16777216 := by
 have h1 := Nat.mul_le_mul (show x.natAbs <= 8388608 by omega) (show x.natAbs <= 8388608 by omega)
 have h2 := Nat.mul_le_mul (show y.natAbs <= 8388608 by omega) (show y.natAbs <= 8388608 by omega)
 exact sq_lt (B := 16777216) (sq_spec _).1 (by omega)
theorem way_hypot (x y : Int) (hx : -8388608 <= x /\ x <= 8388608) (hy : -8388608 <= y /\ y <= 8388608) (w : World) :
   Calls Tryz.prog 13 #[.int .i64 x, .int .i64 y] w fun e w' => e = .returned (.tuple #[.int .i64 (wayR x y : Nat), .bool true]) /\ Up w w' :=
 fx_hypot x y (wayR x y) (by omega) (by omega) (sq_spec _).1 (sq_spec _).2 w
def LinePost (x y z n : Int) (w : World) (r : Ending) (w' : World) : Prop := ∃ u, r = .returned (.tuple #[.agg #[.int .i64 x, .int .i64 y, .int .i64 z], u]) /\ Up w w' /\ ErrsG lineB w' u n
set_option maxHeartbeats 2000000 in
theorem lof_any (fx fy tx ty : Int) (h1 : -9223372036854775808 <= fx /\ fx < 9223372036854775808) (h2 : -9223372036854775808 <= fy /\ fy < 9223372036854775808) (h3 : -9223372036854775808 <= tx /\ tx < 9223372036854775808) (h4 : -9223372036854775808 <= ty /\ ty < 9223372036854775808) (w : World) :
   Calls Tryz.prog 5 #[.agg #[.int .i64 fx, .int .i64 fy], .agg #[.int .i64 tx, .int .i64 ty]] w (LinePost (lnX fx fy tx ty) (lnY fx fy tx ty) (lnZ fx fy tx ty) (lnC fx fy tx ty) w) := by
 have HF := hid (fun w => reached_any fx fy h1 h2 w)
 have HT := hid (fun w => reached_any tx ty h3 h4 w)
 have HW := hid (fun n w => lwrong_any n w)
 have hC : Hid (lnC fx fy tx ty = if away fx fy || away tx ty then 21 else if wayR (tx - fx) (ty - fy) < 1000 then 33 else 0) := hid rfl
 have hX : Hid (lnX fx fy tx ty = if lnC fx fy tx ty = 0 then nv (tx - fx) 256 (wayR (tx - fx) (ty - fy)) else 0) := hid rfl
 have hY : Hid (lnY fx fy tx ty = if lnC fx fy tx ty = 0 then nv (ty - fy) 256 (wayR (tx - fx) (ty - fy)) else 0) := hid rfl
 have hZ : Hid (lnZ fx fy tx ty = if lnC fx fy tx ty = 0 then ((wayR (tx - fx) (ty - fy) : Nat) : Int) else 0) := hid rfl
 have o1 : away fx fy = false -> _ := away_no
 have o2 : away tx ty = false -> _ := away_no
 generalize lnX fx fy tx ty = X at *
 generalize lnY fx fy tx ty = Y at *
 generalize lnZ fx fy tx ty = Z at *
 generalize lnC fx fy tx ty = C at *
 generalize away fx fy = p at *
 generalize away tx ty = q at *
 obtain ⟨W0, hW0⟩ : ∃ W0, ((w.alloc (.cells #[.int .i64 fx, .int .i64 fy] 23)).alloc (.cells #[.int .i64 tx, .int .i64 ty] 23)).alloc (.cells #[.int .i64 0, .int .i64 0, .int .i64 0] 29) = W0 := ⟨_, rfl⟩
 have hF : Blk W0 w.heap.size 23 #[.int .i64 fx, .int .i64 fy] := by rw [<- hW0]; exact ((Blk.new _ _ rfl).up (Up.alloc _ _)).up (Up.alloc _ _)
 have hT : Blk W0 (w.heap.size + 1) 23 #[.int .i64 tx, .int .i64 ty] := by rw [<- hW0]; exact (Blk.new _ _ (by simp)).up (Up.alloc _ _)
 have hL : Blk W0 (w.heap.size + 2) 29 #[.int .i64 0, .int .i64 0, .int .i64 0] := by rw [<- hW0]; exact Blk.new _ _ (by simp)
 have hU : Up w W0 := by rw [<- hW0]; exact ((Up.alloc _ _).trans (Up.alloc _ _)).trans (Up.alloc _ _)
 clear h1 h2 h3 h4
 cases p
 ·cases q
  ·obtain ⟨a1, a2⟩ := o1 rfl
   obtain ⟨b1, b2⟩ := o2 rfl
   obtain ⟨x, hx⟩ : ∃ x, tx - fx = x := ⟨_, rfl⟩
   obtain ⟨y, hy⟩ : ∃ y, ty - fy = y := ⟨_, rfl⟩
   rw [hx, hy] at hC hX hY hZ
   have dX : -8388608 <= x /\ x <= 8388608 := by omega
   have dY : -8388608 <= y /\ y <= 8388608 := by omega
   have e1 : IntKind.i64.wrap (tx - fx) = x := by rw [hx]; exact IntWalk.i64_in _ (by omega)
   have e2 : IntKind.i64.wrap (ty - fy) = y := by rw [hy]; exact IntWalk.i64_in _ (by omega)
   have HH := hid (fun w => way_hypot _ _ dX dY w)
   have hlt := wayR_lt dX dY
   have HP := hid (fun (h : 1000 <= wayR x y) w => parts_any _ _ (wayR x y) dX dY (by omega) (by omega) w)
   generalize wayR x y = R at *
   generalize nv x 256 R = PX at *
   generalize nv y 256 R = PY at *
   clear hx hy
   clear o1 o2 a1 a2 b1 b2 dX dY
   by_cases hR : R < 1000
   ·have hC' : C = 33 := by rw [hC.out]; simp [hR]
    subst hC'
    obtain rfl : X = 0 := by rw [hX.out]; rfl
    obtain rfl : Y = 0 := by rw [hY.out]; rfl
    obtain rfl : Z = 0 := by rw [hZ.out]; rfl
    have d : decide ((R : Int) < 1000) = true := decide_eq_true (by omega)
    clear hC hX hY hZ HP hR hlt
    go_enter Tryz.func5, Tryz.ntmps5
    go_wp2_with (first
     | ((with_reducible apply ldX_P aggP); exact rfl; exact rfl; (first | exact hF | exact hT.up hu1); exact rfl)
     | (go_at_call 11; first
        | ((with_reducible refine (HF.out _).mono ?_); rintro e w1 ⟨rfl, hu1⟩)
        | ((with_reducible refine (HT.out _).mono ?_); rintro e w2 ⟨rfl, hu2⟩; have hU2 := hu1.trans hu2; have hf0 := (hF.up hU2).cell 0 rfl; have hf1 := (hF.up hU2).cell 1 rfl; have ht0 := (hT.up hU2).cell 0 rfl; have ht1 := (hT.up hU2).cell 1 rfl; have hL2 := hL.up hU2))
     | (go_at_call 13; (with_reducible refine (HH.out _).mono ?_); rintro e w3 ⟨rfl, hu3⟩)
     | (go_at_call 12; (with_reducible refine (HW.out _ _).mono ?_); rintro e w4 ⟨t, v, rfl, hu4, h4⟩; have hU4 := (gUp : Up w2 w4); have hL4 := hL2.up hU4)
     | ((with_reducible apply stX_P aggL); exact rfl; exact rfl; exact hL4; exact rfl; exact rfl; exact aggIII _ _ _ _ _ _))
    exact bodyPost_ret (resXT aggL rfl rfl (hL4.setRow _) rfl) rfl ⟨_, rfl, below_setRow (hU.trans (hU2.trans hU4)) (by omega) _, (IsEr.errs (by decide) h4).setRow hL4 (by decide)⟩
   ·have hC' : C = 0 := by rw [hC.out]; simp [hR]
    subst hC'
    obtain rfl : X = PX := by rw [hX.out]; rfl
    obtain rfl : Y = PY := by rw [hY.out]; rfl
    obtain rfl : Z = (R : Int) := by rw [hZ.out]; rfl
    have HP := hid (HP.out (by omega))
    have d : decide ((R : Int) < 1000) = false := decide_eq_false (by omega)
    clear hC hX hY hZ hR hlt
    go_enter Tryz.func5, Tryz.ntmps5
    go_wp2_with (first
     | ((with_reducible apply ldX_P aggA); exact rfl; exact rfl; exact hD3; exact rfl)
     | ((with_reducible apply ldX_P aggP); exact rfl; exact rfl; (first | exact hF | exact hT.up hu1); exact rfl)
     | (go_at_call 11; first
        | ((with_reducible refine (HF.out _).mono ?_); rintro e w1 ⟨rfl, hu1⟩)
        | ((with_reducible refine (HT.out _).mono ?_); rintro e w2 ⟨rfl, hu2⟩; have hU2 := hu1.trans hu2; have hf0 := (hF.up hU2).cell 0 rfl; have hf1 := (hF.up hU2).cell 1 rfl; have ht0 := (hT.up hU2).cell 0 rfl; have ht1 := (hT.up hU2).cell 1 rfl; have hL2 := hL.up hU2))
     | (go_at_call 13; (with_reducible refine (HH.out _).mono ?_); rintro e w3 ⟨rfl, hu3⟩; have hD3 := (Blk.new (w := w2) 24 #[.int .i64 x, .int .i64 y] rfl).up hu3)
     | (go_at_call 14; (with_reducible refine (HP.out _).mono ?_); rintro e w4 ⟨rfl, hu4⟩; have hU4 := (gUp : Up w2 w4); have hL4 := hL2.up hU4)
     | ((with_reducible apply stX_P aggL); exact rfl; exact rfl; exact hL4; exact rfl; exact rfl; exact aggIII _ _ _ _ _ _))
    exact bodyPost_ret (resXT aggL rfl rfl (hL4.setRow _) rfl) rfl ⟨_, rfl, below_setRow (hU.trans (hU2.trans hU4)) (by omega) _, ErrsG.none _ _⟩
  ·have hC' : C = 21 := by rw [hC.out]; simp
   subst hC'
   obtain rfl : X = 0 := by rw [hX.out]; rfl
   obtain rfl : Y = 0 := by rw [hY.out]; rfl
   obtain rfl : Z = 0 := by rw [hZ.out]; rfl
   clear hC hX hY hZ o1 o2
   go_enter Tryz.func5, Tryz.ntmps5
   go_wp2_with (first
    | ((with_reducible apply ldX_P aggP); exact rfl; exact rfl; (first | exact hF | exact hT.up hu1); exact rfl)
    | (go_at_call 11; first
       | ((with_reducible refine (HF.out _).mono ?_); rintro e w1 ⟨rfl, hu1⟩)
       | ((with_reducible refine (HT.out _).mono ?_); rintro e w2 ⟨rfl, hu2⟩))
    | (go_at_call 12; (with_reducible refine (HW.out _ _).mono ?_); rintro e w4 ⟨t, v, rfl, hu4, h4⟩; have hL4 := hL.up ((hu1.trans hu2).trans hu4))
    | ((with_reducible apply stX_P aggL); exact rfl; exact rfl; exact hL4; exact rfl; exact rfl; exact aggIII _ _ _ _ _ _))
   exact bodyPost_ret (resXT aggL rfl rfl (hL4.setRow _) rfl) rfl ⟨_, rfl, below_setRow (hU.trans ((hu1.trans hu2).trans hu4)) (by omega) _, (IsEr.errs (by decide) h4).setRow hL4 (by decide)⟩
 ·have hC' : C = 21 := by rw [hC.out]; simp
  subst hC'
  obtain rfl : X = 0 := by rw [hX.out]; rfl
  obtain rfl : Y = 0 := by rw [hY.out]; rfl
  obtain rfl : Z = 0 := by rw [hZ.out]; rfl
  clear hC hX hY hZ o1 o2
  go_enter Tryz.func5, Tryz.ntmps5
  go_wp2_with (first
   | go_skip
   | ((with_reducible apply ldX_P aggP); exact rfl; exact rfl; exact hF; exact rfl)
   | (go_at_call 11; (with_reducible refine (HF.out _).mono ?_); rintro e w1 ⟨rfl, hu1⟩)
   | (go_at_call 12; (with_reducible refine (HW.out _ _).mono ?_); rintro e w4 ⟨t, v, rfl, hu4, h4⟩; have hL4 := hL.up (hu1.trans hu4))
   | ((with_reducible apply stX_P aggL); exact rfl; exact rfl; exact hL4; exact rfl; exact rfl; exact aggIII _ _ _ _ _ _))
  exact bodyPost_ret (resXT aggL rfl rfl (hL4.setRow _) rfl) rfl ⟨_, rfl, below_setRow (hU.trans (hu1.trans hu4)) (by omega) _, (IsEr.errs (by decide) h4).setRow hL4 (by decide)⟩
def zth (l : List Int) (i : Nat) : Int := l.getD i 0
theorem zth_get {l : List Int} {i : Nat} (h : i < l.length) : zth l i = l[i] := by
 unfold zth; rw [List.getD_eq_getElem?_getD, List.getElem?_eq_getElem h]; rfl
def Vw (w : World) (v : Value) (l : List Int) : Prop :=
 ∃ p cap, v = .slice p l.length cap /\ (l.length <= cap /\ (p = none -> cap = 0)) /\ ∀ i, i < l.length -> ∃ a, p = some a /\ w.cell? (a.add i) = some (.int .i64 (zth l i))
theorem Vw.up {w w' : World} (hu : Up w w') {v : Value} {l : List Int} (h : Vw w v l) : Vw w' v l := by
 obtain ⟨p, cap, e, hcap, hc⟩ := h
 refine ⟨p, cap, e, hcap, fun i hi => ?_⟩
 obtain ⟨a, ha, h1⟩ := hc i hi
 exact ⟨a, ha, hu.cellEq h1⟩
theorem undI : Tryz.prog.underlying 39 = some (.slice 2) := by kernel_rfl
theorem infoI : (Tryz.prog.info? 2).map (fun i => (i.zero, i.size, i.bytes)) = some (some (.int .i64 0), 1, 8) := by kernel_rfl
def vals (l : List Int) : List Value := l.map (Value.int .i64)
def OwnI (w : World) (base : Nat) (v : Value) (l : List Int) : Prop := w.ownsRow base 2 1 v l.length (vals l)
theorem vals_get {l : List Int} {i : Nat} (h : i < l.length) : (vals l)[i]? = some (.int .i64 (zth l i)) := by
 unfold vals; rw [List.getElem?_map, zth_get h, List.getElem?_eq_getElem h]; rfl
theorem vals_set (l : List Int) (k : Nat) (z : Int) : vals (l.set k z) = (vals l).set k (.int .i64 z) := by unfold vals; rw [List.map_set]
theorem Vw.at_ {w : World} {v : Value} {l : List Int} (h : Vw w v l) : ∃ p cap, v = .slice p l.length cap /\ ∀ w', Up w w' -> ∀ i, i < l.length -> ∃ a, p = some a /\ w'.cell? (a.add i) = some (.int .i64 (zth l i)) := by
 obtain ⟨p, cap, e, _, hc⟩ := h
 refine ⟨p, cap, e, fun w' hu i hi => ?_⟩
 obtain ⟨a, h1, h2⟩ := hc i hi
 exact ⟨a, h1, hu.cellEq h2⟩
theorem ints_eq {a b : Value} {l : List Int} {w : World} (ha : Vw w a l) (hb : Vw w b l) (hl : l.length <= 1000) :
   Calls Tryz.prog 10 #[a, b] w fun r w' => r = .returned (.bool true) /\ Up w w' := by
 obtain ⟨p, cp, rfl, hp⟩ := ha.at_
 obtain ⟨q, cq, rfl, hq⟩ := hb.at_
 have HP := hid hp
 have HQ := hid hq
 clear hp hq ha hb
 have d0 : ((l.length : Int) != l.length) = false := by simp
 go_enter Tryz.func10, Tryz.ntmps10
 go_wp2_with fail
 go_loopg [5] l.length (fun g ti wr => ∃ k : Nat, k <= l.length /\ l.length - k <= g /\ ti = .int .i64 (k : Nat) /\ Up w wr)
 case atStart => exact ⟨0, Nat.zero_le _, Nat.le_refl _, rfl, Up.refl _⟩
 case round =>
  obtain ⟨k, hk, hkg, rfl, hu⟩ := hrel
  by_cases hlt : k < l.length
  ·obtain ⟨a1, rfl, hc1⟩ := HP.out _ hu k hlt
   obtain ⟨a2, rfl, hc2⟩ := HQ.out _ hu k hlt
   have dz : (zth l k != zth l k) = false := by simp
   generalize zth l k = z at *
   have e1 : IntKind.i64.wrap ((k : Int) + 1) = (k : Int) + 1 := IntWalk.i64_in _ (by omega)
   go_wp2_with fail
   go_quiet (fail)
   go_wp2_with fail
   go_roundg (l.length - (k + 1))
   case measure => omega
   case rel => exact ⟨k + 1, by omega, Nat.le_refl _, rfl, below_drewN hu _⟩
  ·obtain rfl : k = l.length := by omega
   clear hlt hk
   go_wp2_with fail
   go_ret
   exact ⟨rfl, hu⟩
theorem mkB64 {ops : Array Oper} {rest : List Oper} {Q : Exit -> Act -> World -> Prop} {a : Act} {w : World} {d : Option Tmp} {l : Tmp} {ty : TypeId} {pos : String} {af : Array Edge} {L : Nat} (hl : a.eval (.tmp l) = .int .i64 (L : Nat)) (hn : L < 1000000)
   (h : ∀ w', Blk w' w.heap.size 2 (vals (List.replicate L 0)).toArray -> Up w w' -> wpList Tryz.prog ops Q rest (a.put d (.slice (some ⟨w.heap.size, 0, none⟩) L L)) w') :
   wpList Tryz.prog ops Q ({ dst := d, op := .makeSlice 39 (.tmp l) (.tmp l), type := ty, pos := pos, after := af, guard := none } :: rest) a w := by
 refine wpList_plain rfl fun _ hK => ?_
 have hi := infoI
 cases hq : Tryz.prog.info? 2 with
 | none => rw [hq] at hi; simp at hi
 | some i =>
   rw [hq] at hi
   simp only [Option.map_some, Option.some.injEq, Prod.mk.injEq] at hi
   have hr := run_make (P := Tryz.prog) (w := w) 39 2 i (.int .i64 0) undI hq hi.1 .i64 .i64 (L : Int) (L : Int) (by omega) (by omega) (by rw [hi.2.2]; omega) (by omega)
   rw [hi.2.1, Nat.mul_one, Int.toNat_natCast] at hr
   have hz : madeCells (Value.int .i64 0).cells L = (vals (List.replicate L 0)).toArray := by
    unfold madeCells vals
    apply Array.ext
    ·simp [Value.cells]
    ·intro i h1 h2; simp [Value.cells, Nat.mod_one]
   rw [hz] at hr
   unfold Oper.wp execOp
   simp only [hl, Sem.run_bind, Sem.run_pure, Result.andThen_ok, hr]
   exact hK _ _ (h _ (heap_alloc_new _ _) (Up.alloc _ _))
def put2 (l : List Int) (i : Nat) (x y : Int) : List Int := (l.set i x).set (i + 1) y
theorem put2_len (l : List Int) (i : Nat) (x y : Int) : (put2 l i x y).length = l.length := by unfold put2; rw [List.length_set, List.length_set]
theorem put2_splice {l : List Int} {i : Nat} {x y : Int} (h : i + 2 <= l.length) : splice (vals l) i [.int .i64 x, .int .i64 y] = vals (put2 l i x y) := by
 have hl : (vals l).length = l.length := by unfold vals; rw [List.length_map]
 unfold put2
 rw [vals_set, vals_set]
 generalize vals l = v at *
 rw [<- hl] at h
 unfold splice
 apply List.ext_getElem?
 intro j
 rw [List.getElem?_set, List.getElem?_set, List.length_set]
 rcases Nat.lt_trichotomy j i with h1 | rfl | h1
 ·rw [List.getElem?_append_left (by rw [List.length_take]; omega), List.getElem?_take_of_lt h1, if_neg (by omega), if_neg (by omega)]
 ·rw [List.getElem?_append_right (by rw [List.length_take]; omega), List.length_take, if_neg (by omega), if_pos rfl, if_pos (by omega), show j - min j v.length = 0 by omega]; rfl
 ·rw [List.getElem?_append_right (by rw [List.length_take]; omega), List.length_take, show min i v.length = i by omega]
  by_cases h2 : j = i + 1
  ·subst h2
   rw [if_pos rfl, if_pos (by omega), show i + 1 - i = 1 by omega]; rfl
  ·rw [if_neg (by omega), if_neg (by omega), List.getElem?_append_right (by show 2 <= _; omega), List.getElem?_drop]
   congr 1
   show i + 2 + (j - i - 2) = j
   omega
theorem Blk.below {B : Nat} {w w' : World} {b : Nat} {t : TypeId} {C : Array Value} (h : Blk w b t C) (hb : Below B w w') (hl : b < B) : Blk w' b t C := by
 unfold Blk at *; rw [hb.block b hl]; exact h
theorem cpI_wp {o : Oper} {a : Act} {w : World} {K : Act -> World -> Prop} {Q : Exit -> Act -> World -> Prop} (hgd : o.guard = none) {s u : Operand} {t1 : TypeId} (ho : o.op = .call { callee := .builtin .copy, args := #[s, u], argTypes := #[39, t1] }) {g i n c b k sc : Nat} {l : List Int} {x y : Int}
   (hs : a.eval s = .slice (some ⟨g, i, none⟩) n c) (hu : a.eval u = .slice (some ⟨b, k, none⟩) 2 sc) (hg : Blk w g 2 (vals l).toArray) (hb : w.rangeAt b k [.int .i64 x, .int .i64 y]) (hn : 2 <= n) (hf : i + 2 <= l.length)
   (h : ∀ w', Blk w' g 2 (vals (put2 l i x y)).toArray -> Below g w w' -> K (a.put o.dst (.int .i64 2)) w') : o.wp Tryz.prog a w K Q := by
 have hl : (vals l).length = l.length := by unfold vals; rw [List.length_map]
 have hiU : (Tryz.prog.info? 2).map (·.size) = some 1 := by
  have := infoI
  cases hq : Tryz.prog.info? 2 with
  | none => rw [hq] at this; simp at this
  | some i =>
    rw [hq] at this
    simp only [Option.map_some, Option.some.injEq, Prod.mk.injEq] at this
    simp [this.2.1]
 have hst := step_copy_splice (P := Tryz.prog) (ops := #[]) (o := o) (a := a) (w := w) (K := K) (Q := Q) (E := True) hgd s u 39 t1 ho 2 undI hiU (some ⟨g, i, none⟩) (some ⟨b, k, none⟩) n c 2 sc hs hu g i (vals l) 2 hg [.int .i64 x, .int .i64 y] (show 2 = min 2 n by omega)
  (fun _ => ⟨rfl, _, rfl, fun j v hj => by rw [Addr.add_mid]; exact hb j v hj⟩) (by rw [hl]; exact hf) (fun v hv => by simp at hv; rcases hv with rfl | rfl <;> rfl) g w (Below.refl _ _) (Nat.le_refl _)
  (fun w' h1 h2 => h w' (by rw [<- put2_splice hf]; exact h1.out) h2)
 have hw : Region.wanted o (yielded #[] a.tmps) = true := by simp [Region.wanted, hgd]
 rwa [if_pos hw] at hst
theorem cpI_P {ops : Array Oper} {rest : List Oper} {Q : Exit -> Act -> World -> Prop} {a : Act} {w : World} {d : Option Tmp} {s u : Tmp} {ty : TypeId} {pos : String} {af : Array Edge} {t1 : TypeId} {g i n c b k sc : Nat} {l : List Int} {x y : Int}
   (hs : a.eval (.tmp s) = .slice (some ⟨g, i, none⟩) n c) (hu : a.eval (.tmp u) = .slice (some ⟨b, k, none⟩) 2 sc) (hg : Blk w g 2 (vals l).toArray) (hb : w.rangeAt b k [.int .i64 x, .int .i64 y]) (hn : 2 <= n) (hf : i + 2 <= l.length)
   (h : ∀ w', Blk w' g 2 (vals (put2 l i x y)).toArray -> Below g w w' -> wpList Tryz.prog ops Q rest (a.put d (.int .i64 2)) w') :
   wpList Tryz.prog ops Q ({ dst := d, op := .call { callee := .builtin .copy, args := #[.tmp s, .tmp u], argTypes := #[39, t1] }, type := ty, pos := pos, after := af, guard := none } :: rest) a w :=
 wpList_plain rfl fun _ hK => cpI_wp rfl rfl hs hu hg hb hn hf fun w' h1 h2 => hK _ _ (h w' h1 h2)
theorem blk_vw {w : World} {g n c : Nat} {l : List Int} (h : Blk w g 2 (vals l).toArray) (hn : l.length = n) (hc : n <= c) : Vw w (.slice (some ⟨g, 0, none⟩) n c) l := by
 subst hn
 refine ⟨_, c, rfl, ⟨hc, fun e => by cases e⟩, fun i hi => ⟨_, rfl, ?_⟩⟩
 rw [Addr.add_mid, Nat.zero_add]
 exact Blk.cell h i (by rw [List.getElem?_toArray, vals_get hi])
def Bq (w : World) (b : Nat) (t : TypeId) (C : Array Value) : Prop := Blk w b t C
theorem Bq.up {w w' : World} {b : Nat} {t : TypeId} {C : Array Value} (h : Bq w b t C) (hu : Up w w') : Bq w' b t C := Blk.up h hu
def rwS (n i : Nat) (a b : Int) : List Int := put2 (put2 (List.replicate n 0) 0 a b) i (-a) (-b)
theorem rwS_len (n i : Nat) (a b : Int) : (rwS n i a b).length = n := by unfold rwS; rw [put2_len, put2_len, List.length_replicate]
def rwOK (n i : Int) : Bool := decide (2 <= n /\ n <= 8 /\ 2 <= i /\ i <= n - 2)
def rwC (n i a b : Int) : Int := if rwOK n i then (if nn a || nn b then 21 else 0) else 20
def rwL (n i a b : Int) : List Int := if rwC n i a b = 0 then rwS n.toNat i.toNat a b else []
def RowPost (l : List Int) (n : Int) (w : World) (r : Ending) (w' : World) : Prop := ∃ v u, r = .returned (.tuple #[v, u]) /\ Up w w' /\ Vw w' v l /\ ErrsG lineB w' u n
theorem vw_none (w : World) : Vw w (.slice none 0 0) [] := ⟨none, 0, rfl, ⟨Nat.le_refl _, fun _ => rfl⟩, fun _ hi => absurd hi (Nat.not_lt_zero _)⟩
theorem run_fromI {ev : Operand -> Value} {w : World} {d : Option Tmp} {s k : Tmp} {ty : TypeId} {pos : String} {af : Array Edge} {gd : Option (Nat × Bool)} {g n c i : Nat} (_hi : i <= n) (hc : i < c) (hx : ev (.tmp s) = .slice (some ⟨g, 0, none⟩) n c) (hk : ev (.tmp k) = .int .i64 (i : Int)) :
   (execOp ev { dst := d, op := .slice 39 (.tmp s) (some (.tmp k)) none none, type := ty, pos := pos, after := af, guard := gd }).run Tryz.prog w = .ok (.value (.slice (some ⟨g, i, none⟩) (n - i) (c - i))) w := by
 have hne : ¬ c = i := by omega
 have hadd : Addr.add ⟨g, 0, none⟩ i = ⟨g, i, none⟩ := by rw [Addr.add_mid, Nat.zero_add]
 go_simp
set_option maxHeartbeats 2000000 in
theorem row_any (n i a b : Int) (hn : -9223372036854775808 <= n /\ n < 9223372036854775808) (hi : -9223372036854775808 <= i /\ i < 9223372036854775808) (ha : -9223372036854775808 <= a /\ a < 9223372036854775808) (hb : -9223372036854775808 <= b /\ b < 9223372036854775808) (w : World) :
   Calls Tryz.prog 8 #[.int .i64 n, .int .i64 i, .agg #[.int .i64 a, .int .i64 b]] w (RowPost (rwL n i a b) (rwC n i a b) w) := by
 have HT := hid (fun w => turned_any a b ha hb w)
 have HW := hid (fun n w => lwrong_any n w)
 obtain ⟨W0, hW0⟩ : ∃ W0, w.alloc (.cells #[.int .i64 a, .int .i64 b] 24) = W0 := ⟨_, rfl⟩
 have hH : Blk W0 w.heap.size 24 #[.int .i64 a, .int .i64 b] := by rw [<- hW0]; exact Blk.new _ _ rfl
 have hU : Up w W0 := by rw [<- hW0]; exact Up.alloc _ _
 by_cases hp : 2 <= n /\ n <= 8 /\ 2 <= i /\ i <= n - 2
 ·obtain ⟨p1, p2, p3, p4⟩ := hp
  obtain ⟨N, rfl⟩ : ∃ N : Nat, n = (N : Int) := ⟨n.toNat, by omega⟩
  obtain ⟨I, rfl⟩ : ∃ I : Nat, i = (I : Int) := ⟨i.toNat, by omega⟩
  have hC : rwC N I a b = if nn a || nn b then 21 else 0 := by unfold rwC rwOK; rw [decide_eq_true ⟨p1, p2, p3, p4⟩]; rfl
  have hL : rwL N I a b = if rwC N I a b = 0 then rwS N I a b else [] := rfl
  rw [hL, hC]
  have d1 : decide ((N : Int) < 2) = false := decide_eq_false (by omega)
  have d2 : decide ((8 : Int) < N) = false := decide_eq_false (by omega)
  have d3 : decide ((I : Int) < 2) = false := decide_eq_false (by omega)
  have ew : IntKind.i64.wrap ((N : Int) - 2) = (N : Int) - 2 := IntWalk.i64_in _ (by omega)
  have d4 : decide ((N : Int) - 2 < I) = false := decide_eq_false (by omega)
  obtain ⟨p, hpp⟩ : ∃ p, (nn a || nn b) = p := ⟨_, rfl⟩
  rw [hpp] at HT ⊢
  unfold tnV at HT
  clear hC hL hpp ha hb hn hi
  cases p
  ·simp only [Bool.false_eq_true, if_false, if_true] at HT ⊢
   go_enter Tryz.func8, Tryz.ntmps8
   go_upto_region 7 with (first
    | ((with_reducible apply ldX_P aggA); exact rfl; exact rfl; exact hH; exact rfl)
    | (go_at_call 20; (with_reducible refine (HT.out _).mono ?_); rintro e w1 ⟨rfl, hu1⟩; have hD1 := Blk.new (w := w1) 24 #[.int .i64 (-a), .int .i64 (-b)] rfl)
    | ((with_reducible apply mkB64); exact rfl; (focus omega); rintro w2 hR2 hu2))
   have hsz : (w1.alloc (.cells #[.int .i64 (-a), .int .i64 (-b)] 24)).heap.size = w1.heap.size + 1 := by simp
   rw [hsz] at hR2
   have hH2 := hH.up ((hu1.trans (Up.alloc _ _)).trans hu2)
   have hD2 := hD1.up hu2
   have hl0 := hH.lt
   have hl1 := hu1.size
   have hs2 := hu2.size
   rw [hsz] at hs2
   go_upto_region 8 with (first
    | ((with_reducible apply cpI_P); exact rfl; exact rfl; exact hR2; exact (hH2.part2 0 rfl rfl); (focus omega); (focus (rw [List.length_replicate]; omega)); rintro w3 hR3 hb3))
   have hD3 := hD2.below hb3 (by omega)
   have hq1 : Bq w3 (w1.heap.size + 1) 2 (vals (put2 (List.replicate N 0) 0 a b)).toArray := hR3
   have hq2 : Bq w3 w1.heap.size 24 #[.int .i64 (-a), .int .i64 (-b)] := hD3
   have hW3 : Below w.heap.size w w3 := Below.trans (show Below w.heap.size w w2 from hU.trans ((hu1.trans (Up.alloc _ _)).trans hu2)) (hb3.mono (by omega))
   refine opU (S := (fun wq => Bq wq (w1.heap.size + 1) 2 (vals (put2 (List.replicate N 0) 0 a b)).toArray /\ Bq wq w1.heap.size 24 #[.int .i64 (-a), .int .i64 (-b)] /\ Below w.heap.size w wq)) (req := (fun j => j != 4)) (fun _ _ h hu => ⟨(h.1).up hu, (h.2.1).up hu, below_up (h.2.2) hu⟩) ⟨(by assumption), (by assumption), gUp⟩ (fun wS hSS hSu => ?_)
   have ⟨hS1, hS2, hSB⟩ := hSS
   refine tkP 0 (some 41) hSu ?_
   refine tkP 1 (some 42) hSu ?_
   refine tkO 2 (some 43) rfl hSu ?_ (hy := fun w' => run_fromI (n := N) (c := N) (i := I) (by omega) (by omega) rfl rfl)
   refine tkP 3 (some 44) hSu ?_
   refine wpAnyU_one (i := 4) rfl (by kernel_rfl) (by rfl) fun w4 hw4 => ?_
   refine cpI_wp rfl rfl rfl rfl (hS1.up hw4) ((hS2.up hw4).part2 0 rfl rfl) (by omega) (by rw [put2_len, List.length_replicate]; omega) ?_
   rintro w5 hR5 hb5
   refine ⟨fun h => by simp at h, ?_⟩
   try simp only [Act.put, pu1]
   refine wpAnyU_done (by kernel_rfl) (fun wF huE => ?_) _
   have hR6 := hR5.up huE
   have hW6 : Below w.heap.size w wF := Below.trans (Below.trans (Below.trans hSB (Below.mono hw4 hSB.size)) (hb5.mono (by omega))) (Below.mono huE (by have := hSB.size; have := hw4.size; have := hb5.size; omega))
   go_wp2_with fail
   go_ret2
   exact ⟨_, _, rfl, hW6, blk_vw hR6 (rwS_len _ _ _ _) (Nat.le_refl _), ErrsG.none _ _⟩
  ·simp only [if_true] at HT ⊢
   rw [if_neg (by decide)]
   go_enter Tryz.func8, Tryz.ntmps8
   go_wp2_with (first
    | ((with_reducible apply ldX_P aggA); exact rfl; exact rfl; exact hH; exact rfl)
    | (go_at_call 20; (with_reducible refine (HT.out _).mono ?_); rintro e w1 ⟨rfl, hu1⟩)
    | (go_at_call 12; (with_reducible refine (HW.out _ _).mono ?_); rintro e w4 ⟨t, v, rfl, hu4, h4⟩))
   go_ret2
   exact ⟨_, _, rfl, (hU.trans (hu1.trans (Up.alloc _ _))).trans hu4, vw_none _, IsEr.errs (by decide) h4⟩
 ·have hC : rwC n i a b = 20 := by unfold rwC rwOK; rw [decide_eq_false hp]; rfl
  have hL : rwL n i a b = [] := by unfold rwL; rw [hC]; rfl
  rw [hC, hL]
  obtain ⟨a1, h1⟩ : ∃ a, decide (n < 2) = a := ⟨_, rfl⟩
  obtain ⟨a2, h2⟩ : ∃ a, decide (8 < n) = a := ⟨_, rfl⟩
  obtain ⟨a3, h3⟩ : ∃ a, decide (i < 2) = a := ⟨_, rfl⟩
  obtain ⟨a4, h4⟩ : ∃ a, decide (n - 2 < i) = a := ⟨_, rfl⟩
  have en : a1 = false -> a2 = false -> IntKind.i64.wrap (n - 2) = n - 2 := fun q1 q2 => by
   rw [<- h1] at q1
   rw [<- h2] at q2
   simp only [decide_eq_false_iff_not] at q1 q2
   exact IntWalk.i64_in _ (by omega)
  have hor : a1 = true \/ (a1 = false /\ a2 = true) \/ (a1 = false /\ a2 = false /\ a3 = true) \/ (a1 = false /\ a2 = false /\ a3 = false /\ a4 = true) := by
   rw [<- h1, <- h2, <- h3, <- h4]
   simp only [decide_eq_true_eq, decide_eq_false_iff_not]
   omega
  clear hC hL hp ha hb hn hi HT
  rcases hor with rfl | ⟨rfl, rfl⟩ | ⟨rfl, rfl, rfl⟩ | ⟨rfl, rfl, rfl, rfl⟩
  ·clear en
   go_enter Tryz.func8, Tryz.ntmps8
   go_wp2_with (first
    | go_skip
    | (go_at_call 12; (with_reducible refine (HW.out _ _).mono ?_); rintro e w4 ⟨t, v, rfl, hu4, h4⟩))
   go_ret2
   exact ⟨_, _, rfl, hU.trans hu4, vw_none _, IsEr.errs (by decide) h4⟩
  ·clear en
   go_enter Tryz.func8, Tryz.ntmps8
   go_wp2_with (first
    | go_skip
    | (go_at_call 12; (with_reducible refine (HW.out _ _).mono ?_); rintro e w4 ⟨t, v, rfl, hu4, h4⟩))
   go_ret2
   exact ⟨_, _, rfl, hU.trans hu4, vw_none _, IsEr.errs (by decide) h4⟩
  ·clear en
   go_enter Tryz.func8, Tryz.ntmps8
   go_wp2_with (first
    | go_skip
    | (go_at_call 12; (with_reducible refine (HW.out _ _).mono ?_); rintro e w4 ⟨t, v, rfl, hu4, h4⟩))
   go_ret2
   exact ⟨_, _, rfl, hU.trans hu4, vw_none _, IsEr.errs (by decide) h4⟩
  ·have ew := en rfl rfl
   clear en
   go_enter Tryz.func8, Tryz.ntmps8
   go_wp2_with (first
    | go_skip
    | (go_at_call 12; (with_reducible refine (HW.out _ _).mono ?_); rintro e w4 ⟨t, v, rfl, hu4, h4⟩))
   go_ret2
   exact ⟨_, _, rfl, hU.trans hu4, vw_none _, IsEr.errs (by decide) h4⟩
theorem undJ : Tryz.prog.underlying 2 = some (.int .i64) := by kernel_rfl
theorem part_lineH (a b c : Int) (w : World) : (part 24 #[.int .i64 a, .int .i64 b, .int .i64 c] 0).run Tryz.prog w = .ok (.agg #[.int .i64 a, .int .i64 b]) w := by kernel_rfl
theorem part_lineR (a b c : Int) (w : World) : (part 2 #[.int .i64 a, .int .i64 b, .int .i64 c] 2).run Tryz.prog w = .ok (.int .i64 c) w := by kernel_rfl
theorem part_two (a b : Int) (w : World) : (part 2 #[.int .i64 a, .int .i64 b] 0).run Tryz.prog w = .ok (.int .i64 a) w /\ (part 2 #[.int .i64 a, .int .i64 b] 1).run Tryz.prog w = .ok (.int .i64 b) w := ⟨by kernel_rfl, by kernel_rfl⟩
theorem run_eqA (d : Nat) (a b : Int) (w : World) : (Op.equalIn (d + 1 + 1) 24 (.agg #[.int .i64 a, .int .i64 b]) (.agg #[.int .i64 a, .int .i64 b])).run Tryz.prog w = .ok true w := by
 obtain ⟨i, hi⟩ := Option.isSome_iff_exists.1 (show (Tryz.prog.info? 2).isSome = true by kernel_rfl)
 have hc : Tryz.prog.cellsOf 2 = 1 := by kernel_rfl
 obtain ⟨p0, p1⟩ := part_two a b w
 rw [run_equalIn_array w (d + 1) _ _ undA hi, hc, show List.range 2 = [0, 1] from rfl]
 simp only [Op.eqItems, Nat.mul_one, Sem.run_bind, p0, p1, Result.andThen_ok, run_equalIn_int w d _ _ _ _ _ undJ, beq_self_eq_true, Bool.not_true, Bool.false_eq_true, if_false, Sem.run_pure]
theorem fieldsL : ((Tryz.prog.fieldsOf 29).toList.map fun f => (f.name == "_", f.type, f.offset)) = [(false, 24, 0), (false, 2, 2)] := by kernel_rfl
theorem undL0 : (match Tryz.prog.underlying 29 with | some (.struct _) => true | _ => false) = true := by kernel_rfl
theorem run_eqinL (a b c : Int) (w : World) : (Op.equalIn 10000 29 (.agg #[.int .i64 a, .int .i64 b, .int .i64 c]) (.agg #[.int .i64 a, .int .i64 b, .int .i64 c])).run Tryz.prog w = .ok true w := by
 have ht : Tryz.prog.underlying 29 = some (.struct (Tryz.prog.fieldsOf 29)) := by
  have h := undL0
  split at h
  ·rename_i fs hu
   unfold Program.fieldsOf
   rw [hu]
  ·cases h
 have hp : Tryz.prog.stoodInHeld 29 = false := by kernel_rfl
 have hf := fieldsL
 rw [show (10000 : Nat) = 9997 + 1 + 1 + 1 from rfl, run_equalIn_struct w (9997 + 1 + 1) _ _ _ ht hp]
 generalize (Tryz.prog.fieldsOf 29).toList = L at hf
 rcases L with _ | ⟨f, _ | ⟨g, _ | ⟨h, L⟩⟩⟩
 ·simp at hf
 ·simp at hf
 ·simp only [List.map_cons, List.map_nil, List.cons.injEq, Prod.mk.injEq, and_true, beq_eq_false_iff_ne] at hf
  obtain ⟨⟨a1, a2, a3⟩, b1, b2, b3⟩ := hf
  unfold Op.eqFields
  rw [if_pos a1, a2, a3]
  simp only [Sem.run_bind, part_lineH, Result.andThen_ok, run_eqA, Bool.not_true, Bool.false_eq_true, if_false]
  unfold Op.eqFields
  rw [if_pos b1, b2, b3]
  simp only [Sem.run_bind, part_lineR, Result.andThen_ok, run_equalIn_int w _ _ _ _ _ _ undJ, beq_self_eq_true, Bool.not_true, Bool.false_eq_true, if_false]
  unfold Op.eqFields
  rfl
 ·simp at hf
theorem run_eqL {o : Oper} {ev : Operand -> Value} {x y : Operand} {u : TypeId} (ho : o.op = .binOp .eql 29 x y u) {a b c : Int} (hx : ev x = .agg #[.int .i64 a, .int .i64 b, .int .i64 c]) (hy : ev y = .agg #[.int .i64 a, .int .i64 b, .int .i64 c]) (w : World) :
   (execOp ev o).run Tryz.prog w = .ok (.value (.bool true)) w := by
 unfold execOp
 simp only [ho, hx, hy, Sem.run_bind, run_eqGuard_agg _ _ _ _ _ _ _ (show Tryz.prog.eqGuardType Tryz.prog.depth 29 = false by kernel_rfl), Result.andThen_ok, run_eql_struct, run_eqinL, Sem.run_pure]
theorem run_neL {o : Oper} {ev : Operand -> Value} {x y : Operand} {u : TypeId} (ho : o.op = .binOp .neq 29 x y u) {a b c : Int} (hx : ev x = .agg #[.int .i64 a, .int .i64 b, .int .i64 c]) (hy : ev y = .agg #[.int .i64 a, .int .i64 b, .int .i64 c]) (w : World) :
   (execOp ev o).run Tryz.prog w = .ok (.value (.bool false)) w := by
 unfold execOp
 simp only [ho, hx, hy, Sem.run_bind, run_eqGuard_agg _ _ _ _ _ _ _ (show Tryz.prog.eqGuardType Tryz.prog.depth 29 = false by kernel_rfl), Result.andThen_ok, run_neq_struct, run_eqinL, Sem.run_pure, Bool.not_true]
section
variable {ops : Array Oper} {rest : List Oper} {Q : Exit -> Act -> World -> Prop} {a : Act} {w : World} {d : Option Tmp} {s r : Tmp} {u ty : TypeId} {pos : String} {af : Array Edge} {gd : Option (Nat × Bool)} {x y z : Int}
theorem eqL_P (hw : Region.wanted { dst := d, op := .binOp .eql 29 (.tmp s) (.tmp r) u, type := ty, pos := pos, after := af, guard := gd } (yielded ops a.tmps) = true) (hx : a.eval (.tmp s) = .agg #[.int .i64 x, .int .i64 y, .int .i64 z]) (hy : a.eval (.tmp r) = .agg #[.int .i64 x, .int .i64 y, .int .i64 z])
   (h : wpList Tryz.prog ops Q rest (a.put d (.bool true)) w) : wpList Tryz.prog ops Q ({ dst := d, op := .binOp .eql 29 (.tmp s) (.tmp r) u, type := ty, pos := pos, after := af, guard := gd } :: rest) a w := wpList_run hw (run_eqL rfl hx hy w) h
theorem neL_P (hw : Region.wanted { dst := d, op := .binOp .neq 29 (.tmp s) (.tmp r) u, type := ty, pos := pos, after := af, guard := gd } (yielded ops a.tmps) = true) (hx : a.eval (.tmp s) = .agg #[.int .i64 x, .int .i64 y, .int .i64 z]) (hy : a.eval (.tmp r) = .agg #[.int .i64 x, .int .i64 y, .int .i64 z])
   (h : wpList Tryz.prog ops Q rest (a.put d (.bool false)) w) : wpList Tryz.prog ops Q ({ dst := d, op := .binOp .neq 29 (.tmp s) (.tmp r) u, type := ty, pos := pos, after := af, guard := gd } :: rest) a w := wpList_run hw (run_neL rfl hx hy w) h
end
theorem lsays_any {u : Value} {e : Int} {w : World} (h : ErrsG lineB w u e) (hg : Glob w) :
   Calls Tryz.prog 7 #[u, .int .i64 e] w fun r w' => r = .returned (.bool true) /\ Up w w' := by
 rcases h with ⟨rfl, rfl⟩ | ⟨h0, t, x, rfl, hE⟩
 ·go_enter Tryz.func7, Tryz.ntmps7
  go_wp2_with fail
  go_ret
  exact ⟨rfl, Up.refl _⟩
 ·have d : (e == 0) = false := by simpa using h0
  have HO := hid (fun w' (hu : Up w w') => ops_any (hE.up hu) (show 1 < 1000000 by decide))
  have HC := hid (fun w' (hu : Up w w') => code_any (hE.up hu) (globUp hg hu))
  have de : (e == e) = true := by simp
  have dB : (lineB.toList == [108, 105, 110, 101]) = true := by rw [show lineB.toList = [108, 105, 110, 101] from by rw [ByteArray.toList_eq]; rfl]; rfl
  clear hE hg h0
  go_enter Tryz.func7, Tryz.ntmps7
  go_wp2_with (first
   | (go_at_call 18; (with_reducible refine (HO.out _ (Up.refl _)).mono ?_); rintro r w1 ⟨s, rfl, hu1, hs⟩; obtain ⟨g, cap, C, rfl, hB, h0⟩ := ownOne hs)
   | (go_at_call 19; (with_reducible refine (HC.out _ hu1).mono ?_); rintro r w2 ⟨rfl, hu2⟩; have hc := (hB.up hu2).cell 0 h0; have de2 : ((Er.flt lineB (.num e)).first.getD 36 == e) = true := by (show (e == e) = true; simp)))
  go_ret
  exact ⟨rfl, hu1.trans hu2⟩
theorem wayR_is {x y : Int} {r : Nat} (h1 : r * r <= x.natAbs * x.natAbs + y.natAbs * y.natAbs) (h2 : x.natAbs * x.natAbs + y.natAbs * y.natAbs < (r + 1) * (r + 1)) : wayR x y = r := sq_is h1 h2
theorem ln_ok {fx fy tx ty : Int} (h1 : away fx fy = false) (h2 : away tx ty = false) {r : Nat} (hr : wayR (tx - fx) (ty - fy) = r) (h : 1000 <= r) :
   lnC fx fy tx ty = 0 /\ lnX fx fy tx ty = nv (tx - fx) 256 r /\ lnY fx fy tx ty = nv (ty - fy) 256 r /\ lnZ fx fy tx ty = (r : Int) := by
 have hc : lnC fx fy tx ty = 0 := by unfold lnC; rw [h1, h2, hr, if_neg (by decide), if_neg (by omega)]
 refine ⟨hc, ?_, ?_, ?_⟩
 ·unfold lnX; rw [hc, hr]; rfl
 ·unfold lnY; rw [hc, hr]; rfl
 ·unfold lnZ; rw [hc, hr]; rfl
theorem ln_near {fx fy tx ty : Int} (h1 : away fx fy = false) (h2 : away tx ty = false) {r : Nat} (hr : wayR (tx - fx) (ty - fy) = r) (h : r < 1000) :
   lnC fx fy tx ty = 33 /\ lnX fx fy tx ty = 0 /\ lnY fx fy tx ty = 0 /\ lnZ fx fy tx ty = 0 := by
 have hc : lnC fx fy tx ty = 33 := by unfold lnC; rw [h1, h2, hr, if_neg (by decide), if_pos h]
 refine ⟨hc, ?_, ?_, ?_⟩
 ·unfold lnX; rw [hc]; rfl
 ·unfold lnY; rw [hc]; rfl
 ·unfold lnZ; rw [hc]; rfl
theorem ln_far {fx fy tx ty : Int} (h : (away fx fy || away tx ty) = true) :
   lnC fx fy tx ty = 21 /\ lnX fx fy tx ty = 0 /\ lnY fx fy tx ty = 0 /\ lnZ fx fy tx ty = 0 := by
 have hc : lnC fx fy tx ty = 21 := by unfold lnC; rw [if_pos h]
 refine ⟨hc, ?_, ?_, ?_⟩
 ·unfold lnX; rw [hc]; rfl
 ·unfold lnY; rw [hc]; rfl
 ·unfold lnZ; rw [hc]; rfl
theorem vw_four (w : World) (k : Nat) (hk : k = w.heap.size) (x y z t : Int) : Vw (w.alloc (.cells #[.int .i64 x, .int .i64 y, .int .i64 z, .int .i64 t] 2)) (.slice (some ⟨k, 0, none⟩) 4 4) [x, y, z, t] :=
 blk_vw (l := [x, y, z, t]) (Blk.new _ _ hk) rfl (Nat.le_refl _)
theorem hi64 {z : Int} (h1 : -9223372036854775808 <= z := by decide) (h2 : z < 9223372036854775808 := by decide) : -9223372036854775808 <= z /\ z < 9223372036854775808 := ⟨h1, h2⟩
set_option maxHeartbeats 4000000 in
theorem lknown_true {w : World} (hg : Glob w) :
   Calls Tryz.prog 4 #[] w fun r w' => r = .returned (.bool true) /\ Up w w' := by
 obtain ⟨c1, x1, y1, z1⟩ := ln_ok (fx := 0) (fy := 0) (tx := 3000) (ty := 4000) (r := 5000) (by decide) (by decide) (wayR_is (by decide) (by decide)) (by decide)
 obtain ⟨c2, x2, y2, z2⟩ := ln_near (fx := 0) (fy := 0) (tx := 3) (ty := 0) (r := 3) (by decide) (by decide) (wayR_is (by decide) (by decide)) (by decide)
 have H1 := hid (fun w => lof_any 0 0 3000 4000 hi64 hi64 hi64 hi64 w)
 have H2 := hid (fun w => lof_any 0 0 3 0 hi64 hi64 hi64 hi64 w)
 have HR := hid (fun w => row_any 4 2 154 205 hi64 hi64 hi64 hi64 w)
 rw [c1, x1, y1, z1, show nv (3000 - 0) 256 (5000 : Nat) = 154 from by decide, show nv (4000 - 0) 256 (5000 : Nat) = 205 from by decide, show ((5000 : Nat) : Int) = 5000 from rfl] at H1
 rw [c2, x2, y2, z2] at H2
 rw [show rwL 4 2 154 205 = [154, 205, -154, -205] from by decide, show rwC 4 2 154 205 = 0 from by decide] at HR
 have HW := hid hg
 clear hg c1 x1 y1 z1 c2 x2 y2 z2
 go_enter Tryz.func4, Tryz.ntmps4
 go_wp2_with (first
  | (go_at_call 5; first
     | ((with_reducible refine (H1.out _).mono ?_); rintro e w1 ⟨u1, rfl, hu1, he1⟩; obtain rfl := he1.elim (fun h => h.2) (fun h => absurd rfl h.1); have hL1 := Blk.new (w := w1) 29 #[.int .i64 154, .int .i64 205, .int .i64 5000] rfl)
     | ((with_reducible refine (H2.out _).mono ?_); rintro e w3 ⟨u3, rfl, hu3, he3⟩; have hL3 := ((hL1.up hu2).up hu3).up (Up.alloc w3 (.cells #[.int .i64 0, .int .i64 0, .int .i64 0] 29)); have hI := ints_eq (Vw.up ((hu3.trans (Up.alloc w3 (.cells #[.int .i64 0, .int .i64 0, .int .i64 0] 29))).trans (Up.alloc _ (.cells #[.int .i64 154, .int .i64 205, .int .i64 (-154), .int .i64 (-205)] 2))) hV3) (vw_four _ (w3.heap.size + 1) (by simp) 154 205 (-154) (-205)) (by decide)))
  | ((with_reducible apply ldXm_P aggA); exact rfl; exact rfl; exact (hL1.part2 0 rfl rfl); exact rfl)
  | (go_at_call 8; (with_reducible refine (HR.out _).mono ?_); rintro e w2 ⟨v2, u2, rfl, hu2, hV2, he2⟩; obtain rfl := he2.elim (fun h => h.2) (fun h => absurd rfl h.1); have hV2' := hV2; obtain ⟨p2, k2, rfl, hq2⟩ := hV2; have hV3 : Vw w2 (.slice p2 4 k2) [154, 205, -154, -205] := hV2')
  | ((with_reducible apply ldX_P aggL); exact rfl; exact rfl; exact hL3; exact rfl)
  | ((with_reducible apply eqL_P); exact rfl; exact rfl; exact rfl)
  | (go_at_call 10; (with_reducible refine hI.mono ?_); rintro r w4 ⟨rfl, hu4⟩; have hU3 := ((Up.alloc w3 _).trans (Up.alloc _ _)).trans hu4; have hU4 := (hu1.trans (Up.alloc _ _)).trans ((hu2.trans hu3).trans hU3))
  | (go_at_call 7; (with_reducible refine (lsays_any (he3.up hU3) (globUp HW.out hU4)).mono ?_); rintro r w5 ⟨rfl, hu5⟩))
 go_ret
 exact ⟨rfl, hU4.trans hu5⟩
end Go.Proofs.YtbmlkimgjkdaiaaGreatDoor
namespace Go.Proofs.YtbmlkimgjkdaiaaGreatDoor
open Go Go.RowKit Go.ChangeShapes
section
variable {H : Type} {enc : TypeId × Value -> H} {P : Program}
end
end Go.Proofs.YtbmlkimgjkdaiaaGreatDoor
namespace Go.Proofs.YtbmlkimgjkdaiaaGreatDoor
open Go Go.RowKit
set_option maxRecDepth 100000
theorem lt_bp_self (x : Nat) : x < bp x := by
 induction x with
 | zero => rw [bp_zero]; omega
 | succ n ih => rw [bp_succ]; omega
def nl (x : Nat) : Nat := lenL (limb x) x
theorem sum_len {x N : Nat} (h : x < bp N) : sumL (limb x) (lenL (limb x) N) = x := by
 rw [lenL_sum, sumL_limb, Nat.mod_eq_of_lt h]
theorem lt_bp_len {x N : Nat} (h : x < bp N) : x < bp (lenL (limb x) N) := by
 have h1 := sum_len h
 have h2 := sumL_lt (f := limb x) (k := lenL (limb x) N) fun i _ => limb_lt x i
 omega
theorem nl_eq {x N : Nat} (h : x < bp N) : lenL (limb x) N = nl x := by
 have h1 := lt_bp_len h
 have h2 := lenL_top (limb x) N
 have hle : lenL (limb x) N <= x \/ lenL (limb x) N = 0 := by
  rcases Nat.eq_zero_or_pos (lenL (limb x) N) with h0 | h0
  ·exact .inr h0
  ·have h3 := bp_le_of_len (limb x) N h0
   rw [sumL_limb, Nat.mod_eq_of_lt h] at h3
   have h4 := lt_bp_self (lenL (limb x) N - 1)
   exact .inl (by omega)
 refine (lenL_of (limb x) (by omega) (fun i hi _ => limb_of_small h1 hi) ?_).symm
 rcases Nat.eq_zero_or_pos (lenL (limb x) N) with h0 | h0
 ·exact .inl h0
 ·exact .inr (h2 h0)
theorem lt_bp_nl (x : Nat) : x < bp (nl x) := lt_bp_len (lt_bp_self x)
theorem bp_le_nl {x : Nat} (h : 0 < nl x) : bp (nl x - 1) <= x := by
 have h3 := bp_le_of_len (limb x) x h
 rw [sumL_limb, Nat.mod_eq_of_lt (lt_bp_self x)] at h3
 exact h3
theorem nl_le {x k : Nat} (h : x < bp k) : nl x <= k := by rw [<- nl_eq h]; exact lenL_le _ _
theorem nl_zero : nl 0 = 0 := rfl
theorem nl_pos {x : Nat} (h : 0 < x) : 0 < nl x := by
 rcases Nat.eq_zero_or_pos (nl x) with h0 | h0
 ·have := lt_bp_nl x
  rw [h0, bp_zero] at this
  omega
 ·exact h0
theorem nl_pos_iff {x : Nat} : 0 < nl x ↔ 0 < x := by
 constructor
 ·intro h
  rcases Nat.eq_zero_or_pos x with h0 | h0
  ·subst h0; simp [nl_zero] at h
  ·exact h0
 ·exact nl_pos
theorem limb_nl {x i : Nat} (h : nl x <= i) : limb x i = 0 := limb_of_small (lt_bp_nl x) h
theorem sum_nl (x : Nat) : sumL (limb x) (nl x) = x := sum_len (lt_bp_self x)
theorem nl_sum {S : Nat -> Nat} {n : Nat} (hS : ∀ i, i < n -> S i < 18446744073709551616) : nl (sumL S n) = lenL S n := by
 rw [<- nl_eq (sumL_lt hS)]
 exact lenL_congr fun i hi => limb_sumL hS hi
def Am (w : World) (v : Value) (x : Nat) : Prop :=
 ∃ a c, v = .slice a (nl x) c /\ nl x <= c /\ (0 < nl x -> ∃ b C, a = some ⟨b, 0, none⟩ /\ Blk w b 60 C /\ ∀ i, i < nl x -> C[i]? = some (.int .u64 (limb x i : Nat)))
theorem Am.up {w w' : World} {v : Value} {x : Nat} (h : Am w v x) (hu : Up w w') : Am w' v x := by
 obtain ⟨a, c, h1, h2, h3⟩ := h
 refine ⟨a, c, h1, h2, fun h0 => ?_⟩
 obtain ⟨b, C, h4, h6, h7⟩ := h3 h0
 exact ⟨b, C, h4, h6.up hu, h7⟩
theorem Am.open {w : World} {v : Value} {x : Nat} (h : Am w v x) : ∃ a c, v = .slice a (nl x) c /\ nl x <= c /\
   ∀ i, i < nl x -> ∃ b, a = some ⟨b, 0, none⟩ /\ b < w.heap.size /\ ∀ w', Up w w' -> w'.cell? ⟨b, i, none⟩ = some (.int .u64 (limb x i : Nat)) := by
 obtain ⟨a, c, h1, h2, h3⟩ := h
 refine ⟨a, c, h1, h2, fun i hi => ?_⟩
 obtain ⟨b, C, h4, h6, h7⟩ := h3 (by omega)
 exact ⟨b, h4, h6.lt, fun w' hu => (h6.up hu).cell i (h7 i hi)⟩
theorem am_nil (w : World) : Am w (.slice none 0 0) 0 := ⟨none, 0, by rw [nl_zero], by rw [nl_zero]; exact Nat.le_refl _, fun h => by rw [nl_zero] at h; omega⟩
theorem am_blk {w : World} {b n c : Nat} {S : Nat -> Nat} {C : Array Value} (hB : Blk w b 60 C) (hC : ∀ i, i < n -> C[i]? = some (.int .u64 (S i : Nat))) (hc : n <= c) (hS : ∀ i, i < n -> S i < 18446744073709551616) :
   Am w (.slice (some ⟨b, 0, none⟩) (lenL S n) c) (sumL S n) := by
 have h1 := lenL_le S n
 refine ⟨_, c, by rw [nl_sum hS], by rw [nl_sum hS]; omega, fun _ => ⟨b, C, rfl, hB, fun i hi => ?_⟩⟩
 rw [nl_sum hS] at hi
 rw [limb_sumL hS (by omega)]
 exact hC i (by omega)
theorem am_row {w : World} {b n N c : Nat} {S : Nat -> Nat} (hR : Row w b 60 N S) (hN : n <= N) (hc : n <= c) (hS : ∀ i, i < n -> S i < 18446744073709551616) :
   Am w (.slice (some ⟨b, 0, none⟩) (lenL S n) c) (sumL S n) := am_blk hR (fun i hi => cells_get N S i (by omega)) hc hS
def slen : Value -> Nat
 | .slice _ n _ => n
 | _ => 0
set_option maxHeartbeats 400000 in
theorem trim_cells (b n c : Nat) (S : Nat -> Nat) (w : World) (hR : ∀ i, i < n -> w.cell? ⟨b, i, none⟩ = some (.int .u64 (S i : Nat))) (hc : n <= c) (hn : n < 1000000) :
   Calls Tryz.prog 46 #[.slice (some ⟨b, 0, none⟩) n c] w fun e w' => e = .returned (.slice (some ⟨b, 0, none⟩) (lenL S n) c) /\ Up w w' := by
 go_enter Tryz.func46, Tryz.ntmps46
 go_wp2
 go_loopw [0] (fun t wr => ∃ k : Nat, k <= n /\ t = .slice (some ⟨b, 0, none⟩) k c /\ lenL S k = lenL S n /\ wr = w) (fun t _ => slen t)
 case atStart => exact ⟨n, Nat.le_refl _, rfl, rfl, rfl⟩
 case round =>
  obtain ⟨k, hk, rfl, hl, rfl⟩ := hrel
  by_cases h0 : 0 < k
  ·obtain ⟨j, rfl⟩ : ∃ j, k = j + 1 := ⟨k - 1, by omega⟩
   have hcx := hR j (by omega)
   have hstep := lenL_succ S j
   have hjc : (j : Int) <= c := by omega
   generalize S j = s at *
   by_cases hs : s = 0
   ·subst hs
    rw [if_pos rfl] at hstep
    have HL := hid (hstep.symm.trans hl)
    clear hstep hl
    go_wp2
    go_roundw
    case rel => exact ⟨j, by omega, rfl, HL.out, trivial⟩
    case measure => simp [slen]
   ·rw [if_neg hs] at hstep
    have HL := hid (hstep.symm.trans hl)
    have hb : ((s : Int) == 0) = false := by simpa using hs
    clear hstep hl hs
    go_wp2
    go_ret
    exact ⟨by rw [<- HL.out]; rfl, gUp⟩
  ·obtain rfl : k = 0 := by omega
   have HL := hid hl
   clear hl
   go_wp2
   go_ret
   exact ⟨by rw [<- HL.out]; rfl, gUp⟩
theorem trim_row (b n N c : Nat) (S : Nat -> Nat) (w : World) (hR : Row w b 60 N S) (hN : n <= N) (hc : n <= c) (hn : n < 1000000) :
   Calls Tryz.prog 46 #[.slice (some ⟨b, 0, none⟩) n c] w fun e w' => e = .returned (.slice (some ⟨b, 0, none⟩) (lenL S n) c) /\ Up w w' :=
 trim_cells b n c S w (fun i hi => hR.cell i (by omega)) hc hn
theorem undS : Tryz.prog.underlying 67 = some (.slice 60) := by kernel_rfl
theorem infoU : (Tryz.prog.info? 60).map (fun i => (i.zero, i.size, i.bytes)) = some (some (.int .u64 0), 1, 8) := by kernel_rfl
theorem zeros_made (n : Nat) : madeCells (Value.int .u64 0).cells n = cells n (fun _ => 0) := by
 unfold cells
 apply Array.ext
 ·simp [madeCells]
 ·intro i h1 h2
  simp [madeCells, Value.cells, Nat.mod_one]
theorem mkP {ops : Array Oper} {rest : List Oper} {Q : Exit -> Act -> World -> Prop} {a : Act} {w : World} {d : Option Tmp} {l : Tmp} {ty : TypeId} {pos : String} {af : Array Edge} {L : Int} {n : Nat} (hl : a.eval (.tmp l) = .int .i64 L) (hL : L = (n : Int)) (hn : n < 1000000)
   (h : wpList Tryz.prog ops Q rest (a.put d (.slice (some ⟨w.heap.size, 0, none⟩) n n)) (w.alloc (.cells (cells n (fun _ => 0)) 60))) :
   wpList Tryz.prog ops Q ({ dst := d, op := .makeSlice 67 (.tmp l) (.tmp l), type := ty, pos := pos, after := af, guard := none } :: rest) a w := by
 refine wpList_plain rfl fun _ hK => ?_
 have hi := infoU
 cases hq : Tryz.prog.info? 60 with
 | none => rw [hq] at hi; simp at hi
 | some i =>
   rw [hq] at hi
   simp only [Option.map_some, Option.some.injEq, Prod.mk.injEq] at hi
   have hr := run_make (P := Tryz.prog) (w := w) 67 60 i (.int .u64 0) undS hq hi.1 .i64 .i64 L L (by omega) (by omega) (by rw [hi.2.2]; omega) (by omega)
   rw [hi.2.1, Nat.mul_one, hL, Int.toNat_natCast, zeros_made] at hr
   unfold Oper.wp execOp
   simp only [hl, hL, Sem.run_bind, Sem.run_pure, Result.andThen_ok, hr]
   exact hK _ _ h
theorem plus_end {S : Nat -> Nat} {x y k c : Nat} (_ : ∀ j, j < k + 1 -> S j < 18446744073709551616) (hx : nl x <= k) (hy : nl y <= k) (h : sumL S (k + 1) + c * bp (k + 1) = sumL (limb x) (k + 1) + sumL (limb y) (k + 1)) : sumL S (k + 1) = x + y := by
 have h1 := bp_mono hx
 have h2 := bp_mono hy
 have h3 := lt_bp_nl x
 have h4 := lt_bp_nl y
 have h5 := bp_succ k
 rw [sumL_limb, sumL_limb, Nat.mod_eq_of_lt (show x < bp (k + 1) by omega), Nat.mod_eq_of_lt (show y < bp (k + 1) by omega)] at h
 rcases Nat.eq_zero_or_pos c with h0 | h0
 ·subst h0; omega
 ·have : 1 * bp (k + 1) <= c * bp (k + 1) := Nat.mul_le_mul_right _ h0
  omega
theorem minus_end {S : Nat -> Nat} {x y k c : Nat} (hS : ∀ j, j < k -> S j < 18446744073709551616) (hx : nl x <= k) (hxy : y <= x) (h : sumL S k + sumL (limb y) k = sumL (limb x) k + c * bp k) : sumL S k = x - y := by
 have h1 := bp_mono hx
 have h3 := lt_bp_nl x
 have h5 := sumL_lt hS
 rw [sumL_limb, sumL_limb, Nat.mod_eq_of_lt (show x < bp k by omega), Nat.mod_eq_of_lt (show y < bp k by omega)] at h
 rcases Nat.eq_zero_or_pos c with h0 | h0
 ·subst h0; omega
 ·have : 1 * bp k <= c * bp k := Nat.mul_le_mul_right _ h0
  omega
theorem padd_step {S : Nat -> Nat} {X Y A B c r c' i : Nat} (h : sumL S i + c * bp i = A + B) (hr : r + c' * 18446744073709551616 = X + Y + c) : sumL (upd S i r) (i + 1) + c' * bp (i + 1) = A + X * bp i + (B + Y * bp i) := by
 rw [sumL_upd_succ, bp_succ]
 have h2 : (r + c' * 18446744073709551616) * bp i = (X + Y + c) * bp i := by rw [hr]
 have h3 : r * bp i + c' * (bp i * 18446744073709551616) = X * bp i + Y * bp i + c * bp i := by grind
 omega
theorem psub_step {S : Nat -> Nat} {X Y A B c r c' i : Nat} (h : sumL S i + B = A + c * bp i) (hr : r + Y + c = X + c' * 18446744073709551616) : sumL (upd S i r) (i + 1) + (B + Y * bp i) = A + X * bp i + c' * bp (i + 1) := by
 rw [sumL_upd_succ, bp_succ]
 have h2 : (r + Y + c) * bp i = (X + c' * 18446744073709551616) * bp i := by rw [hr]
 have h3 : r * bp i + Y * bp i + c * bp i = X * bp i + c' * (bp i * 18446744073709551616) := by grind
 omega
set_option maxHeartbeats 1000000 in
theorem plus_am {x y : Nat} {va vb : Value} {w : World} (ha : Am w va x) (hb : Am w vb y) (hx : nl x < 100000) (hy : nl y < 100000) :
   Calls Tryz.prog 49 #[va, vb] w fun e w' => Up w w' /\ ∃ v, e = .returned v /\ Am w' v (x + y) := by
 obtain ⟨a, ca, rfl, hca1, hca0⟩ := ha.open
 obtain ⟨b, cb, rfl, hcb1, hcb0⟩ := hb.open
 obtain ⟨k, hk, hk1, hk2, hk3⟩ : ∃ k : Nat, max ((nl x : Nat) : Int) (nl y : Nat) = (k : Nat) /\ nl x <= k /\ nl y <= k /\ k < 100000 := ⟨max (nl x) (nl y), by omega, by omega, by omega, by omega⟩
 clear ha hb
 go_enter Tryz.func49, Tryz.ntmps49
 go_wp2_with (first | ((with_reducible apply mkP (n := k + 1)); exact rfl; (first | rfl | omega); omega))
 go_loopw [7, 8] (fun tc ti wr => ∃ (i cc : Nat) (S : Nat -> Nat), i <= k + 1 /\ tc = .int .u64 (cc : Nat) /\ ti = .int .i64 (i : Nat) /\ cc <= 1 /\ (∀ j, j < k + 1 -> S j < 18446744073709551616) /\ sumL S i + cc * bp i = sumL (limb x) i + sumL (limb y) i /\ Row wr w.heap.size 60 (k + 1) S /\ Below w.heap.size w wr)
  (fun _ ti _ => k + 1 - (intOf ti).toNat)
 case atStart => exact ⟨0, 0, fun _ => 0, by omega, rfl, rfl, by omega, fun _ _ => by simp, by simp [sumL_zero], row_newc _ _ _ rfl, (by repeat (first | assumption | (with_reducible apply Up.of) | (with_reducible exact Below.refl _ _) | ((with_reducible apply bl_setCell); (focus (first | exact Nat.le_refl _ | (simp; done) | (simp; omega) | omega))) | ((with_reducible apply bl_alloc); (focus (first | exact Nat.le_refl _ | (simp; done) | (simp; omega) | omega)))))⟩
 case round =>
  obtain ⟨i, cc, S, hi, rfl, rfl, hcc, hSb, hsum, hS, hB⟩ := hrel
  have HSb := hid hSb
  have Hsum := hid hsum
  clear hSb hsum
  by_cases hlt : i < k + 1
  ·by_cases hp : i < nl x
   ·by_cases hq : i < nl y
    ·have h_ := hp
     obtain ⟨ba, rfl, hba, hca⟩ := hca0 i hp
     have hcx := hca wr hB
     obtain ⟨bb, rfl, hbb, hcb⟩ := hcb0 i hq
     have hcy := hcb wr hB
     obtain ⟨r, c', hadd, hrc, hrl, hc1⟩ : ∃ r c' : Nat, (∀ w, (callFunc 74 #[.int .u64 (limb x i : Nat), .int .u64 (limb y i : Nat), .int .u64 (cc : Nat)]).run Tryz.prog w = .ok (.value (.tuple #[.int .u64 (r : Nat), .int .u64 (c' : Nat)])) w) /\ Hid (r + c' * 18446744073709551616 = limb x i + limb y i + cc) /\ r < 18446744073709551616 /\ c' <= 1 := by
      have hl1 := limb_lt x i
      have hl2 := limb_lt y i
      have h := run_add (limb x i) (limb y i) cc (by omega)
      exact ⟨_, _, h, hid (by omega), Nat.mod_lt _ (by decide), by omega⟩
     have hcs := hS.cell i (by omega)
     have hfs := hS.frozen i
     have gS := hS.set i r
     have gB := hB.setCell (p := ⟨w.heap.size, i, none⟩) (Nat.le_refl _) (.int .u64 (r : Nat))
     have hip : (decide ((i : Int) < (nl x : Nat))) = true := decide_eq_true (by omega)
     have hiq : decide ((i : Int) < (nl y : Nat)) = true := decide_eq_true (by omega)
     clear hB hS
     go_wp2
     go_roundw
     case rel =>
      refine ⟨i + 1, c', upd S i r, by omega, rfl, by go_num, hc1, upd_lt HSb.out hrl, ?_, gS, gB⟩
      rw [sumL_succ (limb x) i, sumL_succ (limb y) i]
      exact padd_step Hsum.out hrc.out
     case measure => simp [intOf] <;> omega
    ·have h_ := hp
     obtain ⟨ba, rfl, hba, hca⟩ := hca0 i hp
     have hcx := hca wr hB
     have hzy := limb_nl (x := y) (i := i) (by omega)
     obtain ⟨r, c', hadd, hrc, hrl, hc1⟩ : ∃ r c' : Nat, (∀ w, (callFunc 74 #[.int .u64 (limb x i : Nat), .int .u64 0, .int .u64 (cc : Nat)]).run Tryz.prog w = .ok (.value (.tuple #[.int .u64 (r : Nat), .int .u64 (c' : Nat)])) w) /\ Hid (r + c' * 18446744073709551616 = limb x i + limb y i + cc) /\ r < 18446744073709551616 /\ c' <= 1 := by
      have hl1 := limb_lt x i
      have hl2 := limb_lt y i
      have h := run_add (limb x i) (0) cc (by omega)
      simp only [show ((0 : Nat) : Int) = 0 from rfl] at h
      exact ⟨_, _, h, hid (by omega), Nat.mod_lt _ (by decide), by omega⟩
     have hcs := hS.cell i (by omega)
     have hfs := hS.frozen i
     have gS := hS.set i r
     have gB := hB.setCell (p := ⟨w.heap.size, i, none⟩) (Nat.le_refl _) (.int .u64 (r : Nat))
     have hip : (decide ((i : Int) < (nl x : Nat))) = true := decide_eq_true (by omega)
     have hiq : decide ((i : Int) < (nl y : Nat)) = false := decide_eq_false (by omega)
     clear hB hS
     go_wp2
     go_roundw
     case rel =>
      refine ⟨i + 1, c', upd S i r, by omega, rfl, by go_num, hc1, upd_lt HSb.out hrl, ?_, gS, gB⟩
      rw [sumL_succ (limb x) i, sumL_succ (limb y) i]
      exact padd_step Hsum.out hrc.out
     case measure => simp [intOf] <;> omega
   ·by_cases hq : i < nl y
    ·have h_ := hq
     have hzx := limb_nl (x := x) (i := i) (by omega)
     obtain ⟨bb, rfl, hbb, hcb⟩ := hcb0 i hq
     have hcy := hcb wr hB
     obtain ⟨r, c', hadd, hrc, hrl, hc1⟩ : ∃ r c' : Nat, (∀ w, (callFunc 74 #[.int .u64 0, .int .u64 (limb y i : Nat), .int .u64 (cc : Nat)]).run Tryz.prog w = .ok (.value (.tuple #[.int .u64 (r : Nat), .int .u64 (c' : Nat)])) w) /\ Hid (r + c' * 18446744073709551616 = limb x i + limb y i + cc) /\ r < 18446744073709551616 /\ c' <= 1 := by
      have hl1 := limb_lt x i
      have hl2 := limb_lt y i
      have h := run_add (0) (limb y i) cc (by omega)
      simp only [show ((0 : Nat) : Int) = 0 from rfl] at h
      exact ⟨_, _, h, hid (by omega), Nat.mod_lt _ (by decide), by omega⟩
     have hcs := hS.cell i (by omega)
     have hfs := hS.frozen i
     have gS := hS.set i r
     have gB := hB.setCell (p := ⟨w.heap.size, i, none⟩) (Nat.le_refl _) (.int .u64 (r : Nat))
     have hip : (decide ((i : Int) < (nl x : Nat))) = false := decide_eq_false (by omega)
     have hiq : decide ((i : Int) < (nl y : Nat)) = true := decide_eq_true (by omega)
     clear hB hS
     go_wp2
     go_roundw
     case rel =>
      refine ⟨i + 1, c', upd S i r, by omega, rfl, by go_num, hc1, upd_lt HSb.out hrl, ?_, gS, gB⟩
      rw [sumL_succ (limb x) i, sumL_succ (limb y) i]
      exact padd_step Hsum.out hrc.out
     case measure => simp [intOf] <;> omega
    ·have h_ := hq
     have hzx := limb_nl (x := x) (i := i) (by omega)
     have hzy := limb_nl (x := y) (i := i) (by omega)
     obtain ⟨r, c', hadd, hrc, hrl, hc1⟩ : ∃ r c' : Nat, (∀ w, (callFunc 74 #[.int .u64 0, .int .u64 0, .int .u64 (cc : Nat)]).run Tryz.prog w = .ok (.value (.tuple #[.int .u64 (r : Nat), .int .u64 (c' : Nat)])) w) /\ Hid (r + c' * 18446744073709551616 = limb x i + limb y i + cc) /\ r < 18446744073709551616 /\ c' <= 1 := by
      have hl1 := limb_lt x i
      have hl2 := limb_lt y i
      have h := run_add (0) (0) cc (by omega)
      simp only [show ((0 : Nat) : Int) = 0 from rfl] at h
      exact ⟨_, _, h, hid (by omega), Nat.mod_lt _ (by decide), by omega⟩
     have hcs := hS.cell i (by omega)
     have hfs := hS.frozen i
     have gS := hS.set i r
     have gB := hB.setCell (p := ⟨w.heap.size, i, none⟩) (Nat.le_refl _) (.int .u64 (r : Nat))
     have hip : (decide ((i : Int) < (nl x : Nat))) = false := decide_eq_false (by omega)
     have hiq : decide ((i : Int) < (nl y : Nat)) = false := decide_eq_false (by omega)
     clear hB hS
     go_wp2
     go_roundw
     case rel =>
      refine ⟨i + 1, c', upd S i r, by omega, rfl, by go_num, hc1, upd_lt HSb.out hrl, ?_, gS, gB⟩
      rw [sumL_succ (limb x) i, sumL_succ (limb y) i]
      exact padd_step Hsum.out hrc.out
     case measure => simp [intOf] <;> omega
  ·obtain rfl : i = k + 1 := by omega
   have he := plus_end HSb.out hk1 hk2 Hsum.out
   have ht := trim_row w.heap.size (k + 1) (k + 1) (k + 1) S wr hS (Nat.le_refl _) (Nat.le_refl _) (by omega)
   have hres := am_row (c := k + 1) hS (Nat.le_refl _) (Nat.le_refl _) HSb.out
   rw [he] at hres
   have HT := hid ht
   have HR := hid hres
   clear ht hres he HSb Hsum hS
   go_wp2_with (go_at_call 46; (with_reducible refine HT.out.mono ?_); rintro e w' ⟨rfl, hu⟩)
   go_ret
   exact ⟨below_up hB hu, _, rfl, HR.out.up hu⟩
set_option maxHeartbeats 1000000 in
theorem minus_am {x y : Nat} {va vb : Value} {w : World} (ha : Am w va x) (hb : Am w vb y) (hx : nl x < 100000) (hxy : y <= x) :
   Calls Tryz.prog 50 #[va, vb] w fun e w' => Up w w' /\ ∃ v, e = .returned v /\ Am w' v (x - y) := by
 obtain ⟨a, ca, rfl, hca1, hca0⟩ := ha.open
 obtain ⟨b, cb, rfl, hcb1, hcb0⟩ := hb.open
 obtain ⟨k, hk⟩ : ∃ k : Nat, k = nl x := ⟨_, rfl⟩
 have hqk : nl y <= nl x := nl_le (Nat.lt_of_le_of_lt hxy (lt_bp_nl x))
 clear ha hb
 go_enter Tryz.func50, Tryz.ntmps50
 go_wp2_with (first | ((with_reducible apply mkP (n := nl x)); exact rfl; (first | rfl | omega); omega))
 go_loopw [6, 7] (fun tc ti wr => ∃ (i cc : Nat) (S : Nat -> Nat), i <= nl x /\ tc = .int .u64 (cc : Nat) /\ ti = .int .i64 (i : Nat) /\ cc <= 1 /\ (∀ j, j < nl x -> S j < 18446744073709551616) /\ sumL S i + sumL (limb y) i = sumL (limb x) i + cc * bp i /\ Row wr w.heap.size 60 (nl x) S /\ Below w.heap.size w wr)
  (fun _ ti _ => nl x - (intOf ti).toNat)
 case atStart => exact ⟨0, 0, fun _ => 0, by omega, rfl, rfl, by omega, fun _ _ => by simp, by simp [sumL_zero], row_newc _ _ _ rfl, (by repeat (first | assumption | (with_reducible apply Up.of) | (with_reducible exact Below.refl _ _) | ((with_reducible apply bl_setCell); (focus (first | exact Nat.le_refl _ | (simp; done) | (simp; omega) | omega))) | ((with_reducible apply bl_alloc); (focus (first | exact Nat.le_refl _ | (simp; done) | (simp; omega) | omega)))))⟩
 case round =>
  obtain ⟨i, cc, S, hi, rfl, rfl, hcc, hSb, hsum, hS, hB⟩ := hrel
  have HSb := hid hSb
  have Hsum := hid hsum
  clear hSb hsum
  by_cases hlt : i < nl x
  ·have hp := hlt
   by_cases hq : i < nl y
   ·have h_ := hp
    obtain ⟨ba, rfl, hba, hca⟩ := hca0 i hp
    have hcx := hca wr hB
    obtain ⟨bb, rfl, hbb, hcb⟩ := hcb0 i hq
    have hcy := hcb wr hB
    obtain ⟨r, c', hadd, hrc, hrl, hc1⟩ : ∃ r c' : Nat, (∀ w, (callFunc 75 #[.int .u64 (limb x i : Nat), .int .u64 (limb y i : Nat), .int .u64 (cc : Nat)]).run Tryz.prog w = .ok (.value (.tuple #[.int .u64 (r : Nat), .int .u64 (c' : Nat)])) w) /\ Hid (r + limb y i + cc = limb x i + c' * 18446744073709551616) /\ r < 18446744073709551616 /\ c' <= 1 := by
     have hl1 := limb_lt x i
     have hl2 := limb_lt y i
     have h := run_sub (limb x i) (limb y i) cc (by omega)
     exact ⟨_, _, h, hid (by split <;> omega), Nat.mod_lt _ (by decide), by split <;> omega⟩
    have hcs := hS.cell i (by omega)
    have hfs := hS.frozen i
    have gS := hS.set i r
    have gB := hB.setCell (p := ⟨w.heap.size, i, none⟩) (Nat.le_refl _) (.int .u64 (r : Nat))
    have hip : (decide ((i : Int) < (nl x : Nat))) = true := decide_eq_true (by omega)
    have hiq : decide ((i : Int) < (nl y : Nat)) = true := decide_eq_true (by omega)
    clear hB hS
    go_wp2
    go_roundw
    case rel =>
     refine ⟨i + 1, c', upd S i r, by omega, rfl, by go_num, hc1, upd_lt HSb.out hrl, ?_, gS, gB⟩
     rw [sumL_succ (limb x) i, sumL_succ (limb y) i]
     exact psub_step Hsum.out hrc.out
    case measure => simp [intOf] <;> omega
   ·have h_ := hp
    obtain ⟨ba, rfl, hba, hca⟩ := hca0 i hp
    have hcx := hca wr hB
    have hzy := limb_nl (x := y) (i := i) (by omega)
    obtain ⟨r, c', hadd, hrc, hrl, hc1⟩ : ∃ r c' : Nat, (∀ w, (callFunc 75 #[.int .u64 (limb x i : Nat), .int .u64 0, .int .u64 (cc : Nat)]).run Tryz.prog w = .ok (.value (.tuple #[.int .u64 (r : Nat), .int .u64 (c' : Nat)])) w) /\ Hid (r + limb y i + cc = limb x i + c' * 18446744073709551616) /\ r < 18446744073709551616 /\ c' <= 1 := by
     have hl1 := limb_lt x i
     have hl2 := limb_lt y i
     have h := run_sub (limb x i) (0) cc (by omega)
     simp only [show ((0 : Nat) : Int) = 0 from rfl] at h
     exact ⟨_, _, h, hid (by split <;> omega), Nat.mod_lt _ (by decide), by split <;> omega⟩
    have hcs := hS.cell i (by omega)
    have hfs := hS.frozen i
    have gS := hS.set i r
    have gB := hB.setCell (p := ⟨w.heap.size, i, none⟩) (Nat.le_refl _) (.int .u64 (r : Nat))
    have hip : (decide ((i : Int) < (nl x : Nat))) = true := decide_eq_true (by omega)
    have hiq : decide ((i : Int) < (nl y : Nat)) = false := decide_eq_false (by omega)
    clear hB hS
    go_wp2
    go_roundw
    case rel =>
     refine ⟨i + 1, c', upd S i r, by omega, rfl, by go_num, hc1, upd_lt HSb.out hrl, ?_, gS, gB⟩
     rw [sumL_succ (limb x) i, sumL_succ (limb y) i]
     exact psub_step Hsum.out hrc.out
    case measure => simp [intOf] <;> omega
  ·obtain rfl : i = nl x := by omega
   have he := minus_end HSb.out (Nat.le_refl _) hxy Hsum.out
   have ht := trim_row w.heap.size (nl x) (nl x) (nl x) S wr hS (Nat.le_refl _) (Nat.le_refl _) (by omega)
   have hres := am_row (c := nl x) hS (Nat.le_refl _) (Nat.le_refl _) HSb.out
   rw [he] at hres
   have HT := hid ht
   have HR := hid hres
   clear ht hres he HSb Hsum hS
   go_wp2_with (go_at_call 46; (with_reducible refine HT.out.mono ?_); rintro e w' ⟨rfl, hu⟩)
   go_ret
   exact ⟨below_up hB hu, _, rfl, HR.out.up hu⟩
theorem undB0 : (match Tryz.prog.underlying 69 with | some (.struct _) => true | _ => false) = true := by kernel_rfl
theorem undB : ∃ fs, Tryz.prog.underlying 69 = some (.struct fs) := by
 have h := undB0
 split at h
 ·exact ⟨_, by assumption⟩
 ·cases h
theorem infoB : (Tryz.prog.info? 69).map (·.size) = some 2 := by kernel_rfl
theorem blk_new {w : World} {b : Nat} {t : TypeId} {C : Array Value} (h : b = w.heap.size) : Blk (w.alloc (.cells C t)) b t C := Blk.new _ _ h
theorem blk_alloc {w : World} {b : Nat} {t : TypeId} {C : Array Value} {o : Obj} (h : Blk w b t C) : Blk (w.alloc o) b t C := h.old o
theorem blk_up {w w' : World} {b : Nat} {t : TypeId} {C : Array Value} (hu : Up w w') (h : Blk w b t C) : Blk w' b t C := h.up hu
theorem blk_same {w : World} {b : Nat} {t : TypeId} {C D : Array Value} (h : Blk w b t C) : Blk (w.setRow b D) b t D := h.setRow D
theorem blk_else {w : World} {b g : Nat} {t : TypeId} {C D : Array Value} (hb : b ≠ g) (h : Blk w b t C) : Blk (w.setRow g D) b t C := h.row_other D hb
theorem gBlk {w : World} {b : Nat} {t : TypeId} {C : Array Value} (h : Blk w b t C := by (repeat (first | assumption | ((with_reducible apply blk_new); (focus (first | rfl | (simp; done)))) | (with_reducible apply blk_alloc) | (with_reducible apply blk_drew) | (with_reducible apply blk_drewN) | ((with_reducible apply blk_up); assumption) | (with_reducible apply blk_same) | ((with_reducible apply blk_else); (focus (first | (simp; done) | (simp; omega) | omega)))))) : Blk w b t C := h
theorem one2 (b : Bool) (a : Option Addr) (n c : Nat) : (#[Value.bool b, Value.slice a n c]).all (·.oneCell') = true := by simp [Value.oneCell']
section
variable {ops : Array Oper} {rest : List Oper} {Q : Exit -> Act -> World -> Prop} {a : Act} {w : World} {d : Option Tmp} {s u : Tmp} {ty : TypeId} {pos : String} {af : Array Edge} {gd : Option (Nat × Bool)} {g : Nat} {C D : Array Value}
theorem run_ldB {o : Oper} {x : Operand} (ho : o.op = .load 69 x) (hx : a.eval x = .pointer (some ⟨g, 0, none⟩)) (hC : Blk w g 69 C) (h2 : C.size = 2) : (execOp a.eval o).run Tryz.prog w = .ok (.value (.agg C)) w := by
 obtain ⟨fs, hu⟩ := undB
 unfold execOp
 simp only [ho, hx, Instr.loadAt, Instr.sureAddr, Sem.run_bind, Sem.run_pure, Result.andThen_ok, run_loadVar_row w g _ 69 C (0, 0) _ hC hu rfl (by rw [infoB, h2])]
theorem ldB_P (hw : Region.wanted { dst := d, op := .load 69 (.tmp s), type := ty, pos := pos, after := af, guard := gd } (yielded ops a.tmps) = true) (hx : a.eval (.tmp s) = .pointer (some ⟨g, 0, none⟩)) (hC : Blk w g 69 C) (h2 : C.size = 2)
   (h : wpList Tryz.prog ops Q rest (a.put d (.agg C)) w) : wpList Tryz.prog ops Q ({ dst := d, op := .load 69 (.tmp s), type := ty, pos := pos, after := af, guard := gd } :: rest) a w :=
 wpList_run hw (run_ldB rfl hx hC h2) h
theorem stB_P (hx : a.eval (.tmp s) = .pointer (some ⟨g, 0, none⟩)) (hy : a.eval (.tmp u) = .agg D) (hC : Blk w g 69 C) (h2 : C.size = 2) (h3 : D.size = 2) (h1 : D.all (·.oneCell') = true)
   (h : wpList Tryz.prog ops Q rest (a.put d undef) (w.setRow g D)) :
   wpList Tryz.prog ops Q ({ dst := d, op := .store 69 (.tmp s) (.tmp u), type := ty, pos := pos, after := af, guard := none } :: rest) a w :=
 wpList_plain rfl fun _ hK => wp_store_row _ _ _ rfl g D hx hy _ C hC (by rw [infoB, h3]) (by rw [h2, h3]) h1 (hK _ _ h)
theorem wp_stB {o : Oper} {K : Act -> World -> Prop} (hd : o.dst = none) {x y : Operand} (ho : o.op = .store 69 x y) (hx : a.eval x = .pointer (some ⟨g, 0, none⟩)) (hy : a.eval y = .agg D) (hC : Blk w g 69 C) (h2 : C.size = 2) (h3 : D.size = 2) (h1 : D.all (·.oneCell') = true)
   (h : K a (w.setRow g D)) : o.wp Tryz.prog a w K Q :=
 wp_store_row _ _ _ ho g D hx hy _ C hC (by rw [infoB, h3]) (by rw [h2, h3]) h1 (by rw [hd]; exact h)
end
theorem resB {fn : Func} {p : Tmp} (h : fn.results = #[.cell p 69]) {tmps : Array Value} {w : World} {g : Nat} {C : Array Value} (hp : tmps.getD p undef = .pointer (some ⟨g, 0, none⟩)) (hC : Blk w g 69 C) (h2 : C.size = 2) :
   (results fn tmps).run Tryz.prog w = .ok (.agg C) w := undB.elim fun _ hu => results_cell_row h tmps w g _ C (0, 0) _ hp hC hu rfl (by rw [infoB, h2])
section
variable {P : Program} {ops : Array Oper} {Q : Exit -> Act -> World -> Prop} {md : Region.Mode} {S : World -> Prop} {req : Nat -> Bool}
theorem wpAnyU_callE {i : Nat} {o : Oper} {d : Option Tmp} {fuel : Nat} {listed : Array Bool} {a : Act} {w : World} {f : FuncId} {args : Array Value} {R : Value -> World -> Prop} (hi : ops[i]? = some o) (hd : o.dst = d) (hr : Region.ready md ops listed = [i]) (hw : Region.wanted o (yielded ops a.tmps) = true)
   (hSup : ∀ w w', S w -> Up w w' -> S w') (hrun : ∀ w', (execOp a.eval o).run P w' = .ok (.enter f args) w') (hc : ∀ w', Up w w' -> Calls P f args w' fun e w'' => Up w' w'' /\ ∃ v, e = .returned v /\ R v w'')
   (h : ∀ v w'', Up w w'' -> R v w'' -> wpAnyU P md ops Q S req fuel (listed.setIfInBounds i true) (a.put d v) w'') : wpAnyU P md ops Q S req (fuel + 1) listed a w := by
 refine wpAnyU_one hi hr hw fun w' hw' => ?_
 unfold Oper.wp
 rw [hrun w']
 subst hd
 refine Calls.mono (hc w' hw') fun e w'' he => ?_
 obtain ⟨hu, v, rfl, hR⟩ := he
 exact ⟨fun _ hs => hSup _ _ hs hu, h v w'' (hw'.trans hu) hR⟩
end
theorem callE_of {P : Program} {f : FuncId} {args : Array Value} {w : World} {v : Value} (h : Calls P f args w fun e w' => e = .returned v /\ Up w w') : Calls P f args w fun e w' => Up w w' /\ ∃ u, e = .returned u /\ u = v :=
 h.mono fun _ _ he => ⟨he.2, v, he.1, rfl⟩
def Big (w : World) (v : Value) (z : Int) : Prop := ∃ a c, v = .agg #[.bool (decide (z < 0)), .slice a (nl z.natAbs) c] /\ Am w (.slice a (nl z.natAbs) c) z.natAbs
theorem Big.up {w w' : World} {v : Value} {z : Int} (h : Big w v z) (hu : Up w w') : Big w' v z := by
 obtain ⟨a, c, h1, h2⟩ := h
 exact ⟨a, c, h1, h2.up hu⟩
theorem Am.shape {w : World} {v : Value} {x : Nat} (h : Am w v x) : ∃ a c, v = .slice a (nl x) c := by
 obtain ⟨a, c, h1, _⟩ := h
 exact ⟨a, c, h1⟩
theorem pm_abs (neg : Bool) (x : Nat) : (pm neg x).natAbs = x := by cases neg <;> simp [pm]
theorem pm_neg (neg : Bool) (x : Nat) : decide (pm neg x < 0) = (neg && decide (0 < nl x)) := by
 rw [Bool.eq_iff_iff]
 cases neg <;> simp [pm, nl_pos_iff] <;> omega
theorem big_made {w : World} {a : Option Addr} {c x : Nat} (neg : Bool) (h : Am w (.slice a (nl x) c) x) : Big w (.agg #[.bool (neg && decide (0 < nl x)), .slice a (nl x) c]) (pm neg x) :=
 ⟨a, c, by rw [pm_neg, pm_abs], by rw [pm_abs]; exact h⟩
theorem made_any (neg : Bool) (a : Option Addr) (n c : Nat) (w : World) :
   Calls Tryz.prog 45 #[.bool neg, .slice a n c] w fun e w' => e = .returned (.agg #[.bool (neg && decide (0 < n)), .slice a n c]) /\ Up w w' := by
 cases neg with
 | false =>
   rw [Bool.false_and]
   go_enter Tryz.func45, Tryz.ntmps45
   go_wp2
   exact bodyPost_ret (resB rfl rfl (by (repeat (first | assumption | ((with_reducible apply blk_new); (focus (first | rfl | (simp; done)))) | (with_reducible apply blk_alloc) | (with_reducible apply blk_drew) | (with_reducible apply blk_drewN) | ((with_reducible apply blk_up); assumption) | (with_reducible apply blk_same) | ((with_reducible apply blk_else); (focus (first | (simp; done) | (simp; omega) | omega)))))) rfl) rfl ⟨rfl, (by repeat (first | assumption | (with_reducible apply Up.of) | (with_reducible exact Below.refl _ _) | (with_reducible exact Up.refl _) | ((with_reducible apply bl_setRow); (focus (first | exact Nat.le_refl _ | (simp; done) | (simp; omega) | omega))) | (with_reducible apply below_drewN) | (with_reducible apply Below.drew) | ((with_reducible apply bl_alloc); (focus (first | exact Nat.le_refl _ | (simp; done) | (simp; omega) | omega))) | ((with_reducible apply bl_setCell); (focus (first | exact Nat.le_refl _ | (simp; done) | (simp; omega) | omega))) | ((with_reducible apply up_tr); assumption)))⟩
 | true =>
   rw [Bool.true_and]
   go_enter Tryz.func45, Tryz.ntmps45
   go_wp2
   exact bodyPost_ret (resB rfl rfl (by (repeat (first | assumption | ((with_reducible apply blk_new); (focus (first | rfl | (simp; done)))) | (with_reducible apply blk_alloc) | (with_reducible apply blk_drew) | (with_reducible apply blk_drewN) | ((with_reducible apply blk_up); assumption) | (with_reducible apply blk_same) | ((with_reducible apply blk_else); (focus (first | (simp; done) | (simp; omega) | omega)))))) rfl) rfl ⟨by first | rfl | simp, (by repeat (first | assumption | (with_reducible apply Up.of) | (with_reducible exact Below.refl _ _) | (with_reducible exact Up.refl _) | ((with_reducible apply bl_setRow); (focus (first | exact Nat.le_refl _ | (simp; done) | (simp; omega) | omega))) | (with_reducible apply below_drewN) | (with_reducible apply Below.drew) | ((with_reducible apply bl_alloc); (focus (first | exact Nat.le_refl _ | (simp; done) | (simp; omega) | omega))) | ((with_reducible apply bl_setCell); (focus (first | exact Nat.le_refl _ | (simp; done) | (simp; omega) | omega))) | ((with_reducible apply up_tr); assumption)))⟩
theorem neg_any (b : Bool) (a : Option Addr) (n c : Nat) (w : World) :
   Calls Tryz.prog 86 #[.agg #[.bool b, .slice a n c]] w fun e w' => e = .returned (.agg #[.bool (!b && decide (0 < n)), .slice a n c]) /\ Up w w' := by
 have HM := hid (fun w => made_any (!b) a n c w)
 go_enter Tryz.func86, Tryz.ntmps86
 go_wp2_with (first | ((with_reducible apply stB_P); exact rfl; exact rfl; (focus (repeat (first | assumption | ((with_reducible apply blk_new); (focus (first | rfl | (simp; done)))) | (with_reducible apply blk_alloc) | (with_reducible apply blk_drew) | (with_reducible apply blk_drewN) | ((with_reducible apply blk_up); assumption) | (with_reducible apply blk_same) | ((with_reducible apply blk_else); (focus (first | (simp; done) | (simp; omega) | omega)))))); exact rfl; exact rfl; exact one2 _ _ _ _) | (go_at_call 45; refine (HM.out _).mono ?_; rintro e w' ⟨rfl, hu⟩))
 exact bodyPost_ret (resB rfl rfl (by (repeat (first | assumption | ((with_reducible apply blk_new); (focus (first | rfl | (simp; done)))) | (with_reducible apply blk_alloc) | (with_reducible apply blk_drew) | (with_reducible apply blk_drewN) | ((with_reducible apply blk_up); assumption) | (with_reducible apply blk_same) | ((with_reducible apply blk_else); (focus (first | (simp; done) | (simp; omega) | omega)))))) rfl) rfl ⟨rfl, (by repeat (first | assumption | (with_reducible apply Up.of) | (with_reducible exact Below.refl _ _) | (with_reducible exact Up.refl _) | ((with_reducible apply bl_setRow); (focus (first | exact Nat.le_refl _ | (simp; done) | (simp; omega) | omega))) | (with_reducible apply below_drewN) | (with_reducible apply Below.drew) | ((with_reducible apply bl_alloc); (focus (first | exact Nat.le_refl _ | (simp; done) | (simp; omega) | omega))) | ((with_reducible apply bl_setCell); (focus (first | exact Nat.le_refl _ | (simp; done) | (simp; omega) | omega))) | ((with_reducible apply up_tr); assumption)))⟩
def bsign (b : Bool) (n : Nat) : Int := if n = 0 then 0 else if b then -1 else 1
theorem bsign_any (b : Bool) (a : Option Addr) (n c : Nat) (w : World) :
   Calls Tryz.prog 71 #[.agg #[.bool b, .slice a n c]] w fun e w' => e = .returned (.int .i64 (bsign b n)) /\ Up w w' := by
 by_cases h0 : n = 0
 ·subst h0
  go_enter Tryz.func71, Tryz.ntmps71
  go_wp2
  go_ret
  exact ⟨rfl, (by repeat (first | assumption | (with_reducible apply Up.of) | (with_reducible exact Below.refl _ _) | (with_reducible exact Up.refl _) | ((with_reducible apply bl_setRow); (focus (first | exact Nat.le_refl _ | (simp; done) | (simp; omega) | omega))) | (with_reducible apply below_drewN) | (with_reducible apply Below.drew) | ((with_reducible apply bl_alloc); (focus (first | exact Nat.le_refl _ | (simp; done) | (simp; omega) | omega))) | ((with_reducible apply bl_setCell); (focus (first | exact Nat.le_refl _ | (simp; done) | (simp; omega) | omega))) | ((with_reducible apply up_tr); assumption)))⟩
 ·have hb : ((n : Int) == 0) = false := by simpa using h0
  have e : bsign b n = if b then -1 else 1 := by unfold bsign; rw [if_neg h0]
  rw [e]
  clear e h0
  go_enter Tryz.func71, Tryz.ntmps71
  cases b <;> (go_wp2; go_ret; exact ⟨rfl, (by repeat (first | assumption | (with_reducible apply Up.of) | (with_reducible exact Below.refl _ _) | (with_reducible exact Up.refl _) | ((with_reducible apply bl_setRow); (focus (first | exact Nat.le_refl _ | (simp; done) | (simp; omega) | omega))) | (with_reducible apply below_drewN) | (with_reducible apply Below.drew) | ((with_reducible apply bl_alloc); (focus (first | exact Nat.le_refl _ | (simp; done) | (simp; omega) | omega))) | ((with_reducible apply bl_setCell); (focus (first | exact Nat.le_refl _ | (simp; done) | (simp; omega) | omega))) | ((with_reducible apply up_tr); assumption)))⟩)
theorem big_neg {w : World} {v : Value} {z : Int} (h : Big w v z) : ∃ b a n c, v = .agg #[.bool b, .slice a n c] /\ Big w (.agg #[.bool (!b && decide (0 < n)), .slice a n c]) (-z) := by
 obtain ⟨a, c, rfl, hA⟩ := h
 refine ⟨_, a, _, c, rfl, a, c, ?_, by rw [Int.natAbs_neg]; exact hA⟩
 rw [Int.natAbs_neg]
 have : (!decide (z < 0) && decide (0 < nl z.natAbs)) = decide (-z < 0) := by
  rw [Bool.eq_iff_iff]
  simp [nl_pos_iff]
  omega
 rw [this]
theorem sgn_big {z : Int} : bsign (decide (z < 0)) (nl z.natAbs) = sgn z := by
 unfold bsign sgn
 by_cases h : nl z.natAbs = 0
 ·have : ¬ 0 < z.natAbs := fun h1 => by have := nl_pos h1; omega
  rw [if_pos h, show z = 0 by omega]; rfl
 ·have := nl_pos_iff.1 (Nat.pos_of_ne_zero h)
  rw [if_neg h]
  by_cases h1 : z < 0
  ·simp [h1]
  ·have h2 : z ≠ 0 := by omega
   simp [h1, h2]
theorem ord_len {x y : Nat} (h : nl x < nl y) : x < y := by
 have h1 := lt_bp_nl x
 have h2 := bp_le_nl (show 0 < nl y by omega)
 have h3 := bp_mono (show nl x <= nl y - 1 by omega)
 omega
set_option maxHeartbeats 1000000 in
theorem cmp_am {x y : Nat} {va vb : Value} {w : World} (ha : Am w va x) (hb : Am w vb y) (_ : nl x < 1000000) (hy : nl y < 1000000) :
   Calls Tryz.prog 47 #[va, vb] w fun e w' => e = .returned (.int .i64 (ordZ x y)) /\ Up w w' := by
 obtain ⟨a, ca, rfl, hca1, hca0⟩ := ha.open
 obtain ⟨b, cb, rfl, hcb1, hcb0⟩ := hb.open
 clear ha hb
 rcases Nat.lt_trichotomy (nl x) (nl y) with h | h | h
 ·have e : ordZ x y = -1 := by unfold ordZ; rw [if_pos (ord_len h)]
  rw [e]
  have d0 : ((nl x : Int) != (nl y : Nat)) = true := by simp; omega
  have d1 : decide ((nl x : Int) < (nl y : Nat)) = true := decide_eq_true (by omega)
  clear e hca0 hcb0
  generalize nl x = p at *
  generalize nl y = q at *
  go_enter Tryz.func47, Tryz.ntmps47
  go_wp2
  go_ret
  exact ⟨rfl, gUp⟩
 ·have H := hid h
  go_enter Tryz.func47, Tryz.ntmps47
  rw [h]
  clear h
  go_wp2
  go_loopw [5] (fun i wr => ∃ m : Nat, m <= nl y /\ i = .int .i64 ((m : Int) - 1) /\ (∀ i, m <= i -> i < nl y -> limb x i = limb y i) /\ Below w.heap.size w wr)
   (fun i _ => (intOf i + 1).toNat)
  case atStart => exact ⟨nl y, Nat.le_refl _, rfl, fun i h1 h2 => by omega, Below.refl _ _⟩
  case round =>
   obtain ⟨m, hm, rfl, hgx, hB⟩ := hrel
   have Hgx := hid hgx
   clear hgx
   by_cases hlt : 0 < m
   ·obtain ⟨k, rfl⟩ : ∃ k, m = k + 1 := ⟨m - 1, by omega⟩
    have e : (((k + 1 : Nat) : Int) - 1) = (k : Int) := by omega
    rw [e]
    clear e
    have hHy := H.out
    obtain ⟨ba, rfl, hba, hca⟩ := hca0 k (by omega)
    obtain ⟨bb, rfl, hbb, hcb⟩ := hcb0 k (by omega)
    clear hHy
    have hcx := hca wr hB
    have hcy := hcb wr hB
    have hl1 := limb_lt x k
    have hl2 := limb_lt y k
    have sx : sumL (limb x) (nl y) = x := by rw [<- H.out]; exact sum_nl x
    have sy := sum_nl y
    have h1 : limb x k < limb y k -> ordZ x y = -1 := fun h => by
     have := sumL_lt_of (fun i _ => limb_lt x i) (show k < nl y by omega) (fun j h1 h2 => Hgx.out j (by omega) h2) h
     rw [sx, sy] at this
     simp [ordZ, this]
    have h2 : limb y k < limb x k -> ordZ x y = 1 := fun h => by
     have := sumL_lt_of (fun i _ => limb_lt y i) (show k < nl y by omega) (fun j h1 h2 => (Hgx.out j (by omega) h2).symm) h
     rw [sx, sy] at this
     have h3 : ¬ x < y := by omega
     simp [ordZ, this, h3]
    have hE : limb x k = limb y k -> ∀ i, k <= i -> i < nl y -> limb x i = limb y i := fun h i h1 h2 => by
     by_cases e : i = k
     ·rw [e]; exact h
     ·exact Hgx.out i (by omega) h2
    have H1 := hid h1
    have H2 := hid h2
    have HE := hid hE
    clear sx sy h1 h2 hE hca hcb hca0 hcb0
    generalize limb x k = lx at *
    generalize limb y k = ly at *
    rcases Nat.lt_trichotomy lx ly with h | h | h
    ·have d0 : ((lx : Int) != ly) = true := by simp; omega
     have d1 : decide ((lx : Int) < ly) = true := decide_eq_true (by omega)
     go_wp2
     go_quiet (fail)
     go_wp2
     go_quiet (fail)
     go_wp2
     go_ret
     exact ⟨ret_int (H1.out h).symm, below_drewN (below_drewN hB _) _⟩
    ·have HF := hid (HE.out h)
     have d0 : ((lx : Int) != ly) = false := by simp; omega
     clear HE
     go_wp2
     go_quiet (fail)
     go_wp2
     go_roundw
     case rel => exact ⟨k, by omega, by go_num, HF.out, below_drewN hB _⟩
     case measure => simp [intOf] <;> omega
    ·have d0 : ((lx : Int) != ly) = true := by simp; omega
     have d1 : decide ((lx : Int) < ly) = false := decide_eq_false (by omega)
     go_wp2
     go_quiet (fail)
     go_wp2
     go_quiet (fail)
     go_wp2
     go_ret
     exact ⟨ret_int (H2.out h).symm, below_drewN (below_drewN hB _) _⟩
   ·obtain rfl : m = 0 := by omega
    have h0 : x = y := by
     rw [<- sum_nl x, <- sum_nl y, H.out]
     exact sumL_congr fun i hi => Hgx.out i (by omega) hi
    have H0 := hid h0
    clear h0
    go_wp2
    go_ret
    exact ⟨ret_int (by simp [ordZ, H0.out]), hB⟩
 ·have e : ordZ x y = 1 := by
   have := ord_len h
   unfold ordZ
   rw [if_neg (by omega)]
   first | rw [if_neg (by omega)] | rw [if_pos (by omega)]
  rw [e]
  have d0 : ((nl x : Int) != (nl y : Nat)) = true := by simp; omega
  have d1 : decide ((nl x : Int) < (nl y : Nat)) = false := decide_eq_false (by omega)
  clear e hca0 hcb0
  generalize nl x = p at *
  generalize nl y = q at *
  go_enter Tryz.func47, Tryz.ntmps47
  go_wp2
  go_ret
  exact ⟨rfl, gUp⟩
theorem Am.setRow {w : World} {v : Value} {x g : Nat} {C D : Array Value} (h : Am w v x) (hg : Blk w g 69 C) : Am (w.setRow g D) v x := by
 obtain ⟨a, c, h1, h2, h3⟩ := h
 refine ⟨a, c, h1, h2, fun h0 => ?_⟩
 obtain ⟨b, E, h4, h6, h7⟩ := h3 h0
 refine ⟨b, E, h4, h6.row_other D ?_, h7⟩
 rintro rfl
 unfold Blk at *
 rw [hg] at h6
 simp at h6
theorem Big.setRow {w : World} {v : Value} {z : Int} {g : Nat} {C D : Array Value} (h : Big w v z) (hg : Blk w g 69 C) : Big (w.setRow g D) v z := by
 obtain ⟨a, c, h1, h2⟩ := h
 exact ⟨a, c, h1, h2.setRow hg⟩
theorem Big.shape {w : World} {v : Value} {z : Int} (h : Big w v z) : ∃ b a n c, v = .agg #[.bool b, .slice a n c] := by
 obtain ⟨a, c, h1, _⟩ := h
 exact ⟨_, a, _, c, h1⟩
theorem pm_int (z : Int) : z = pm (decide (z < 0)) z.natAbs := by
 by_cases h : z < 0 <;> simp [pm, h] <;> omega
theorem pm_same (p : Bool) (X Y : Nat) : pm p X + pm p Y = pm p (X + Y) := by cases p <;> simp [pm] <;> omega
theorem pm_more {p : Bool} {X Y : Nat} (h : Y <= X) : pm p X + pm (!p) Y = pm p (X - Y) := by cases p <;> simp [pm] <;> omega
theorem pm_less {p : Bool} {X Y : Nat} (h : X < Y) : pm p X + pm (!p) Y = pm (!p) (Y - X) := by cases p <;> simp [pm] <;> omega
set_option maxHeartbeats 1000000 in
theorem add_pm (p q : Bool) (X Y : Nat) (a b : Option Addr) (ca cb : Nat) (w : World) (hA : Am w (.slice a (nl X) ca) X) (hB : Am w (.slice b (nl Y) cb) Y) (hx : nl X < 50000) (hy : nl Y < 50000) :
   Calls Tryz.prog 30 #[.agg #[.bool p, .slice a (nl X) ca], .agg #[.bool q, .slice b (nl Y) cb]] w fun e w' => Up w w' /\ ∃ v, e = .returned v /\ Big w' v (pm p X + pm q Y) := by
 by_cases hpq : p = q
 ·subst hpq
  rw [pm_same]
  go_enter Tryz.func30, Tryz.ntmps30
  go_wp2
  refine opU (S := (fun wq => Blk wq (w.heap.size + 1 + 1) 69 #[.bool false, .slice none 0 0] /\ wq.cell? ⟨w.heap.size, 0, none⟩ = some (.bool p) /\ wq.cell? ⟨w.heap.size, 1, none⟩ = some (.slice a (nl X) ca) /\ wq.cell? ⟨w.heap.size + 1, 1, none⟩ = some (.slice b (nl Y) cb) /\ Below w.heap.size w wq)) (req := (fun j => j != 8)) (fun _ _ h hu => ⟨(h.1).up hu, hu.cell (h.2.1), hu.cell (h.2.2.1), hu.cell (h.2.2.2.1), below_up (h.2.2.2.2) hu⟩) ⟨gBlk, (by first | assumption | (apply Blk.cell; exact gBlk; exact rfl)), (by first | assumption | (apply Blk.cell; exact gBlk; exact rfl)), (by first | assumption | (apply Blk.cell; exact gBlk; exact rfl)), gUp⟩ (fun wS hSS hSu => ?_)
  have ⟨hS1, hS2, hS3, hS4, hSB⟩ := hSS
  refine tkP 0 (some 10) hSu ?_
  refine tkT 1 (some 11) rfl hSu hSS ?_ (hy := fun w' hSw => by ((try dsimp only at hSw); (try obtain ⟨_, _, _, _, _⟩ := hSw); go_simp; (try exact rfl)))
  refine tkP 2 (some 12) hSu ?_
  refine tkT 3 (some 13) rfl hSu hSS ?_ (hy := fun w' hSw => by ((try dsimp only at hSw); (try obtain ⟨_, _, _, _, _⟩ := hSw); go_simp; (try exact rfl)))
  refine tkP 4 (some 14) hSu ?_
  refine tkT 5 (some 15) rfl hSu hSS ?_ (hy := fun w' hSw => by ((try dsimp only at hSw); (try obtain ⟨_, _, _, _, _⟩ := hSw); go_simp; (try exact rfl)))
  refine wpAnyU_callE (i := 6) (d := (some 16)) rfl rfl (by kernel_rfl) (by rfl) hSu.out (fun w' => by go_simp) (fun w' hw' => plus_am (hA.up (below_up hSB hw')) (hB.up (below_up hSB hw')) (by omega) (by omega)) fun vP wP hwP hRP => ?_
  try simp only [Act.put, pu1, pu2, pu3]
  obtain ⟨a1, c1, rfl⟩ := hRP.shape
  refine wpAnyU_callE (i := 7) (d := (some 17)) rfl rfl (by kernel_rfl) (by rfl) hSu.out (fun w' => by go_simp) (fun w' hw' => callE_of (made_any p a1 (nl (X + Y)) c1 w')) fun vM wM hwM hRM => ?_
  try simp only [Act.put, pu1, pu2, pu3]
  subst hRM
  refine wpAnyU_one (i := 8) rfl (by kernel_rfl) (by rfl) fun w2 hw2 => ?_
  have gK := ((hS1.up hwP).up hwM).up hw2
  refine wp_stB rfl rfl rfl rfl gK rfl rfl (one2 _ _ _ _) ?_
  refine ⟨fun h => by simp at h, ?_⟩
  try simp only [Act.put, pu1, pu2, pu3]
  refine wpAnyU_done (by kernel_rfl) (fun wF huE => ?_) _
  have gR := (gK.setRow #[.bool (p && decide (0 < nl (X + Y))), .slice a1 (nl (X + Y)) c1]).up huE
  have gA := (((hRP.up hwM).up hw2).setRow (D := #[.bool (p && decide (0 < nl (X + Y))), .slice a1 (nl (X + Y)) c1]) gK).up huE
  have gB := below_up (below_setRow (below_up (below_up (below_up hSB hwP) hwM) hw2) (show w.heap.size <= w.heap.size + 1 + 1 by omega) #[.bool (p && decide (0 < nl (X + Y))), .slice a1 (nl (X + Y)) c1]) huE
  have gBig := big_made p gA
  clear gK hRP hwP hwM hw2 huE hS1 hS2 hS3 hS4 hSB hSS gA
  go_wp2
  exact bodyPost_ret (resB rfl rfl gR rfl) rfl ⟨gB, _, rfl, gBig⟩
 ·have hq : q = !p := by cases p <;> cases q <;> simp_all
  subst hq
  have d0 : (p == !p) = false := by cases p <;> rfl
  clear hpq
  by_cases hc : Y <= X
  ·rw [pm_more hc]
   have d1 : decide (0 <= ordZ X Y) = true := by
    unfold ordZ
    rw [if_neg (by omega)]
    split <;> simp
   go_enter Tryz.func30, Tryz.ntmps30
   go_wp2_with (first | (go_at_call 47; (with_reducible refine (cmp_am (hA.up gUp) (hB.up gUp) (by omega) (by omega)).mono ?_); rintro e wC ⟨rfl, huC⟩))
   refine opU (S := (fun wq => Blk wq (w.heap.size + 1 + 1) 69 #[.bool false, .slice none 0 0] /\ wq.cell? ⟨w.heap.size, 0, none⟩ = some (.bool p) /\ wq.cell? ⟨w.heap.size, 1, none⟩ = some (.slice a (nl X) ca) /\ wq.cell? ⟨w.heap.size + 1, 1, none⟩ = some (.slice b (nl Y) cb) /\ Below w.heap.size w wq)) (req := (fun j => j != 8)) (fun _ _ h hu => ⟨(h.1).up hu, hu.cell (h.2.1), hu.cell (h.2.2.1), hu.cell (h.2.2.2.1), below_up (h.2.2.2.2) hu⟩) ⟨gBlk, (by first | assumption | (apply Blk.cell; exact gBlk; exact rfl)), (by first | assumption | (apply Blk.cell; exact gBlk; exact rfl)), (by first | assumption | (apply Blk.cell; exact gBlk; exact rfl)), gUp⟩ (fun wS hSS hSu => ?_)
   have ⟨hS1, hS2, hS3, hS4, hSB⟩ := hSS
   refine tkP 0 (some 24) hSu ?_
   refine tkT 1 (some 25) rfl hSu hSS ?_ (hy := fun w' hSw => by ((try dsimp only at hSw); (try obtain ⟨_, _, _, _, _⟩ := hSw); go_simp; (try exact rfl)))
   refine tkP 2 (some 26) hSu ?_
   refine tkT 3 (some 27) rfl hSu hSS ?_ (hy := fun w' hSw => by ((try dsimp only at hSw); (try obtain ⟨_, _, _, _, _⟩ := hSw); go_simp; (try exact rfl)))
   refine tkP 4 (some 28) hSu ?_
   refine tkT 5 (some 29) rfl hSu hSS ?_ (hy := fun w' hSw => by ((try dsimp only at hSw); (try obtain ⟨_, _, _, _, _⟩ := hSw); go_simp; (try exact rfl)))
   refine wpAnyU_callE (i := 6) (d := (some 30)) rfl rfl (by kernel_rfl) (by rfl) hSu.out (fun w' => by go_simp) (fun w' hw' => minus_am (hA.up (below_up hSB hw')) (hB.up (below_up hSB hw')) (by omega) hc) fun vP wP hwP hRP => ?_
   try simp only [Act.put, pu1, pu2, pu3]
   obtain ⟨a1, c1, rfl⟩ := hRP.shape
   refine wpAnyU_callE (i := 7) (d := (some 31)) rfl rfl (by kernel_rfl) (by rfl) hSu.out (fun w' => by go_simp) (fun w' hw' => callE_of (made_any p a1 (nl (X - Y)) c1 w')) fun vM wM hwM hRM => ?_
   try simp only [Act.put, pu1, pu2, pu3]
   subst hRM
   refine wpAnyU_one (i := 8) rfl (by kernel_rfl) (by rfl) fun w2 hw2 => ?_
   have gK := ((hS1.up hwP).up hwM).up hw2
   refine wp_stB rfl rfl rfl rfl gK rfl rfl (one2 _ _ _ _) ?_
   refine ⟨fun h => by simp at h, ?_⟩
   try simp only [Act.put, pu1, pu2, pu3]
   refine wpAnyU_done (by kernel_rfl) (fun wF huE => ?_) _
   have gR := (gK.setRow #[.bool (p && decide (0 < nl (X - Y))), .slice a1 (nl (X - Y)) c1]).up huE
   have gA := (((hRP.up hwM).up hw2).setRow (D := #[.bool (p && decide (0 < nl (X - Y))), .slice a1 (nl (X - Y)) c1]) gK).up huE
   have gB := below_up (below_setRow (below_up (below_up (below_up hSB hwP) hwM) hw2) (show w.heap.size <= w.heap.size + 1 + 1 by omega) #[.bool (p && decide (0 < nl (X - Y))), .slice a1 (nl (X - Y)) c1]) huE
   have gBig := big_made p gA
   clear gK hRP hwP hwM hw2 huE hS1 hS2 hS3 hS4 hSB hSS gA
   go_wp2
   exact bodyPost_ret (resB rfl rfl gR rfl) rfl ⟨gB, _, rfl, gBig⟩
  ·rw [pm_less (by omega)]
   have d1 : decide (0 <= ordZ X Y) = false := by
    unfold ordZ
    rw [if_pos (by omega)]
    rfl
   go_enter Tryz.func30, Tryz.ntmps30
   go_wp2_with (first | (go_at_call 47; (with_reducible refine (cmp_am (hA.up gUp) (hB.up gUp) (by omega) (by omega)).mono ?_); rintro e wC ⟨rfl, huC⟩))
   refine opU (S := (fun wq => Blk wq (w.heap.size + 1 + 1) 69 #[.bool false, .slice none 0 0] /\ wq.cell? ⟨w.heap.size + 1, 0, none⟩ = some (.bool (!p)) /\ wq.cell? ⟨w.heap.size + 1, 1, none⟩ = some (.slice b (nl Y) cb) /\ wq.cell? ⟨w.heap.size, 1, none⟩ = some (.slice a (nl X) ca) /\ Below w.heap.size w wq)) (req := (fun j => j != 8)) (fun _ _ h hu => ⟨(h.1).up hu, hu.cell (h.2.1), hu.cell (h.2.2.1), hu.cell (h.2.2.2.1), below_up (h.2.2.2.2) hu⟩) ⟨gBlk, (by first | assumption | (apply Blk.cell; exact gBlk; exact rfl)), (by first | assumption | (apply Blk.cell; exact gBlk; exact rfl)), (by first | assumption | (apply Blk.cell; exact gBlk; exact rfl)), gUp⟩ (fun wS hSS hSu => ?_)
   have ⟨hS1, hS2, hS3, hS4, hSB⟩ := hSS
   refine tkP 0 (some 32) hSu ?_
   refine tkT 1 (some 33) rfl hSu hSS ?_ (hy := fun w' hSw => by ((try dsimp only at hSw); (try obtain ⟨_, _, _, _, _⟩ := hSw); go_simp; (try exact rfl)))
   refine tkP 2 (some 34) hSu ?_
   refine tkT 3 (some 35) rfl hSu hSS ?_ (hy := fun w' hSw => by ((try dsimp only at hSw); (try obtain ⟨_, _, _, _, _⟩ := hSw); go_simp; (try exact rfl)))
   refine tkP 4 (some 36) hSu ?_
   refine tkT 5 (some 37) rfl hSu hSS ?_ (hy := fun w' hSw => by ((try dsimp only at hSw); (try obtain ⟨_, _, _, _, _⟩ := hSw); go_simp; (try exact rfl)))
   refine wpAnyU_callE (i := 6) (d := (some 38)) rfl rfl (by kernel_rfl) (by rfl) hSu.out (fun w' => by go_simp) (fun w' hw' => minus_am (hB.up (below_up hSB hw')) (hA.up (below_up hSB hw')) (by omega) (by omega)) fun vP wP hwP hRP => ?_
   try simp only [Act.put, pu1, pu2, pu3]
   obtain ⟨a1, c1, rfl⟩ := hRP.shape
   refine wpAnyU_callE (i := 7) (d := (some 39)) rfl rfl (by kernel_rfl) (by rfl) hSu.out (fun w' => by go_simp) (fun w' hw' => callE_of (made_any (!p) a1 (nl (Y - X)) c1 w')) fun vM wM hwM hRM => ?_
   try simp only [Act.put, pu1, pu2, pu3]
   subst hRM
   refine wpAnyU_one (i := 8) rfl (by kernel_rfl) (by rfl) fun w2 hw2 => ?_
   have gK := ((hS1.up hwP).up hwM).up hw2
   refine wp_stB rfl rfl rfl rfl gK rfl rfl (one2 _ _ _ _) ?_
   refine ⟨fun h => by simp at h, ?_⟩
   try simp only [Act.put, pu1, pu2, pu3]
   refine wpAnyU_done (by kernel_rfl) (fun wF huE => ?_) _
   have gR := (gK.setRow #[.bool ((!p) && decide (0 < nl (Y - X))), .slice a1 (nl (Y - X)) c1]).up huE
   have gA := (((hRP.up hwM).up hw2).setRow (D := #[.bool ((!p) && decide (0 < nl (Y - X))), .slice a1 (nl (Y - X)) c1]) gK).up huE
   have gB := below_up (below_setRow (below_up (below_up (below_up hSB hwP) hwM) hw2) (show w.heap.size <= w.heap.size + 1 + 1 by omega) #[.bool ((!p) && decide (0 < nl (Y - X))), .slice a1 (nl (Y - X)) c1]) huE
   have gBig := big_made (!p) gA
   clear gK hRP hwP hwM hw2 huE hS1 hS2 hS3 hS4 hSB hSS gA
   go_wp2
   exact bodyPost_ret (resB rfl rfl gR rfl) rfl ⟨gB, _, rfl, gBig⟩
theorem add_big {x y : Int} {va vb : Value} {w : World} (ha : Big w va x) (hb : Big w vb y) (hx : nl x.natAbs < 50000) (hy : nl y.natAbs < 50000) :
   Calls Tryz.prog 30 #[va, vb] w fun e w' => Up w w' /\ ∃ v, e = .returned v /\ Big w' v (x + y) := by
 obtain ⟨a, ca, rfl, hA⟩ := ha
 obtain ⟨b, cb, rfl, hB⟩ := hb
 have h := add_pm (decide (x < 0)) (decide (y < 0)) x.natAbs y.natAbs a b ca cb w hA hB hx hy
 rw [<- pm_int, <- pm_int] at h
 exact h
theorem mul64_up (x y : Nat) (hx : x < 18446744073709551616) (hy : y < 18446744073709551616) {h l : Nat} (eh : h = x * y / 18446744073709551616) (el : l = x * y % 18446744073709551616) (w : World) :
   Calls Tryz.prog 73 #[.int .u64 x, .int .u64 y] w fun e w' => e = .returned (.tuple #[.int .u64 (h : Nat), .int .u64 (l : Nat)]) /\ Up w w' := by
 refine (Tryz.bits_Mul64 x y hx hy w).mono ?_
 rintro e w' ⟨rfl, rfl⟩
 exact ⟨by rw [eh, el], Up.refl _⟩
set_option maxHeartbeats 2000000 in
theorem times_am {x y : Nat} {va vb : Value} {w : World} (ha : Am w va x) (hb : Am w vb y) (hx : nl x < 100000) (hy : nl y < 100000) :
   Calls Tryz.prog 48 #[va, vb] w fun e w' => Up w w' /\ ∃ v, e = .returned v /\ Am w' v (x * y) := by
 obtain ⟨a, ca, rfl, hca1, hca0⟩ := ha.open
 obtain ⟨b, cb, rfl, hcb1, hcb0⟩ := hb.open
 have HSX := hid (sum_nl x)
 have HSY := hid (sum_nl y)
 clear ha hb
 generalize nl x = n at *
 generalize nl y = m at *
 go_enter Tryz.func48, Tryz.ntmps48
 go_wp2_with (first | ((with_reducible apply mkP (n := n + m)); exact rfl; (first | rfl | omega); omega))
 go_loopw [6] (fun ti wr => ∃ (i : Nat) (S : Nat -> Nat), i <= n /\ ti = .int .i64 (i : Nat) /\ (∀ j, j < n + m -> S j < 18446744073709551616) /\ sumL S (n + m) = sumL (limb x) i * sumL (limb y) m /\ (∀ j, i + m <= j -> j < n + m -> S j = 0) /\ Row wr w.heap.size 60 (n + m) S /\ Below w.heap.size w wr)
  (fun ti _ => n - (intOf ti).toNat)
 case atStart => exact ⟨0, fun _ => 0, by omega, rfl, fun _ _ => by simp, by rw [sumL_zero, Nat.zero_mul]; exact sumL_zeros _, fun _ _ _ => rfl, row_newc _ _ _ rfl, (by repeat (first | assumption | (with_reducible exact Below.refl _ _) | ((with_reducible apply bl_alloc); (focus (first | exact Nat.le_refl _ | (simp; done) | (simp; omega) | omega)))))⟩
 case round =>
  obtain ⟨i, S, hi, rfl, hSb, hsum, hz, hM, hB⟩ := hrel
  have HSb := hid hSb
  have Hsum := hid hsum
  have Hz := hid hz
  clear hSb hsum hz
  obtain ⟨wo, rfl⟩ : ∃ wo : World, wo = wr := ⟨_, rfl⟩
  by_cases hlt : i < n
  ·obtain ⟨ba, rfl, hba, hca⟩ := hca0 i hlt
   go_wp2
   go_loopw [7, 8] (fun tc tk wi => ∃ (k c : Nat) (S' : Nat -> Nat), k <= m /\ tk = .int .i64 (k : Nat) /\ tc = .int .u64 (c : Nat) /\ c < 18446744073709551616 /\ (∀ j, j < n + m -> S' j < 18446744073709551616) /\
      sumL S' (n + m) + c * (bp i * bp k) = sumL (limb x) i * sumL (limb y) m + limb x i * bp i * sumL (limb y) k /\ (∀ j, i + m <= j -> j < n + m -> S' j = 0) /\ Row wi w.heap.size 60 (n + m) S' /\ Below w.heap.size w wi)
    (fun _ tk _ => m - (intOf tk).toNat)
   case atStart => exact ⟨0, 0, S, by omega, rfl, rfl, by omega, HSb.out, by rw [sumL_zero, Hsum.out]; omega, Hz.out, hM, hB⟩
   case round =>
    clear hM hB HSb Hsum Hz
    obtain ⟨k, c, S', hk, rfl, rfl, hc, hSb, hsum, hz, hM, hB⟩ := hrel
    have HSb := hid hSb
    have Hsum := hid hsum
    have Hz := hid hz
    clear hSb hsum hz
    by_cases hkt : k < m
    ·obtain ⟨bb, rfl, hbb, hcb⟩ := hcb0 k hkt
     have hcx := hca _ hB
     have hcy := hcb _ hB
     obtain ⟨h, eh⟩ : ∃ h, h = limb x i * limb y k / 18446744073709551616 := ⟨_, rfl⟩
     obtain ⟨l, el⟩ : ∃ l, l = limb x i * limb y k % 18446744073709551616 := ⟨_, rfl⟩
     have hlx' := limb_lt x i
     have hly' := limb_lt y k
     have HM := hid (fun w => mul64_up _ _ hlx' hly' eh el w)
     have hsk := HSb.out (i + k) (by omega)
     obtain ⟨r1, c1, HA, e1, f1⟩ : ∃ r c : Nat, (∀ w, (callFunc 74 #[.int .u64 (l : Nat), .int .u64 (S' (i + k) : Nat), .int .u64 0]).run Tryz.prog w = .ok (.value (.tuple #[.int .u64 (r : Nat), .int .u64 (c : Nat)])) w) /\
      r = (l + S' (i + k) + 0) % 18446744073709551616 /\ c = (l + S' (i + k) + 0) / 18446744073709551616 := ⟨_, _, run_add l (S' (i + k)) 0 (by omega), rfl, rfl⟩
     obtain ⟨r2, c2, HA2, e2, f2⟩ : ∃ r cc : Nat, (∀ w, (callFunc 74 #[.int .u64 (r1 : Nat), .int .u64 (c : Nat), .int .u64 0]).run Tryz.prog w = .ok (.value (.tuple #[.int .u64 (r : Nat), .int .u64 (cc : Nat)])) w) /\
      r = (r1 + c + 0) % 18446744073709551616 /\ cc = (r1 + c + 0) / 18446744073709551616 := ⟨_, _, run_add r1 c 0 (by omega), rfl, rfl⟩
     obtain ⟨g1, g2, g3⟩ := step_arith hlx' hly' hsk hc eh el e1 f1 e2 f2
     obtain ⟨hr, hc', hrc⟩ := step_bound hlx' hly' hsk hc g2 g3
     have Hrc := hid hrc
     obtain ⟨h1, eh1⟩ : ∃ h1, h1 = h + c1 := ⟨_, rfl⟩
     obtain ⟨h2, eh2⟩ : ∃ h2, h2 = h1 + c2 := ⟨_, rfl⟩
     have w1 : IntKind.u64.wrap ((h : Int) + c1) = (h1 : Nat) := by rw [IntKind.wrap_u64]; omega
     have w2 : IntKind.u64.wrap ((h1 : Int) + c2) = (h2 : Nat) := by rw [IntKind.wrap_u64]; omega
     have hh2 : h2 < 18446744073709551616 := by omega
     have Hh2 := hid (show h + c1 + c2 = h2 by omega)
     clear e1 f1 e2 f2 g1 g2 g3 hrc eh el eh1 eh2 hc'
     go_wp2
     refine opU (S := (fun wq => Row wq w.heap.size 60 (n + m) S' /\ wq.cell? ⟨ba, i, none⟩ = some (.int .u64 (limb x i : Nat)) /\ wq.cell? ⟨bb, k, none⟩ = some (.int .u64 (limb y k : Nat)) /\ Below w.heap.size w wq)) (req := (fun _ => true)) (fun _ _ h hu => ⟨(h.1).up hu, hu.cell (h.2.1), hu.cell (h.2.2.1), below_up (h.2.2.2) hu⟩) ⟨gRow, (by first | assumption | (apply Blk.cell; exact gBlk; exact rfl)), (by first | assumption | (apply Blk.cell; exact gBlk; exact rfl)), gUp⟩ (fun wS hSS hSu => ?_)
     have ⟨hS1, hS2, hS3, hSB⟩ := hSS
     clear hcx hcy hM hB
     refine tkP 0 (some 31) hSu ?_
     refine tkP 1 (some 32) hSu ?_
     refine tkP 2 (some 33) hSu ?_
     refine tkT 3 (some 34) rfl hSu hSS ?_ (hy := fun w' hSw => by ((try dsimp only at hSw); (try obtain ⟨_, _, _, _⟩ := hSw); go_simp; (try exact rfl)))
     refine tkP 4 (some 35) hSu ?_
     refine tkP 5 (some 36) hSu ?_
     refine tkP 6 (some 37) hSu ?_
     refine tkT 7 (some 38) rfl hSu hSS ?_ (hy := fun w' hSw => by ((try dsimp only at hSw); (try obtain ⟨_, _, _, _⟩ := hSw); go_simp; (try exact rfl)))
     refine tkC 8 (some 39) rfl hSu hSS ?_ (hy := fun w' hSw => (HM.out _))
     refine tkP 9 (some 30) hSu ?_
     refine tkP 10 (some 40) hSu ?_
     refine tkP 11 (some 41) hSu ?_
     refine tkP 12 (some 9) hSu ?_
     refine tkP 13 (some 10) hSu ?_
     refine wpAnyU_done (by kernel_rfl) (fun wE huE => ?_) _
     have ⟨hS1, hS2, hS3, hSB⟩ := hSu.out _ _ hSS huE
     clear huE hSS
     have E2 : ((i : Int) + (k : Int)).toNat = i + k := by omega
     have E3 : ((n + m : Nat) : Int) = (n : Int) + m := by omega
     have hik : (i : Int) + (k : Int) < (n : Int) + m := by omega
     have hcs := hS1.cell (i + k) (by omega)
     have hfs := hS1.frozen (i + k)
     have gM := hS1.set (i + k) r2
     have gB := hSB.setCell (p := ⟨w.heap.size, i + k, none⟩) (Nat.le_refl _) (.int .u64 (r2 : Nat))
     clear hS1 hS2 hS3 hSB
     go_wp2
     go_roundw
     case rel =>
      refine ⟨k + 1, h2, upd S' (i + k) r2, by omega, by go_num, rfl, hh2, upd_lt HSb.out hr, ?_, fun j h1 h2 => by rw [upd_other _ _ _ (by omega)]; exact Hz.out j h1 h2, gM, gB⟩
      have hu := sumL_upd S' r2 (show i + k < n + m by omega)
      have hr' := Hrc.out
      rw [bp_add] at hu
      rw [Hh2.out] at hr'
      rw [bp_succ, sumL_succ (limb y) k, <- Nat.mul_assoc (bp i)]
      exact times_step Hsum.out hu hr'
     case measure => simp [intOf] <;> omega
    ·obtain rfl : k = m := by omega
     have E2 : ((i : Int) + (k : Int)).toNat = i + k := by omega
     have E3 : ((n + k : Nat) : Int) = (n : Int) + k := by omega
     have hik : (i : Int) + (k : Int) < (n : Int) + k := by omega
     have hcs := hM.cell (i + k) (by omega)
     have hfs := hM.frozen (i + k)
     have gM := hM.set (i + k) c
     have gB := hB.setCell (p := ⟨w.heap.size, i + k, none⟩) (Nat.le_refl _) (.int .u64 (c : Nat))
     clear hM hB
     go_wp2
     go_roundw
     case rel =>
      refine ⟨i + 1, upd S' (i + k) c, by omega, by go_num, upd_lt HSb.out hc, ?_, fun j h1 h2 => by rw [upd_other _ _ _ (by omega)]; exact Hz.out j (by omega) h2, gM, gB⟩
      have h2 := sumL_upd S' c (show i + k < n + k by omega)
      have h3 := Hz.out (i + k) (Nat.le_refl _) (by omega)
      have h4 := Hsum.out
      rw [bp_add, h3, Nat.zero_mul, Nat.add_zero] at h2
      rw [h2, sumL_succ (limb x) i, Nat.add_mul]
      exact h4
     case measure => simp [intOf] <;> omega
  ·obtain rfl : i = n := by omega
   have he := Hsum.out
   rw [HSX.out, HSY.out] at he
   have ht := trim_row w.heap.size (i + m) (i + m) (i + m) S wo hM (Nat.le_refl _) (Nat.le_refl _) (by omega)
   have hres := am_row (c := i + m) hM (Nat.le_refl _) (Nat.le_refl _) HSb.out
   rw [he] at hres
   have HT := hid ht
   have HR := hid hres
   clear ht hres he HSb Hsum Hz hM
   go_wp2_with (go_at_call 46; (with_reducible refine HT.out.mono ?_); rintro e w' ⟨rfl, hu⟩)
   go_ret
   exact ⟨below_up hB hu, _, rfl, HR.out.up hu⟩
theorem pm_times (p q : Bool) (X Y : Nat) : pm p X * pm q Y = pm (p != q) (X * Y) := by
 cases p <;> cases q <;> simp [pm, Int.natCast_mul, Int.neg_mul, Int.mul_neg]
set_option maxHeartbeats 1000000 in
theorem sub_big {x y : Int} {va vb : Value} {w : World} (ha : Big w va x) (hb : Big w vb y) (hx : nl x.natAbs < 50000) (hy : nl y.natAbs < 50000) :
   Calls Tryz.prog 72 #[va, vb] w fun e w' => Up w w' /\ ∃ v, e = .returned v /\ Big w' v (x - y) := by
 obtain ⟨p, a, n, ca, rfl⟩ := ha.shape
 obtain ⟨q, b, m, cb, hq, hn⟩ := big_neg hb
 subst hq
 have hA := hid ha
 have hN := hid hn
 rw [Int.sub_eq_add_neg]
 have hy' : nl (-y).natAbs < 50000 := by rw [Int.natAbs_neg]; exact hy
 clear ha hb hn
 go_enter Tryz.func72, Tryz.ntmps72
 go_wp2
 refine opU (S := (fun wq => Blk wq (w.heap.size + 1 + 1) 69 #[.bool false, .slice none 0 0] /\ Blk wq w.heap.size 69 #[.bool p, .slice a n ca] /\ Blk wq (w.heap.size + 1) 69 #[.bool q, .slice b m cb] /\ Below w.heap.size w wq)) (req := (fun j => j != 4)) (fun _ _ h hu => ⟨(h.1).up hu, (h.2.1).up hu, (h.2.2.1).up hu, below_up (h.2.2.2) hu⟩) ⟨gBlk, gBlk, gBlk, gUp⟩ (fun wS hSS hSu => ?_)
 have ⟨hS1, hS2, hS3, hSB⟩ := hSS
 refine tkT 0 (some 5) rfl hSu hSS ?_ (hy := fun w' hSw => run_ldB rfl rfl hSw.2.1 rfl)
 refine tkT 1 (some 6) rfl hSu hSS ?_ (hy := fun w' hSw => run_ldB rfl rfl hSw.2.2.1 rfl)
 refine tkC 2 (some 7) rfl hSu hSS ?_ (hy := fun w' hSw => (neg_any q b m cb w'))
 refine wpAnyU_callE (i := 3) (d := (some 8)) rfl rfl (by kernel_rfl) (by rfl) hSu.out (fun w' => by go_simp) (fun w' hw' => add_big (hA.out.up (below_up hSB hw')) (hN.out.up (below_up hSB hw')) hx hy') fun vA wA hwA hRA => ?_
 try simp only [Act.put, pu1, pu2, pu3]
 obtain ⟨b1, a1, n1, c1, rfl⟩ := hRA.shape
 refine wpAnyU_one (i := 4) rfl (by kernel_rfl) (by rfl) fun w2 hw2 => ?_
 have gK := (hS1.up hwA).up hw2
 refine wp_stB rfl rfl rfl rfl gK rfl rfl (one2 _ _ _ _) ?_
 refine ⟨fun h => by simp at h, ?_⟩
 try simp only [Act.put, pu1, pu2, pu3]
 refine wpAnyU_done (by kernel_rfl) (fun wF huE => ?_) _
 have gR := (gK.setRow #[.bool b1, .slice a1 n1 c1]).up huE
 have gA := ((hRA.up hw2).setRow (D := #[.bool b1, .slice a1 n1 c1]) gK).up huE
 have gB := below_up (below_setRow (below_up (below_up hSB hwA) hw2) (show w.heap.size <= w.heap.size + 1 + 1 by omega) #[.bool b1, .slice a1 n1 c1]) huE
 clear gK hRA hwA hw2 huE hS1 hS2 hS3 hSB hSS
 go_wp2
 exact bodyPost_ret (resB rfl rfl gR rfl) rfl ⟨gB, _, rfl, gA⟩
set_option maxHeartbeats 1000000 in
theorem mul_pm (p q : Bool) (X Y : Nat) (a b : Option Addr) (ca cb : Nat) (w : World) (hA : Am w (.slice a (nl X) ca) X) (hB : Am w (.slice b (nl Y) cb) Y) (hx : nl X < 50000) (hy : nl Y < 50000) :
   Calls Tryz.prog 31 #[.agg #[.bool p, .slice a (nl X) ca], .agg #[.bool q, .slice b (nl Y) cb]] w fun e w' => Up w w' /\ ∃ v, e = .returned v /\ Big w' v (pm p X * pm q Y) := by
 rw [pm_times]
 go_enter Tryz.func31, Tryz.ntmps31
 go_wp2
 refine opU (S := (fun wq => Blk wq (w.heap.size + 1 + 1) 69 #[.bool false, .slice none 0 0] /\ wq.cell? ⟨w.heap.size, 0, none⟩ = some (.bool p) /\ wq.cell? ⟨w.heap.size + 1, 0, none⟩ = some (.bool q) /\ wq.cell? ⟨w.heap.size, 1, none⟩ = some (.slice a (nl X) ca) /\ wq.cell? ⟨w.heap.size + 1, 1, none⟩ = some (.slice b (nl Y) cb) /\ Below w.heap.size w wq)) (req := (fun j => j != 11)) (fun _ _ h hu => ⟨(h.1).up hu, hu.cell (h.2.1), hu.cell (h.2.2.1), hu.cell (h.2.2.2.1), hu.cell (h.2.2.2.2.1), below_up (h.2.2.2.2.2) hu⟩) ⟨gBlk, (by first | assumption | (apply Blk.cell; exact gBlk; exact rfl)), (by first | assumption | (apply Blk.cell; exact gBlk; exact rfl)), (by first | assumption | (apply Blk.cell; exact gBlk; exact rfl)), (by first | assumption | (apply Blk.cell; exact gBlk; exact rfl)), gUp⟩ (fun wS hSS hSu => ?_)
 have ⟨hS1, hS2, hS3, hS4, hS5, hSB⟩ := hSS
 refine tkP 0 (some 5) hSu ?_
 refine tkT 1 (some 6) rfl hSu hSS ?_ (hy := fun w' hSw => by ((try dsimp only at hSw); (try obtain ⟨_, _, _, _, _, _⟩ := hSw); go_simp; (try exact rfl)))
 refine tkP 2 (some 7) hSu ?_
 refine tkT 3 (some 8) rfl hSu hSS ?_ (hy := fun w' hSw => by ((try dsimp only at hSw); (try obtain ⟨_, _, _, _, _, _⟩ := hSw); go_simp; (try exact rfl)))
 refine tkP 4 (some 9) hSu ?_
 refine tkP 5 (some 10) hSu ?_
 refine tkT 6 (some 11) rfl hSu hSS ?_ (hy := fun w' hSw => by ((try dsimp only at hSw); (try obtain ⟨_, _, _, _, _, _⟩ := hSw); go_simp; (try exact rfl)))
 refine tkP 7 (some 12) hSu ?_
 refine tkT 8 (some 13) rfl hSu hSS ?_ (hy := fun w' hSw => by ((try dsimp only at hSw); (try obtain ⟨_, _, _, _, _, _⟩ := hSw); go_simp; (try exact rfl)))
 refine wpAnyU_callE (i := 9) (d := (some 14)) rfl rfl (by kernel_rfl) (by rfl) hSu.out (fun w' => by go_simp) (fun w' hw' => times_am (hA.up (below_up hSB hw')) (hB.up (below_up hSB hw')) (by omega) (by omega)) fun vP wP hwP hRP => ?_
 try simp only [Act.put, pu1, pu2, pu3]
 obtain ⟨a1, c1, rfl⟩ := hRP.shape
 refine wpAnyU_callE (i := 10) (d := (some 15)) rfl rfl (by kernel_rfl) (by rfl) hSu.out (fun w' => by go_simp) (fun w' hw' => callE_of (made_any (!(p == q)) a1 (nl (X * Y)) c1 w')) fun vM wM hwM hRM => ?_
 try simp only [Act.put, pu1, pu2, pu3]
 subst hRM
 refine wpAnyU_one (i := 11) rfl (by kernel_rfl) (by rfl) fun w2 hw2 => ?_
 have gK := ((hS1.up hwP).up hwM).up hw2
 refine wp_stB rfl rfl rfl rfl gK rfl rfl (one2 _ _ _ _) ?_
 refine ⟨fun h => by simp at h, ?_⟩
 try simp only [Act.put, pu1, pu2, pu3]
 refine wpAnyU_done (by kernel_rfl) (fun wF huE => ?_) _
 have gR := (gK.setRow #[.bool ((!(p == q)) && decide (0 < nl (X * Y))), .slice a1 (nl (X * Y)) c1]).up huE
 have gA := (((hRP.up hwM).up hw2).setRow (D := #[.bool ((!(p == q)) && decide (0 < nl (X * Y))), .slice a1 (nl (X * Y)) c1]) gK).up huE
 have gB := below_up (below_setRow (below_up (below_up (below_up hSB hwP) hwM) hw2) (show w.heap.size <= w.heap.size + 1 + 1 by omega) #[.bool ((!(p == q)) && decide (0 < nl (X * Y))), .slice a1 (nl (X * Y)) c1]) huE
 have gBig := big_made (!(p == q)) gA
 clear gK hRP hwP hwM hw2 huE hS1 hS2 hS3 hS4 hS5 hSB hSS gA
 go_wp2
 exact bodyPost_ret (resB rfl rfl gR rfl) rfl ⟨gB, _, rfl, gBig⟩
theorem mul_big {x y : Int} {va vb : Value} {w : World} (ha : Big w va x) (hb : Big w vb y) (hx : nl x.natAbs < 50000) (hy : nl y.natAbs < 50000) :
   Calls Tryz.prog 31 #[va, vb] w fun e w' => Up w w' /\ ∃ v, e = .returned v /\ Big w' v (x * y) := by
 obtain ⟨a, ca, rfl, hA⟩ := ha
 obtain ⟨b, cb, rfl, hB⟩ := hb
 have h := mul_pm (decide (x < 0)) (decide (y < 0)) x.natAbs y.natAbs a b ca cb w hA hB hx hy
 rw [<- pm_int, <- pm_int] at h
 exact h
theorem row_one {w : World} {b X : Nat} (h : b = w.heap.size) : Row (w.alloc (.cells #[.int .u64 (X : Nat)] 60)) b 60 1 (fun _ => X) :=
 row_new _ 1 _ _ h (by unfold cells; rfl)
theorem am_one {w : World} {b X : Nat} (hX : X < 18446744073709551616) (h0 : 0 < X) (hR : Row w b 60 1 (fun _ => X)) : Am w (.slice (some ⟨b, 0, none⟩) 1 1) X /\ nl X = 1 := by
 have h := am_row (n := 1) (c := 1) hR (Nat.le_refl _) (Nat.le_refl _) (fun _ _ => hX)
 have e1 : sumL (fun _ => X) 1 = X := by rw [sumL_succ, sumL_zero, bp_zero]; omega
 have e2 : lenL (fun _ => X) 1 = 1 := by rw [lenL_succ, if_neg (by omega)]
 have e3 := nl_sum (S := fun _ => X) (n := 1) (fun _ _ => hX)
 rw [e1, e2] at h e3
 exact ⟨h, e3⟩
theorem of_big (v : Int) (h1 : -9223372036854775808 <= v) (h2 : v < 9223372036854775808) (w : World) :
   Calls Tryz.prog 28 #[.int .i64 v] w fun e w' => Up w w' /\ ∃ u, e = .returned u /\ Big w' u v := by
 obtain ⟨X, hX⟩ : ∃ X, X = v.natAbs := ⟨_, rfl⟩
 by_cases h0 : v < 0
 ·have d0 : decide (v < 0) = true := decide_eq_true h0
  have e1 : IntKind.i64.wrap (v + 1) = v + 1 := IntWalk.i64_in _ (by omega)
  have e2 : IntKind.i64.wrap (-(v + 1)) = -(v + 1) := IntWalk.i64_in _ (by omega)
  obtain ⟨Y, hY⟩ : ∃ Y : Nat, (Y : Int) = -(v + 1) := ⟨(-(v + 1)).toNat, by omega⟩
  have e3 : IntKind.u64.wrap (-(v + 1)) = (Y : Nat) := by rw [IntKind.wrap_u64]; omega
  have e4 : IntKind.u64.wrap ((Y : Int) + 1) = (X : Nat) := by rw [IntKind.wrap_u64]; omega
  have HM := hid (fun a n c w => made_any true a n c w)
  have HX := hid hX
  have HX64 := hid (show X < 18446744073709551616 /\ 0 < X by omega)
  clear hX hY
  go_enter Tryz.func28, Tryz.ntmps28
  go_wp2_with (first | ((with_reducible apply stB_P); exact rfl; exact rfl; exact gBlk; exact rfl; exact rfl; exact one2 _ _ _ _) | (go_at_call 45; (with_reducible refine (HM.out _ _ _ _).mono ?_); rintro e wM ⟨rfl, hu⟩))
  have hR : Row ((w.alloc (Obj.cells #[Value.bool false, Value.slice none 0 0] 69)).alloc (Obj.cells #[Value.int IntKind.u64 (X : Nat)] 60)) (w.heap.size + 1) 60 1 (fun _ => X) := row_one (by simp)
  have hA := am_one HX64.out.1 HX64.out.2 (hR.up hu)
  have hB := big_made true (hA.2.symm ▸ hA.1)
  have hv : pm true X = v := by have := HX.out; simp only [pm, if_true]; omega
  rw [hv, hA.2, show (true && decide (0 < 1)) = true from rfl] at hB
  have hK : Blk wM w.heap.size 69 #[.bool false, .slice none 0 0] := gBlk
  exact bodyPost_ret (resB rfl rfl (hK.setRow _) rfl) rfl ⟨gUp, _, rfl, hB.setRow hK⟩
 ·have d0 : decide (v < 0) = false := decide_eq_false h0
  have e3 : IntKind.u64.wrap v = (X : Nat) := by rw [IntKind.wrap_u64]; omega
  have HM := hid (fun a n c w => made_any false a n c w)
  have HX := hid hX
  have HX64 := hid (show X < 18446744073709551616 by omega)
  clear hX
  have eS : sumL (fun _ => X) 1 = X := by rw [sumL_succ, sumL_zero, bp_zero]; omega
  have eL : lenL (fun _ => X) 1 = nl X := by
   have e3 := nl_sum (S := fun _ => X) (n := 1) (fun _ _ => HX64.out)
   rw [eS] at e3
   exact e3.symm
  have hR : Row ((w.alloc (Obj.cells #[Value.bool false, Value.slice none 0 0] 69)).alloc (Obj.cells #[Value.int IntKind.u64 (X : Nat)] 60)) (w.heap.size + 1) 60 1 (fun _ => X) := row_one (by simp)
  have hT := trim_row (w.heap.size + 1) 1 1 1 (fun _ => X) _ hR (Nat.le_refl _) (Nat.le_refl _) (by decide)
  have hA := am_row (c := 1) hR (Nat.le_refl _) (Nat.le_refl _) (fun _ _ => HX64.out)
  rw [eL] at hT hA
  rw [eS] at hA
  have HT := hid hT
  have HA := hid hA
  clear hT hA hR eL eS
  go_enter Tryz.func28, Tryz.ntmps28
  go_wp2_with (first | ((with_reducible apply stB_P); exact rfl; exact rfl; exact gBlk; exact rfl; exact rfl; exact one2 _ _ _ _) | (go_at_call 45; (with_reducible refine (HM.out _ _ _ _).mono ?_); rintro e wM ⟨rfl, hu⟩) | (go_at_call 46; (with_reducible refine HT.out.mono ?_); rintro e wT ⟨rfl, hv⟩))
  have hB := big_made false ((HA.out.up hv).up hu)
  have hv' : pm false X = v := by have := HX.out; simp only [pm, Bool.false_eq_true, if_false]; omega
  rw [hv', Bool.false_and] at hB
  have hK : Blk wM w.heap.size 69 #[.bool false, .slice none 0 0] := gBlk
  exact bodyPost_ret (resB rfl rfl (hK.setRow _) rfl) rfl ⟨gUp, _, rfl, hB.setRow hK⟩
theorem sgn_cmp {x y : Int} : sgn (x - y) = cmpZ x y := by
 unfold sgn cmpZ
 split <;> split <;> (try split) <;> (try split) <;> first | rfl | omega
theorem cmp_big {x y : Int} {va vb : Value} {w : World} (ha : Big w va x) (hb : Big w vb y) (hx : nl x.natAbs < 50000) (hy : nl y.natAbs < 50000) :
   Calls Tryz.prog 43 #[va, vb] w fun e w' => e = .returned (.int .i64 (cmpZ x y)) /\ Up w w' := by
 obtain ⟨p, a, n, ca, rfl⟩ := ha.shape
 obtain ⟨q, b, m, cb, rfl⟩ := hb.shape
 have hA := hid ha
 have hB := hid hb
 clear ha hb
 go_enter Tryz.func43, Tryz.ntmps43
 go_wp2_with (first | ((with_reducible apply ldB_P); exact rfl; exact rfl; exact gBlk; exact rfl) | (go_at_call 72; (with_reducible refine (sub_big (hA.out.up gUp) (hB.out.up gUp) hx hy).mono ?_); rintro e wS ⟨huS, v, rfl, hv⟩; obtain ⟨a1, c1, rfl, -⟩ := hv) | (go_at_call 71; (with_reducible refine (bsign_any _ _ _ _ _).mono ?_); rintro e wT ⟨rfl, huT⟩))
 go_ret
 exact ⟨ret_int (by rw [sgn_big, sgn_cmp]), gUp⟩
theorem nl_one {X : Nat} (h : nl X = 1) : X < 18446744073709551616 /\ 0 < X /\ limb X 0 = X := by
 have h1 := lt_bp_nl X
 rw [h, bp_succ, bp_zero] at h1
 have h2 := nl_pos_iff.1 (show 0 < nl X by omega)
 refine ⟨by omega, h2, ?_⟩
 rw [limb0, Nat.mod_eq_of_lt (by omega)]
theorem nl_two {X : Nat} (h : 1 < nl X) : 18446744073709551616 <= X := by
 have h1 := bp_le_nl (show 0 < nl X by omega)
 have h2 := bp_mono (show 1 <= nl X - 1 by omega)
 rw [bp_succ, bp_zero] at h2
 omega
set_option maxHeartbeats 1000000 in
theorem int64_big {z : Int} {v : Value} {w : World} (h : Big w v z) (hz : nl z.natAbs < 50000) :
   Calls Tryz.prog 51 #[v] w fun e w' => e = .returned (i64V z) /\ Up w w' := by
 obtain ⟨a, c, rfl, hA⟩ := h
 obtain ⟨a', c', he, hc, hcell⟩ := hA.open
 obtain ⟨rfl, -, rfl⟩ : a = a' /\ True /\ c = c' := by simpa using he
 clear he hA
 have hpm := pm_int z
 obtain ⟨p, hp⟩ : ∃ p, decide (z < 0) = p := ⟨_, rfl⟩
 obtain ⟨X, hX⟩ : ∃ X, z.natAbs = X := ⟨_, rfl⟩
 rw [hp, hX] at hpm
 rw [hp, hX]
 rw [hX] at hc hcell hz
 rw [hpm]
 clear hpm hp hX
 rcases Nat.lt_trichotomy (nl X) 1 with hn | hn | hn
 ·have h0 : nl X = 0 := by omega
  have hX0 : X = 0 := by
   rcases Nat.eq_zero_or_pos X with h | h
   ·exact h
   ·have := nl_pos h; omega
  have e : i64V (pm p X) = .tuple #[.int .i64 0, .bool true] := by
   subst hX0
   rw [i64V_yes (by cases p <;> simp [pm])]
   cases p <;> simp [pm]
  rw [e, h0]
  clear hcell e
  go_enter Tryz.func51, Tryz.ntmps51
  go_wp2
  go_ret2
  exact ⟨rfl, gUp⟩
 ·obtain ⟨h64, hpos, hl⟩ := nl_one hn
  obtain ⟨b, rfl, hb, hcb⟩ := hcell 0 (by omega)
  rw [hl] at hcb
  rw [hn] at hc ⊢
  clear hcell
  have hcW : ((w.alloc (Obj.cells #[Value.bool p, Value.slice (some { block := b, off := 0 }) 1 c] 69))).cell? ⟨b, 0, none⟩ = some (.int .u64 (X : Nat)) := hcb _ gUp
  clear hcb hl hn
  by_cases h1 : 9223372036854775808 < X
  ·have e : i64V (pm p X) = .tuple #[.int .i64 0, .bool false] := i64V_no (by cases p <;> simp only [pm, Bool.false_eq_true, if_false, if_true] <;> omega)
   rw [e]
   have d1 : decide ((9223372036854775808 : Int) < X) = true := decide_eq_true (by omega)
   clear e
   go_enter Tryz.func51, Tryz.ntmps51
   go_wp2
   go_ret2
   exact ⟨rfl, gUp⟩
  ·have d1 : decide ((9223372036854775808 : Int) < X) = false := decide_eq_false (by omega)
   cases p with
   | true =>
     have e : i64V (pm true X) = .tuple #[.int .i64 (-(X : Int)), .bool true] := i64V_yes (by simp only [pm, if_true]; omega)
     rw [e]
     obtain ⟨Y, hY⟩ : ∃ Y : Nat, Y = X - 1 := ⟨_, rfl⟩
     obtain ⟨Z, hZ⟩ : ∃ Z : Int, Z = -(X : Int) := ⟨_, rfl⟩
     have e1 : IntKind.u64.wrap ((X : Int) - 1) = (Y : Nat) := by rw [IntKind.wrap_u64]; omega
     have e2 : IntKind.i64.wrap (Y : Int) = (Y : Nat) := IntWalk.i64_in _ (by omega)
     have e3 : IntKind.i64.wrap (-(Y : Int)) = -(Y : Int) := IntWalk.i64_in _ (by omega)
     have e4 : IntKind.i64.wrap (-(Y : Int) - 1) = Z := by rw [IntKind.wrap_i64]; omega
     rw [<- hZ]
     have hY1 : Y < 9223372036854775808 := by omega
     clear e hY hZ
     go_enter Tryz.func51, Tryz.ntmps51
     go_wp2
     go_ret2
     exact ⟨rfl, gUp⟩
   | false =>
     by_cases h2 : X = 9223372036854775808
     ·subst h2
      have e : i64V (pm false 9223372036854775808) = .tuple #[.int .i64 0, .bool false] := i64V_no (by simp [pm])
      rw [e]
      clear e
      go_enter Tryz.func51, Tryz.ntmps51
      go_wp2
      go_ret2
      exact ⟨rfl, gUp⟩
     ·have e : i64V (pm false X) = .tuple #[.int .i64 (X : Nat), .bool true] := i64V_yes (by simp only [pm, Bool.false_eq_true, if_false]; omega)
      rw [e]
      have d2 : ((X : Int) == 9223372036854775808) = false := by simp; omega
      have e2 : IntKind.i64.wrap (X : Int) = (X : Nat) := IntWalk.i64_in _ (by omega)
      clear e
      go_enter Tryz.func51, Tryz.ntmps51
      go_wp2
      go_ret2
      exact ⟨rfl, gUp⟩
 ·have h2 := nl_two hn
  have e : i64V (pm p X) = .tuple #[.int .i64 0, .bool false] := i64V_no (by cases p <;> simp only [pm, Bool.false_eq_true, if_false, if_true] <;> omega)
  rw [e]
  clear hcell e
  generalize nl X = n at *
  have d1 : decide ((1 : Int) < (n : Nat)) = true := decide_eq_true (by omega)
  have d0 : ((n : Int) == 0) = false := by simp; omega
  go_enter Tryz.func51, Tryz.ntmps51
  go_wp2
  go_ret2
  exact ⟨rfl, gUp⟩
theorem over_step {x Q y r b L X q r' : Nat} (h : x = Q * y + r * (b * 18446744073709551616) + (L + X * b)) (hq : y * q + r' = 18446744073709551616 * r + X) : x = (Q + q * b) * y + r' * b + L := by
 have h2 : (y * q + r') * b = (18446744073709551616 * r + X) * b := by rw [hq]
 have h3 : (Q + q * b) * y + r' * b = Q * y + (y * q + r') * b := by grind
 have h4 : (18446744073709551616 * r + X) * b = r * (b * 18446744073709551616) + X * b := by grind
 rw [h, h3, h2, h4]
 omega
set_option maxHeartbeats 2000000 in
theorem over_am {x y : Nat} {va vb : Value} {w : World} (ha : Am w va x) (hb : Am w vb y) (hx : nl x < 100000) (hy : nl y = 1) :
   Calls Tryz.prog 87 #[va, vb] w fun e w' => Up w w' /\ ∃ a n c b m d, e = .returned (.tuple #[.slice a n c, .slice b m d]) /\ Am w' (.slice a n c) (x / y) /\ Am w' (.slice b m d) (x % y) := by
 obtain ⟨a, ca, rfl, hca1, hca0⟩ := ha.open
 obtain ⟨b, cb, rfl, hcb1, hcb0⟩ := hb.open
 obtain ⟨hy64, hy0, hyl⟩ := nl_one hy
 have HC := hid (fun w' (h : Up w w') => cmp_am (ha.up h) (hb.up h) (by omega) (by omega))
 by_cases hlt : x < y
 ·have hA := hid ha
  have e1 : x / y = 0 := Nat.div_eq_of_lt hlt
  have e2 : x % y = x := Nat.mod_eq_of_lt hlt
  have d1 : decide (ordZ x y < 0) = true := by unfold ordZ; rw [if_pos hlt]; rfl
  rw [e1, e2]
  rw [hy] at HC hcb1 ⊢
  clear ha hb e1 e2 hca0 hcb0 hy
  go_enter Tryz.func87, Tryz.ntmps87
  go_wp2_with (first | (go_at_call 47; (with_reducible refine (HC.out _ gUp).mono ?_); rintro e wC ⟨rfl, huC⟩))
  go_ret2
  exact ⟨gUp, _, _, _, _, _, _, rfl, am_nil _, hA.out.up huC⟩
 ·have d1 : decide (ordZ x y < 0) = false := by
   unfold ordZ
   rw [if_neg hlt]
   split <;> simp
  obtain ⟨bb, rfl, hbb, hcb⟩ := hcb0 0 (by omega)
  rw [hyl] at hcb
  rw [hy] at HC hcb1 ⊢
  have hsx := sum_nl x
  have hn0 : 0 < nl x := nl_pos (by omega)
  have HSX := hid hsx
  have HXA := hid (nl_le (x := x) (k := nl x) (lt_bp_nl x))
  clear ha hb hsx hcb0 HXA hy
  generalize nl x = n at *
  go_enter Tryz.func87, Tryz.ntmps87
  go_wp2_with (first | (go_at_call 47; (with_reducible refine (HC.out _ gUp).mono ?_); rintro e wC ⟨rfl, huC⟩) | ((with_reducible apply mkP (n := n)); exact rfl; (first | rfl | omega); omega))
  have hsC := huC.size
  go_loopw [8, 9] (fun tr ti wr => ∃ (m r : Nat) (S : Nat -> Nat), m <= n /\ ti = .int .i64 ((m : Int) - 1) /\ tr = .int .u64 (r : Nat) /\ r < y /\ (∀ j, j < n -> S j < 18446744073709551616) /\ (∀ j, j < m -> S j = 0) /\ x = sumL S n * y + r * bp m + sumL (limb x) m /\
     Row wr wC.heap.size 60 n S /\ Below w.heap.size w wr)
   (fun _ ti _ => (intOf ti + 1).toNat)
  case atStart => exact ⟨n, 0, fun _ => 0, Nat.le_refl _, rfl, rfl, hy0, fun _ _ => by simp, fun _ _ => rfl, by rw [sumL_zeros, HSX.out]; omega, gRow, gUp⟩
  case round =>
   obtain ⟨m, r, S, hm, rfl, rfl, hr, hSb, hz, hsum, hS, hB⟩ := hrel
   have HSb := hid hSb
   have Hz := hid hz
   have Hsum := hid hsum
   clear hSb hz hsum
   by_cases hlt : 0 < m
   ·obtain ⟨k, rfl⟩ : ∃ k, m = k + 1 := ⟨m - 1, by omega⟩
    have e : (((k + 1 : Nat) : Int) - 1) = (k : Int) := by omega
    rw [e]
    clear e
    obtain ⟨ba, rfl, hba, hca⟩ := hca0 k (by omega)
    have hcx := hca _ hB
    have hcy := hcb _ hB
    have hlx := limb_lt x k
    have hkn : k < n := by omega
    obtain ⟨q, eq⟩ : ∃ q, q = (18446744073709551616 * r + limb x k) / y := ⟨_, rfl⟩
    obtain ⟨r', er⟩ : ∃ r', r' = (18446744073709551616 * r + limb x k) % y := ⟨_, rfl⟩
    have hD := div64_any r (limb x k) y hy64 hlx hr
    rw [<- eq, <- er] at hD
    have HD := hid hD
    have hq : q < 18446744073709551616 := by rw [eq]; exact short_q hr hlx
    have hr' : r' < y := by rw [er]; exact Nat.mod_lt _ hy0
    have HQR : Hid (y * q + r' = 18446744073709551616 * r + limb x k) := hid (by rw [eq, er]; exact Nat.div_add_mod _ _)
    clear eq er hD
    go_wp2
    refine opU (S := (fun wq => Row wq wC.heap.size 60 n S /\ wq.cell? ⟨ba, k, none⟩ = some (.int .u64 (limb x k : Nat)) /\ wq.cell? ⟨bb, 0, none⟩ = some (.int .u64 (y : Nat)) /\ Below w.heap.size w wq)) (req := (fun j => j != 15)) (fun _ _ h hu => ⟨(h.1).up hu, hu.cell (h.2.1), hu.cell (h.2.2.1), below_up (h.2.2.2) hu⟩) ⟨gRow, (by first | assumption | (apply Blk.cell; exact gBlk; exact rfl)), (by first | assumption | (apply Blk.cell; exact gBlk; exact rfl)), gUp⟩ (fun wS hSS hSu => ?_)
    have ⟨hS1, hS2, hS3, hSB⟩ := hSS
    clear hcx hcy hS hB
    refine tkP 0 (some 44) hSu ?_
    refine tkP 1 (some 45) hSu ?_
    refine tkP 2 (some 46) hSu ?_
    refine tkP 3 (some 47) hSu ?_
    refine tkP 4 (some 48) hSu ?_
    refine tkP 5 (some 49) hSu ?_
    refine tkT 6 (some 50) rfl hSu hSS ?_ (hy := fun w' hSw => by ((try dsimp only at hSw); (try obtain ⟨_, _, _, _⟩ := hSw); go_simp; (try exact rfl)))
    refine tkP 7 (some 51) hSu ?_
    refine tkP 8 (some 52) hSu ?_
    refine tkT 9 (some 53) rfl hSu hSS ?_ (hy := fun w' hSw => by ((try dsimp only at hSw); (try obtain ⟨_, _, _, _⟩ := hSw); go_simp; (try exact rfl)))
    refine tkC 10 (some 54) rfl hSu hSS ?_ (hy := fun w' hSw => (HD.out _))
    refine tkP 11 (some 43) hSu ?_
    refine tkP 12 (some 55) hSu ?_
    refine tkP 13 (some 56) hSu ?_
    refine tkP 14 (some 57) hSu ?_
    refine wpAnyU_one (i := 15) rfl (by kernel_rfl) (by rfl) fun w1 hw1 => ?_
    have hcW := (hS1.up hw1).cell k (by omega)
    have hfW := (hS1.up hw1).frozen k
    go_simp
    clear hcW hfW
    refine tkP 16 (some 8) hSu ?_
    refine wpAnyU_done (by kernel_rfl) (fun wF huE => ?_) _
    have gS := ((hS1.up hw1).set k q).up huE
    have gB := below_up ((below_up hSB hw1).setCell (p := ⟨wC.heap.size, k, none⟩) (show w.heap.size <= wC.heap.size by omega) (.int .u64 (q : Nat))) huE
    clear hS1 hS2 hS3 hSB hSS hw1 huE
    go_wp2
    go_roundw
    case rel =>
     refine ⟨k, r', upd S k q, by omega, by go_num, rfl, hr', upd_lt HSb.out hq, fun j hj => by rw [upd_other _ _ _ (by omega)]; exact Hz.out j (by omega), ?_, gS, gB⟩
     have h1 := sumL_upd S q (show k < n by omega)
     rw [Hz.out k (by omega), Nat.zero_mul, Nat.add_zero] at h1
     have h2 := Hsum.out
     rw [bp_succ, sumL_succ (limb x) k] at h2
     rw [h1]
     exact over_step h2 HQR.out
    case measure => simp [intOf] <;> omega
   ·obtain rfl : m = 0 := by omega
    have hfin := Hsum.out
    rw [bp_zero, sumL_zero, Nat.mul_one, Nat.add_zero] at hfin
    have e1 : x / y = sumL S n := by rw [hfin, Nat.mul_comm, Nat.mul_add_div hy0, Nat.div_eq_of_lt hr, Nat.add_zero]
    have e2 : x % y = r := by rw [hfin, Nat.mul_comm, Nat.mul_add_mod, Nat.mod_eq_of_lt hr]
    have ht := fun w' (h : Row w' wC.heap.size 60 n S) => trim_row wC.heap.size n n n S w' h (Nat.le_refl _) (Nat.le_refl _) (by omega)
    have hres := am_row (c := n) hS (Nat.le_refl _) (Nat.le_refl _) HSb.out
    rw [<- e1] at hres
    have hr64 : ∀ i, i < 1 -> (fun _ => r) i < 18446744073709551616 := fun _ _ => by show r < 18446744073709551616; omega
    have eR : sumL (fun _ => r) 1 = r := by rw [sumL_succ, sumL_zero, bp_zero]; omega
    have ht2 := fun w' b (h : Row w' b 60 1 (fun _ => r)) => trim_row b 1 1 1 (fun _ => r) w' h (Nat.le_refl _) (Nat.le_refl _) (by decide)
    have hres2 : ∀ w' b, Row w' b 60 1 (fun _ => r) -> Am w' (.slice (some ⟨b, 0, none⟩) (lenL (fun _ => r) 1) 1) (x % y) := fun w' b h => by
     have := am_row (c := 1) h (Nat.le_refl _) (Nat.le_refl _) hr64
     rw [eR] at this
     rw [e2]
     exact this
    have HT := hid ht
    have HT2 := hid ht2
    have HA := hid hres
    have HA2 := hid hres2
    clear ht hres hfin e1 e2 HSb Hsum Hz ht2 hres2 hr64 eR
    go_wp2_with (first | (go_at_call 46; (first | ((with_reducible refine (HT.out _ gRow).mono ?_); rintro e wT ⟨rfl, huT⟩) | ((with_reducible refine (HT2.out _ _ (row_one (by simp))).mono ?_); rintro e wV ⟨rfl, huV⟩))))
    go_ret2
    exact ⟨below_up (bl_alloc (below_up hB huT).size (below_up hB huT)) huV, _, _, _, _, _, _, rfl, ((HA.out.up huT).up (Up.alloc _ _)).up huV, (HA2.out _ _ (row_one rfl)).up huV⟩
theorem resBB {fn : Func} {p q : Tmp} (h : fn.results = #[.cell p 69, .cell q 69]) {tmps : Array Value} {w : World} {g k : Nat} {C D : Array Value} (hp : tmps.getD p undef = .pointer (some ⟨g, 0, none⟩)) (hq : tmps.getD q undef = .pointer (some ⟨k, 0, none⟩))
   (hC : Blk w g 69 C) (hD : Blk w k 69 D) (h2 : C.size = 2) (h3 : D.size = 2) : (results fn tmps).run Tryz.prog w = .ok (.tuple #[.agg C, .agg D]) w := by
 obtain ⟨fs, hu⟩ := undB
 have hp' : tmps[p]?.getD undef = .pointer (some ⟨g, 0, none⟩) := by simpa using hp
 have hq' : tmps[q]?.getD undef = .pointer (some ⟨k, 0, none⟩) := by simpa using hq
 simp [results, h, hp', hq', asAddr, run_loadVar_row w g _ 69 C (0, 0) _ hC hu rfl (by rw [infoB, h2]), run_loadVar_row w k _ 69 D (0, 0) _ hD hu rfl (by rw [infoB, h3])]
theorem pm_quo (p q : Bool) (X Y : Nat) : (pm p X).tdiv (pm q Y) = pm (p != q) (X / Y) := by
 cases p <;> cases q <;> simp [pm, Int.neg_tdiv, Int.tdiv_neg]
theorem pm_rest (p q : Bool) (X Y : Nat) : (pm p X).tmod (pm q Y) = pm p (X % Y) := by
 cases p <;> cases q <;> simp [pm, Int.neg_tmod, Int.tmod_neg] <;> exact Int.tmod_eq_emod_of_nonneg (by omega)
set_option maxHeartbeats 1000000 in
theorem div_pm (p q : Bool) (X Y : Nat) (a b : Option Addr) (ca cb : Nat) (w : World) (hA : Am w (.slice a (nl X) ca) X) (hB : Am w (.slice b (nl Y) cb) Y) (hx : nl X < 50000) (hy : nl Y = 1) :
   Calls Tryz.prog 76 #[.agg #[.bool p, .slice a (nl X) ca], .agg #[.bool q, .slice b (nl Y) cb]] w fun e w' => Up w w' /\ ∃ b1 a1 n1 c1 b2 a2 n2 c2, e = .returned (.tuple #[.agg #[.bool b1, .slice a1 n1 c1], .agg #[.bool b2, .slice a2 n2 c2]]) /\ Big w' (.agg #[.bool b1, .slice a1 n1 c1]) ((pm p X).tdiv (pm q Y)) /\ Big w' (.agg #[.bool b2, .slice a2 n2 c2]) ((pm p X).tmod (pm q Y)) := by
 rw [pm_quo, pm_rest]
 have HO := hid (fun w' (h : Up w w') => over_am (hA.up h) (hB.up h) (by omega) hy)
 rw [hy] at HO ⊢
 clear hy hA hB
 generalize nl X = n at *
 go_enter Tryz.func76, Tryz.ntmps76
 go_wp2_with (first | (go_at_call 87; (with_reducible refine (HO.out _ gUp).mono ?_); rintro e wO ⟨huO, a1, n1, c1, a2, n2, c2, rfl, hQ, hR⟩))
 obtain ⟨a1', c1', he1⟩ := hQ.shape
 obtain ⟨rfl, rfl, rfl⟩ : a1 = a1' /\ n1 = nl (X / Y) /\ c1 = c1' := by simpa using he1
 obtain ⟨a2', c2', he2⟩ := hR.shape
 obtain ⟨rfl, rfl, rfl⟩ : a2 = a2' /\ n2 = nl (X % Y) /\ c2 = c2' := by simpa using he2
 clear he1 he2
 refine opU (S := (fun wq => Blk wq (w.heap.size + 1 + 1) 69 #[.bool false, .slice none 0 0] /\ Blk wq (w.heap.size + 1 + 1 + 1) 69 #[.bool false, .slice none 0 0] /\ wq.cell? ⟨w.heap.size, 0, none⟩ = some (.bool p) /\ wq.cell? ⟨w.heap.size + 1, 0, none⟩ = some (.bool q) /\ Am wq (.slice a1 (nl (X / Y)) c1) (X / Y) /\ Am wq (.slice a2 (nl (X % Y)) c2) (X % Y) /\ Below w.heap.size w wq)) (req := (fun j => j != 11 && j != 12)) (fun _ _ h hu => ⟨(h.1).up hu, (h.2.1).up hu, hu.cell (h.2.2.1), hu.cell (h.2.2.2.1), (h.2.2.2.2.1).up hu, (h.2.2.2.2.2.1).up hu, below_up (h.2.2.2.2.2.2) hu⟩) ⟨gBlk, gBlk, (by first | assumption | (apply Blk.cell; exact gBlk; exact rfl)), (by first | assumption | (apply Blk.cell; exact gBlk; exact rfl)), (by (repeat (first | assumption | ((with_reducible apply am_set); exact gBlk) | (with_reducible apply am_alloc) | ((with_reducible apply am_up); assumption))); done), (by (repeat (first | assumption | ((with_reducible apply am_set); exact gBlk) | (with_reducible apply am_alloc) | ((with_reducible apply am_up); assumption))); done), gUp⟩ (fun wS hSS hSu => ?_)
 have ⟨hS1, hS2, hS3, hS4, hS5, hS6, hSB⟩ := hSS
 refine tkP 0 (some 16) hSu ?_
 refine tkT 1 (some 17) rfl hSu hSS ?_ (hy := fun w' hSw => by ((try dsimp only at hSw); (try obtain ⟨_, _, _, _, _, _, _⟩ := hSw); go_simp; (try exact rfl)))
 refine tkP 2 (some 18) hSu ?_
 refine tkT 3 (some 19) rfl hSu hSS ?_ (hy := fun w' hSw => by ((try dsimp only at hSw); (try obtain ⟨_, _, _, _, _, _, _⟩ := hSw); go_simp; (try exact rfl)))
 refine tkP 4 (some 20) hSu ?_
 refine tkP 5 (some 21) hSu ?_
 refine tkC 6 (some 22) rfl hSu hSS ?_ (hy := fun w' hSw => (made_any (!(p == q)) a1 (nl (X / Y)) c1 w'))
 refine tkP 7 (some 23) hSu ?_
 refine tkT 8 (some 24) rfl hSu hSS ?_ (hy := fun w' hSw => by ((try dsimp only at hSw); (try obtain ⟨_, _, _, _, _, _, _⟩ := hSw); go_simp; (try exact rfl)))
 refine tkP 9 (some 25) hSu ?_
 refine tkC 10 (some 26) rfl hSu hSS ?_ (hy := fun w' hSw => (made_any p a2 (nl (X % Y)) c2 w'))
 refine wpAnyU_one (i := 11) rfl (by kernel_rfl) (by rfl) fun w2 hw2 => ?_
 have k1 := hS1.up hw2
 refine wp_stB rfl rfl rfl rfl k1 rfl rfl (one2 _ _ _ _) ?_
 refine ⟨fun h => by simp at h, ?_⟩
 try simp only [Act.put, pu1]
 refine wpAnyU_one (i := 12) rfl (by kernel_rfl) (by rfl) fun w3 hw3 => ?_
 have k2 := ((hS2.up hw2).row_other (#[.bool (!(p == q) && decide (0 < nl (X / Y))), .slice a1 (nl (X / Y)) c1]) (show w.heap.size + 1 + 1 + 1 ≠ w.heap.size + 1 + 1 by omega)).up hw3
 refine wp_stB rfl rfl rfl rfl k2 rfl rfl (one2 _ _ _ _) ?_
 refine ⟨fun h => by simp at h, ?_⟩
 try simp only [Act.put, pu1]
 refine wpAnyU_done (by kernel_rfl) (fun wF huE => ?_) _
 have j1 := ((k1.setRow (#[.bool (!(p == q) && decide (0 < nl (X / Y))), .slice a1 (nl (X / Y)) c1])).up hw3).row_other (#[.bool (p && decide (0 < nl (X % Y))), .slice a2 (nl (X % Y)) c2]) (show w.heap.size + 1 + 1 ≠ w.heap.size + 1 + 1 + 1 by omega)
 have j2 := k2.setRow (#[.bool (p && decide (0 < nl (X % Y))), .slice a2 (nl (X % Y)) c2])
 have gQ := big_made (!(p == q)) (((((hS5.up hw2).setRow (D := (#[.bool (!(p == q) && decide (0 < nl (X / Y))), .slice a1 (nl (X / Y)) c1])) k1).up hw3).setRow (D := (#[.bool (p && decide (0 < nl (X % Y))), .slice a2 (nl (X % Y)) c2])) k2).up huE)
 have gR := big_made p (((((hS6.up hw2).setRow (D := (#[.bool (!(p == q) && decide (0 < nl (X / Y))), .slice a1 (nl (X / Y)) c1])) k1).up hw3).setRow (D := (#[.bool (p && decide (0 < nl (X % Y))), .slice a2 (nl (X % Y)) c2])) k2).up huE)
 have gB := below_up (below_setRow (below_up (below_setRow (below_up hSB hw2) (show w.heap.size <= w.heap.size + 1 + 1 by omega) (#[.bool (!(p == q) && decide (0 < nl (X / Y))), .slice a1 (nl (X / Y)) c1])) hw3) (show w.heap.size <= w.heap.size + 1 + 1 + 1 by omega) (#[.bool (p && decide (0 < nl (X % Y))), .slice a2 (nl (X % Y)) c2])) huE
 have j1' := j1.up huE
 have j2' := j2.up huE
 clear k1 k2 j1 j2 hS1 hS2 hS3 hS4 hS5 hS6 hSB hSS hw2 hw3 huE hQ hR
 go_wp2
 exact bodyPost_ret (resBB rfl rfl rfl j1' j2' rfl rfl) rfl ⟨gB, _, _, _, _, _, _, _, _, rfl, gQ, gR⟩
theorem big_set {w : World} {v : Value} {z : Int} {g : Nat} {C D : Array Value} (hg : Blk w g 69 C) (h : Big w v z) : Big (w.setRow g D) v z := h.setRow hg
theorem big_alloc {w : World} {v : Value} {z : Int} {o : Obj} (h : Big w v z) : Big (w.alloc o) v z := h.up (Up.alloc _ _)
theorem big_up {w w' : World} {v : Value} {z : Int} (hu : Up w w') (h : Big w v z) : Big w' v z := h.up hu
theorem big_amount {w : World} {b : Bool} {a : Option Addr} {n c : Nat} {z : Int} (h : Big w (.agg #[.bool b, .slice a n c]) z) : Big w (.agg #[.bool false, .slice a n c]) ((z.natAbs : Nat) : Int) := by
 obtain ⟨a', c', h1, h2⟩ := h
 obtain ⟨-, rfl, rfl, rfl⟩ : b = decide (z < 0) /\ a = a' /\ n = nl z.natAbs /\ c = c' := by simpa using h1
 exact ⟨_, _, by rw [decide_eq_false (by omega)]; rfl, h2⟩
theorem small_nl {x : Int} (h1 : -9223372036854775808 <= x) (h2 : x <= 9223372036854775808) : nl x.natAbs < 50000 := by
 have := nl_le (x := x.natAbs) (k := 1) (by rw [bp_succ, bp_zero]; omega)
 omega
theorem small_nl2 {x : Int} (h1 : -85070591730234615865843651857942052864 <= x) (h2 : x <= 85070591730234615865843651857942052864) : nl x.natAbs < 50000 := by
 have := nl_le (x := x.natAbs) (k := 2) (by rw [bp_succ, bp_succ, bp_zero]; omega)
 omega
end Go.Proofs.YtbmlkimgjkdaiaaGreatDoor
