import Derived.Test.YtbmlkimgjkdaiaaDoorPb
import Derived.Deep.MidRow
import Derived.Laws.AppendOwnNone
import Derived.Laws.AppendOwn
import Derived.Laws.OwnMore
import Derived.Deep.QuietTactic
import Derived.BigQuiet
import Derived.Deep.LoopGhost
import Derived.Laws.CopyOwn
import Derived.Laws.StructEq
import Derived.DataShut
import Derived.Test.YtbmlkimgjkdaiaaDoorRows
import Derived.Test.YtbmlkimgjkdaiaaDoorTie
import Derived.ChangeSame
import Derived.ChangeVars
import Derived.JoinedOf
import Derived.RowKit
import Derived.RowKitTokens
import Derived.LaidLaws
import Derived.LaidHandle
import Derived.Stop.Joined
import Derived.ChangeMaps5
import Derived.SevenTiedAt
namespace Go.Proofs.YtbmlkimgjkdaiaaDoor
open Go Go.RowKit
set_option maxRecDepth 100000
def Agg (t : TypeId) (n : Nat) : Prop := ((∃ fs, Tryd.prog.underlying t = some (.struct fs)) \/ ∃ m e, Tryd.prog.underlying t = some (.array m e)) /\ (Tryd.prog.info? t).map (·.size) = some n
theorem agg_of {t : TypeId} {n : Nat} (h : (match Tryd.prog.underlying t with | some (.struct _) => true | some (.array _ _) => true | _ => false) = true) (hi : (Tryd.prog.info? t).map (·.size) = some n) : Agg t n := by
 refine ⟨?_, hi⟩
 split at h
 ·exact .inl ⟨_, by assumption⟩
 ·exact .inr ⟨_, _, by assumption⟩
 ·cases h
theorem Agg.load {t t' : TypeId} {n : Nat} (hA : Agg t n) {w : World} {g : Nat} {C : Array Value} (hC : Blk w g t' C) (h2 : C.size = n) : (loadVar t ⟨g, 0, none⟩).run Tryd.prog w = .ok (.agg C) w := by
 obtain ⟨⟨fs, h3⟩ | ⟨m, e, h3⟩, h5⟩ := hA
 ·exact run_loadVar_row w g t' t C (0, 0) _ hC h3 rfl (by rw [h5, h2])
 ·exact run_loadVar_row w g t' t C (0, 0) _ hC h3 rfl (by rw [h5, h2])
theorem Agg.loadm {t : TypeId} {n : Nat} (hA : Agg t n) {w : World} {g off : Nat} {cs : List Value} (hC : w.rangeAt g off cs) (h2 : cs.length = n) : (loadVar t ⟨g, off, none⟩).run Tryd.prog w = .ok (.agg cs.toArray) w := by
 obtain ⟨⟨fs, h3⟩ | ⟨m, e, h3⟩, h5⟩ := hA
 ·exact run_loadVar_mid w g off t cs _ hC h3 rfl (by rw [h5, h2])
 ·exact run_loadVar_mid w g off t cs _ hC h3 rfl (by rw [h5, h2])
section
variable {ops : Array Oper} {rest : List Oper} {Q : Exit -> Act -> World -> Prop} {a : Act} {w : World} {d : Option Tmp} {s u : Tmp} {t t' ty : TypeId} {pos : String} {af : Array Edge} {gd : Option (Nat × Bool)} {g n off : Nat} {C D : Array Value} {cs : List Value}
theorem run_ldX {o : Oper} {ev : Operand -> Value} {x : Operand} (hA : Agg t n) (ho : o.op = .load t x) (hx : ev x = .pointer (some ⟨g, 0, none⟩)) (hC : Blk w g t' C) (h2 : C.size = n) : (execOp ev o).run Tryd.prog w = .ok (.value (.agg C)) w := by
 unfold execOp
 simp only [ho, hx, Instr.loadAt, Instr.sureAddr, Sem.run_bind, Sem.run_pure, Result.andThen_ok, hA.load hC h2]
theorem run_ldXm {o : Oper} {ev : Operand -> Value} {x : Operand} (hA : Agg t n) (ho : o.op = .load t x) (hx : ev x = .pointer (some ⟨g, off, none⟩)) (hC : w.rangeAt g off cs) (h2 : cs.length = n) : (execOp ev o).run Tryd.prog w = .ok (.value (.agg cs.toArray)) w := by
 unfold execOp
 simp only [ho, hx, Instr.loadAt, Instr.sureAddr, Sem.run_bind, Sem.run_pure, Result.andThen_ok, hA.loadm hC h2]
theorem ldX_P (hA : Agg t n) (hw : Region.wanted { dst := d, op := .load t (.tmp s), type := ty, pos := pos, after := af, guard := gd } (yielded ops a.tmps) = true) (hx : a.eval (.tmp s) = .pointer (some ⟨g, 0, none⟩)) (hC : Blk w g t' C) (h2 : C.size = n)
   (h : wpList Tryd.prog ops Q rest (a.put d (.agg C)) w) : wpList Tryd.prog ops Q ({ dst := d, op := .load t (.tmp s), type := ty, pos := pos, after := af, guard := gd } :: rest) a w :=
 wpList_run hw (run_ldX hA rfl hx hC h2) h
theorem ldXm_P (hA : Agg t n) (hw : Region.wanted { dst := d, op := .load t (.tmp s), type := ty, pos := pos, after := af, guard := gd } (yielded ops a.tmps) = true) (hx : a.eval (.tmp s) = .pointer (some ⟨g, off, none⟩)) (hC : w.rangeAt g off cs) (h2 : cs.length = n)
   (h : wpList Tryd.prog ops Q rest (a.put d (.agg cs.toArray)) w) : wpList Tryd.prog ops Q ({ dst := d, op := .load t (.tmp s), type := ty, pos := pos, after := af, guard := gd } :: rest) a w :=
 wpList_run hw (run_ldXm hA rfl hx hC h2) h
theorem stX_P (hA : Agg t n) (hx : a.eval (.tmp s) = .pointer (some ⟨g, 0, none⟩)) (hy : a.eval (.tmp u) = .agg D) (hC : Blk w g t' C) (h2 : C.size = n) (h3 : D.size = n) (h1 : D.all (·.oneCell') = true)
   (h : wpList Tryd.prog ops Q rest (a.put d undef) (w.setRow g D)) :
   wpList Tryd.prog ops Q ({ dst := d, op := .store t (.tmp s) (.tmp u), type := ty, pos := pos, after := af, guard := none } :: rest) a w := by
 obtain ⟨_, h5⟩ := hA
 exact wpList_plain rfl fun _ hK => wp_store_row _ _ _ rfl g D hx hy _ C hC (by rw [h5, h3]) (by rw [h2, h3]) h1 (hK _ _ h)
end
theorem resX {fn : Func} {p : Tmp} {t t' : TypeId} {n : Nat} (hA : Agg t n) (h : fn.results = #[.cell p t]) {tmps : Array Value} {w : World} {g : Nat} {C : Array Value} (hp : tmps.getD p undef = .pointer (some ⟨g, 0, none⟩)) (hC : Blk w g t' C) (h2 : C.size = n) :
   (results fn tmps).run Tryd.prog w = .ok (.agg C) w := by
 obtain ⟨⟨fs, h3⟩ | ⟨m, e, h3⟩, h5⟩ := hA
 ·exact results_cell_row h tmps w g t' C (0, 0) _ hp hC h3 rfl (by rw [h5, h2])
 ·exact results_cell_row h tmps w g t' C (0, 0) _ hp hC h3 rfl (by rw [h5, h2])
theorem resXT {fn : Func} {p u : Tmp} {t t' : TypeId} {n : Nat} (hA : Agg t n) (h : fn.results = #[.cell p t, .tmp u]) {tmps : Array Value} {w : World} {g : Nat} {C : Array Value} (hp : tmps.getD p undef = .pointer (some ⟨g, 0, none⟩)) (hC : Blk w g t' C) (h2 : C.size = n) :
   (results fn tmps).run Tryd.prog w = .ok (.tuple #[.agg C, tmps.getD u undef]) w := by
 rw [results_cell_tmp h, hp]
 simp only [asAddr, Sem.run_pure, Result.andThen_ok, hA.load hC h2]
theorem Blk.part {w : World} {g : Nat} {t : TypeId} {C : Array Value} (h : Blk w g t C) (off : Nat) (cs : List Value) (hc : ∀ j v, cs[j]? = some v -> C[off + j]? = some v) : w.rangeAt g off cs := fun j v hv => h.cell (off + j) (hc j v hv)
theorem Blk.part2 {w : World} {g : Nat} {t : TypeId} {C : Array Value} (h : Blk w g t C) (off : Nat) {x y : Value} (h0 : C[off]? = some x) (h1 : C[off + 1]? = some y) : w.rangeAt g off [x, y] := h.part off _ fun j v hv => by
 rcases j with _ | _ | j
 ·simp at hv; subst hv; exact h0
 ·simp at hv; subst hv; exact h1
 ·simp at hv
theorem aggII (k l : IntKind) (x y : Int) : (#[Value.int k x, Value.int l y]).all (·.oneCell') = true := by simp [Value.oneCell']
theorem aggIII (k l m : IntKind) (x y z : Int) : (#[Value.int k x, Value.int l y, Value.int m z]).all (·.oneCell') = true := by simp [Value.oneCell']
theorem ErrsG.setRow {B : ByteArray} {w : World} {u : Value} {e : Int} {g : Nat} {T : TypeId} {C D : Array Value} (h : ErrsG B w u e) (hg : Blk w g T C) (hT : T ≠ 64) : ErrsG B (w.setRow g D) u e := by
 rcases h with h | ⟨h1, t, x, h2, b, v, h4, h5, h6⟩
 ·exact .inl h
 ·refine .inr ⟨h1, t, x, h2, b, v, h4, h5.row_other D ?_, h6⟩
  rintro rfl
  have h7 := hg.symm.trans h5
  simp only [Option.some.injEq, Obj.cells.injEq] at h7
  exact hT h7.2.1
def aw (v : Int) : Bool := decide (4194304 < v.natAbs)
theorem within_any (v : Int) (h1 : -9223372036854775808 <= v) (h2 : v < 9223372036854775808) (w : World) :
   Calls Tryd.prog 20 #[.int .i64 v] w fun e w' => e = .returned (.bool (!aw v)) /\ Up w w' := by
 have hA := fun w => fx_amount v h1 h2 w
 obtain ⟨A, hAd⟩ : ∃ A, v.natAbs = A := ⟨_, rfl⟩
 have hV : aw v = decide (4194304 < A) := by unfold aw; rw [hAd]
 rw [hV]
 rw [hAd] at hA
 by_cases hb : A < 9223372036854775808
 ·rw [i64V_yes (by omega)] at hA
  have HA := hid hA
  obtain ⟨p, hp⟩ : ∃ p, decide (4194304 < A) = p := ⟨_, rfl⟩
  have hq : decide ((A : Int) <= 4194304) = !p := by rw [<- hp, <- decide_not, decide_eq_decide]; omega
  rw [hp]
  clear hA h1 h2 hAd hV hb hp
  go_enter Tryd.func20, Tryd.ntmps20
  go_wp2_with (first | (go_at_call 31; (with_reducible refine (HA.out _).mono ?_); rintro e w' ⟨rfl, hu⟩))
  go_ret
  exact ⟨rfl, gUp⟩
 ·rw [i64V_no (by omega)] at hA
  have HA := hid hA
  rw [show decide (4194304 < A) = true from decide_eq_true (by omega)]
  clear hA h1 h2 hAd hV hb
  go_enter Tryd.func20, Tryd.ntmps20
  go_wp2_with (first | (go_at_call 31; (with_reducible refine (HA.out _).mono ?_); rintro e w' ⟨rfl, hu⟩))
  go_ret
  exact ⟨rfl, gUp⟩
def away (x y : Int) : Bool := aw x || aw y
theorem reached_any (x y : Int) (hx : -9223372036854775808 <= x /\ x < 9223372036854775808) (hy : -9223372036854775808 <= y /\ y < 9223372036854775808) (w : World) :
   Calls Tryd.prog 12 #[.agg #[.int .i64 x, .int .i64 y]] w fun e w' => e = .returned (.bool (!away x y)) /\ Up w w' := by
 have HX := hid (fun w => within_any x hx.1 hx.2 w)
 have HY := hid (fun w => within_any y hy.1 hy.2 w)
 unfold away
 generalize aw x = p at *
 generalize aw y = q at *
 obtain ⟨W0, hW0⟩ : ∃ W0, w.alloc (.cells #[.int .i64 x, .int .i64 y] 24) = W0 := ⟨_, rfl⟩
 have hB : Blk W0 w.heap.size 24 #[.int .i64 x, .int .i64 y] := by rw [<- hW0]; exact Blk.new _ _ rfl
 have hU : Up w W0 := by rw [<- hW0]; exact Up.alloc _ _
 have hc0 := hB.cell 0 rfl
 clear hx hy
 cases p
 ·go_enter Tryd.func12, Tryd.ntmps12
  go_wp2_with (first
   | (go_at_call 20; first
      | ((with_reducible refine (HX.out _).mono ?_); rintro e w1 ⟨rfl, hu1⟩; have hc1 := (hB.up hu1).cell 1 rfl)
      | ((with_reducible refine (HY.out _).mono ?_); rintro e w2 ⟨rfl, hu2⟩)))
  go_ret
  exact ⟨rfl, (hU.trans hu1).trans hu2⟩
 ·go_enter Tryd.func12, Tryd.ntmps12
  go_wp2_with (first
   | go_skip
   | (go_at_call 20; (with_reducible refine (HX.out _).mono ?_); rintro e w1 ⟨rfl, hu1⟩))
  go_ret
  exact ⟨rfl, hU.trans hu1⟩
def lineB : ByteArray := ⟨#[108, 105, 110, 101]⟩
theorem lwrong_any (n : Int) (w : World) :
   Calls Tryd.prog 13 #[.int .i64 n] w fun r w' => ∃ t x, r = .returned (.iface t x) /\ Up w w' /\ IsEr w' (.iface t x) (.flt lineB (.num n)) := by
 have HW := hid (fun w => wrap_any (op := { data := #[108, 105, 110, 101] }) (v := .iface 39 (.int .i64 n)) (e := .num n) (w := w) rfl)
 go_enter Tryd.func13, Tryd.ntmps13
 go_wp2_with (first | (go_at_call 21; (with_reducible refine (HW.out _).mono ?_); rintro r w1 ⟨u1, rfl, hu1, h1⟩))
 go_ret
 obtain ⟨t, u, rfl⟩ := h1.iface
 exact ⟨_, _, rfl, hu1, h1⟩
theorem IsEr.errs {w : World} {t : TypeId} {x : Value} {n : Int} (h0 : n ≠ 0) (h : IsEr w (.iface t x) (.flt lineB (.num n))) : ErrsG lineB w (.iface t x) n := .inr ⟨h0, t, x, rfl, h⟩
theorem aggA : Agg 25 2 := agg_of (by kernel_rfl) (by kernel_rfl)
theorem aggP : Agg 24 2 := agg_of (by kernel_rfl) (by kernel_rfl)
theorem aggL : Agg 27 3 := agg_of (by kernel_rfl) (by kernel_rfl)
theorem undA : Tryd.prog.underlying 25 = some (.array 2 2) := by kernel_rfl
theorem ixA (w : World) (a b : Int) (k : Nat) (z : Int) (h : k = 0 /\ z = a \/ k = 1 /\ z = b) : (Instr.index 25 (.agg #[.int .i64 a, .int .i64 b]) (.int .i64 (k : Nat))).run Tryd.prog w = .ok (.int .i64 z) w := by
 rcases h with ⟨rfl, rfl⟩ | ⟨rfl, rfl⟩ <;>
 simp [Instr.index, run_underlying undA, asIntOf, part, go_sem]
theorem muldiv_ok (a b c : Int) (a1 : -9223372036854775808 <= a) (a2 : a < 9223372036854775808) (b1 : -9223372036854775808 <= b) (b2 : b < 9223372036854775808) (c1 : 0 < c) (c2 : c < 9223372036854775808) (p1 : -1000000000000000000 <= a * b) (p2 : a * b <= 1000000000000000000) (w : World) :
   Calls Tryd.prog 24 #[.int .i64 a, .int .i64 b, .int .i64 c] w fun e w' => e = .returned (.tuple #[.int .i64 (nv a b c), .bool true]) /\ Up w w' := by
 have hb := nv_bound c1 p1 p2
 have H := fx_muldiv a b c a1 a2 b1 b2 (by omega) c2 w
 rw [show nearV a b c = .tuple #[.int .i64 (nv a b c), .bool true] from by unfold nearV; rw [if_pos c1]; exact i64V_yes (by unfold nv at hb; omega)] at H
 exact H
set_option maxHeartbeats 1000000 in
theorem parts_any (x y r : Int) (hx : -8388608 <= x /\ x <= 8388608) (hy : -8388608 <= y /\ y <= 8388608) (r1 : 0 < r) (r2 : r < 9223372036854775808) (w : World) :
   Calls Tryd.prog 15 #[.agg #[.int .i64 x, .int .i64 y], .int .i64 r] w fun e w' => e = .returned (.agg #[.int .i64 (nv x 256 r), .int .i64 (nv y 256 r)]) /\ Up w w' := by
 have HX := hid (fun w => muldiv_ok x 256 r (by omega) (by omega) (by omega) (by omega) r1 r2 (by omega) (by omega) w)
 have HY := hid (fun w => muldiv_ok y 256 r (by omega) (by omega) (by omega) (by omega) r1 r2 (by omega) (by omega) w)
 generalize nv x 256 r = X at *
 generalize nv y 256 r = Y at *
 obtain ⟨W0, hW0⟩ : ∃ W0, (w.alloc (.cells #[.int .i64 x, .int .i64 y] 25)).alloc (.cells #[.int .i64 0, .int .i64 0] 25) = W0 := ⟨_, rfl⟩
 have hB : Blk W0 w.heap.size 25 #[.int .i64 x, .int .i64 y] := by rw [<- hW0]; exact (Blk.new _ _ rfl).up (Up.alloc _ _)
 have hZ : Blk W0 (w.heap.size + 1) 25 #[.int .i64 0, .int .i64 0] := by rw [<- hW0]; exact Blk.new _ _ (by simp)
 have hU : Up w W0 := by rw [<- hW0]; exact (Up.alloc _ _).trans (Up.alloc _ _)
 clear hx hy r1 r2
 go_enter Tryd.func15, Tryd.ntmps15
 go_wp2_with (first | ((with_reducible apply ldX_P aggA); exact rfl; exact rfl; exact hB; exact rfl))
 go_loopg [8] 2 (fun g t8 wr => ∃ (k : Nat) (a b : Int), k <= 2 /\ 2 - k <= g /\ t8 = .int .i64 (k : Nat) /\ Blk wr w.heap.size 25 #[.int .i64 a, .int .i64 b] /\ Blk wr (w.heap.size + 1) 25 #[.int .i64 0, .int .i64 0] /\ Up w wr /\ Hid (a = (if 0 < k then X else x) /\ b = (if 1 < k then Y else y)))
 case atStart => exact ⟨0, x, y, by decide, by decide, rfl, hB, hZ, hU, rfl, rfl⟩
 case round =>
  obtain ⟨k, a, b, hk, hkg, rfl, hBr, hZr, hUr, hab⟩ := hrel
  clear hB hZ hU hW0
  rcases k with _ | _ | _ | k
  ·obtain ⟨rfl, rfl⟩ : a = x /\ b = y := hab.out
   clear hab hk
   have hix := fun w => ixA w a b 0 a (.inl ⟨rfl, rfl⟩)
   rw [show ((0 : Nat) : Int) = 0 from rfl] at hix
   go_wp2_with (first | (go_at_call 24; (with_reducible refine (HX.out _).mono ?_); rintro e w1 ⟨rfl, hu1⟩; have hb1 := hBr.up hu1; have hc1 := hb1.cell 0 rfl; have hf1 := hb1.frozen 0))
   go_roundg 1
   case measure => omega
   case rel => exact ⟨1, X, b, by decide, by decide, rfl, hb1.set 0 _, (hZr.up hu1).other _ _ (by simp), (hUr.trans hu1).setCell (p := ⟨w.heap.size, 0, none⟩) (Nat.le_refl _) _, rfl, rfl⟩
  ·obtain ⟨rfl, rfl⟩ : a = X /\ b = y := hab.out
   clear hab hk
   have hix := fun w => ixA w x b 1 b (.inr ⟨rfl, rfl⟩)
   rw [show ((1 : Nat) : Int) = 1 from rfl] at hix
   go_wp2_with (first | (go_at_call 24; (with_reducible refine (HY.out _).mono ?_); rintro e w1 ⟨rfl, hu1⟩; have hb1 := hBr.up hu1; have hc1 := hb1.cell 1 rfl; have hf1 := hb1.frozen 1))
   go_roundg 0
   case measure => omega
   case rel => exact ⟨2, a, Y, by decide, by decide, rfl, hb1.set 1 _, (hZr.up hu1).other _ _ (by simp), (hUr.trans hu1).setCell (p := ⟨w.heap.size, 1, none⟩) (Nat.le_refl _) _, rfl, rfl⟩
  ·obtain ⟨rfl, rfl⟩ : a = X /\ b = Y := hab.out
   clear hab hk hkg
   go_wp2_with (first
    | ((with_reducible apply ldX_P aggA); exact rfl; exact rfl; exact hBr; exact rfl)
    | ((with_reducible apply stX_P aggA); exact rfl; exact rfl; exact hZr; exact rfl; exact rfl; exact aggII _ _ _ _))
   exact bodyPost_ret (resX aggA rfl rfl (hZr.setRow _) rfl) rfl ⟨rfl, below_setRow hUr (by omega) _⟩
  ·omega
def nn (v : Int) : Bool := decide (v = -9223372036854775808)
def tnV (a b : Int) (p : Bool) : Value := .tuple #[.agg (if p then #[.int .i64 0, .int .i64 0] else #[.int .i64 (-a), .int .i64 (-b)]), .bool (!p)]
theorem sub0_any (v : Int) (h1 : -9223372036854775808 <= v) (h2 : v < 9223372036854775808) (w : World) :
   Calls Tryd.prog 26 #[.int .i64 0, .int .i64 v] w fun e w' => e = .returned (.tuple #[.int .i64 (if nn v then 0 else -v), .bool (!nn v)]) /\ Up w w' := by
 have h := fx_sub 0 v (by omega) (by omega) h1 h2 w
 rw [Int.zero_sub] at h
 by_cases hv : v = -9223372036854775808
 ·rw [i64V_no (by omega)] at h
  rw [show nn v = true from decide_eq_true hv]
  exact h
 ·rw [i64V_yes (by omega)] at h
  rw [show nn v = false from decide_eq_false hv]
  exact h
set_option maxHeartbeats 1000000 in
theorem turned_any (a b : Int) (ha : -9223372036854775808 <= a /\ a < 9223372036854775808) (hb : -9223372036854775808 <= b /\ b < 9223372036854775808) (w : World) :
   Calls Tryd.prog 17 #[.agg #[.int .i64 a, .int .i64 b]] w fun e w' => e = .returned (tnV a b (nn a || nn b)) /\ Up w w' := by
 have HX := hid (fun w => sub0_any a ha.1 ha.2 w)
 have HY := hid (fun w => sub0_any b hb.1 hb.2 w)
 obtain ⟨p, hp⟩ : ∃ p, nn a = p := ⟨_, rfl⟩
 obtain ⟨q, hq⟩ : ∃ q, nn b = q := ⟨_, rfl⟩
 rw [hp] at HX ⊢
 rw [hq] at HY ⊢
 obtain ⟨W0, hW0⟩ : ∃ W0, (w.alloc (.cells #[.int .i64 a, .int .i64 b] 25)).alloc (.cells #[.int .i64 0, .int .i64 0] 25) = W0 := ⟨_, rfl⟩
 have hB : Blk W0 w.heap.size 25 #[.int .i64 a, .int .i64 b] := by rw [<- hW0]; exact (Blk.new _ _ rfl).up (Up.alloc _ _)
 have hZ : Blk W0 (w.heap.size + 1) 25 #[.int .i64 0, .int .i64 0] := by rw [<- hW0]; exact Blk.new _ _ (by simp)
 have hU : Up w W0 := by rw [<- hW0]; exact (Up.alloc _ _).trans (Up.alloc _ _)
 clear ha hb hp hq
 go_enter Tryd.func17, Tryd.ntmps17
 go_wp2_with (first | ((with_reducible apply ldX_P aggA); exact rfl; exact rfl; exact hB; exact rfl))
 go_loopg [9] 2 (fun g t9 wr => ∃ (k : Nat) (x y : Int), k <= 2 /\ 2 - k <= g /\ t9 = .int .i64 (k : Nat) /\ Blk wr w.heap.size 25 #[.int .i64 x, .int .i64 y] /\ Blk wr (w.heap.size + 1) 25 #[.int .i64 0, .int .i64 0] /\ Up w wr /\ Hid (x = (if 0 < k then -a else a) /\ y = (if 1 < k then -b else b) /\ (0 < k -> p = false) /\ (1 < k -> q = false)))
 case atStart => exact ⟨0, a, b, by decide, by decide, rfl, hB, hZ, hU, rfl, rfl, fun h => absurd h (by decide), fun h => absurd h (by decide)⟩
 case round =>
  obtain ⟨k, x, y, hk, hkg, rfl, hBr, hZr, hUr, hab⟩ := hrel
  clear hB hZ hU hW0
  rcases k with _ | _ | _ | k
  ·obtain ⟨rfl, rfl, _, _⟩ : x = a /\ y = b /\ _ /\ _ := hab.out
   clear hab hk
   have hix := fun w => ixA w x y 0 x (.inl ⟨rfl, rfl⟩)
   rw [show ((0 : Nat) : Int) = 0 from rfl] at hix
   cases p
   ·go_wp2_with (first | (go_at_call 26; (with_reducible refine (HX.out _).mono ?_); rintro e w1 ⟨rfl, hu1⟩; have hb1 := hBr.up hu1; have hc1 := hb1.cell 0 rfl; have hf1 := hb1.frozen 0))
    go_roundg 1
    case measure => omega
    case rel => exact ⟨1, -x, y, by decide, by decide, rfl, hb1.set 0 _, (hZr.up hu1).other _ _ (by simp), (hUr.trans hu1).setCell (p := ⟨w.heap.size, 0, none⟩) (Nat.le_refl _) _, rfl, rfl, fun _ => by trivial, fun h => absurd h (by decide)⟩
   ·go_wp2_with (first
     | (go_at_call 26; (with_reducible refine (HX.out _).mono ?_); rintro e w1 ⟨rfl, hu1⟩; have hz1 := hZr.up hu1)
     | ((with_reducible apply stX_P aggA); exact rfl; exact rfl; exact hz1; exact rfl; exact rfl; exact aggII _ _ _ _))
    exact bodyPost_ret (resXT aggA rfl rfl (hz1.setRow _) rfl) rfl ⟨rfl, below_setRow (hUr.trans hu1) (by omega) _⟩
  ·obtain ⟨rfl, rfl, hp, _⟩ : x = -a /\ y = b /\ _ /\ _ := hab.out
   obtain rfl : p = false := hp (by decide)
   clear hab hk hp
   have hix := fun w => ixA w a y 1 y (.inr ⟨rfl, rfl⟩)
   rw [show ((1 : Nat) : Int) = 1 from rfl] at hix
   cases q
   ·go_wp2_with (first | (go_at_call 26; (with_reducible refine (HY.out _).mono ?_); rintro e w1 ⟨rfl, hu1⟩; have hb1 := hBr.up hu1; have hc1 := hb1.cell 1 rfl; have hf1 := hb1.frozen 1))
    go_roundg 0
    case measure => omega
    case rel => exact ⟨2, -a, -y, by decide, by decide, rfl, hb1.set 1 _, (hZr.up hu1).other _ _ (by simp), (hUr.trans hu1).setCell (p := ⟨w.heap.size, 1, none⟩) (Nat.le_refl _) _, rfl, rfl, fun _ => by trivial, fun _ => by trivial⟩
   ·go_wp2_with (first
     | (go_at_call 26; (with_reducible refine (HY.out _).mono ?_); rintro e w1 ⟨rfl, hu1⟩; have hz1 := hZr.up hu1)
     | ((with_reducible apply stX_P aggA); exact rfl; exact rfl; exact hz1; exact rfl; exact rfl; exact aggII _ _ _ _))
    exact bodyPost_ret (resXT aggA rfl rfl (hz1.setRow _) rfl) rfl ⟨rfl, below_setRow (hUr.trans hu1) (by omega) _⟩
  ·obtain ⟨rfl, rfl, hp, hq⟩ : x = -a /\ y = -b /\ _ /\ _ := hab.out
   obtain rfl : p = false := hp (by decide)
   obtain rfl : q = false := hq (by decide)
   clear hab hk hkg hp hq
   go_wp2_with (first
    | ((with_reducible apply ldX_P aggA); exact rfl; exact rfl; exact hBr; exact rfl)
    | ((with_reducible apply stX_P aggA); exact rfl; exact rfl; exact hZr; exact rfl; exact rfl; exact aggII _ _ _ _))
   exact bodyPost_ret (resXT aggA rfl rfl (hZr.setRow _) rfl) rfl ⟨rfl, below_setRow hUr (by omega) _⟩
  ·omega
noncomputable def wayR (x y : Int) : Nat := sq (x.natAbs * x.natAbs + y.natAbs * y.natAbs)
noncomputable def lnC (fx fy tx ty : Int) : Int := if away fx fy || away tx ty then 21 else if wayR (tx - fx) (ty - fy) < 1000 then 33 else 0
noncomputable def lnX (fx fy tx ty : Int) : Int := if lnC fx fy tx ty = 0 then nv (tx - fx) 256 (wayR (tx - fx) (ty - fy)) else 0
noncomputable def lnY (fx fy tx ty : Int) : Int := if lnC fx fy tx ty = 0 then nv (ty - fy) 256 (wayR (tx - fx) (ty - fy)) else 0
noncomputable def lnZ (fx fy tx ty : Int) : Int := if lnC fx fy tx ty = 0 then (wayR (tx - fx) (ty - fy) : Nat) else 0
theorem aw_no {v : Int} (h : aw v = false) : -4194304 <= v /\ v <= 4194304 := by have := of_decide_eq_false h; omega
theorem away_no {x y : Int} (h : away x y = false) : (-4194304 <= x /\ x <= 4194304) /\ (-4194304 <= y /\ y <= 4194304) := by
 unfold away at h
 simp only [Bool.or_eq_false_iff] at h
 exact ⟨aw_no h.1, aw_no h.2⟩
theorem wayR_lt {x y : Int} (hx : -8388608 <= x /\ x <= 8388608) (hy : -8388608 <= y /\ y <= 8388608) : wayR x y < 16777216 := by
 have h1 := Nat.mul_le_mul (show x.natAbs <= 8388608 by omega) (show x.natAbs <= 8388608 by omega)
 have h2 := Nat.mul_le_mul (show y.natAbs <= 8388608 by omega) (show y.natAbs <= 8388608 by omega)
 exact sq_lt (B := 16777216) (sq_spec _).1 (by omega)
theorem way_hypot (x y : Int) (hx : -8388608 <= x /\ x <= 8388608) (hy : -8388608 <= y /\ y <= 8388608) (w : World) :
   Calls Tryd.prog 14 #[.int .i64 x, .int .i64 y] w fun e w' => e = .returned (.tuple #[.int .i64 (wayR x y : Nat), .bool true]) /\ Up w w' :=
 fx_hypot x y (wayR x y) (by omega) (by omega) (sq_spec _).1 (sq_spec _).2 w
def LinePost (x y z n : Int) (w : World) (r : Ending) (w' : World) : Prop := ∃ u, r = .returned (.tuple #[.agg #[.int .i64 x, .int .i64 y, .int .i64 z], u]) /\ Up w w' /\ ErrsG lineB w' u n
set_option maxHeartbeats 2000000 in
theorem lof_any (fx fy tx ty : Int) (h1 : -9223372036854775808 <= fx /\ fx < 9223372036854775808) (h2 : -9223372036854775808 <= fy /\ fy < 9223372036854775808) (h3 : -9223372036854775808 <= tx /\ tx < 9223372036854775808) (h4 : -9223372036854775808 <= ty /\ ty < 9223372036854775808) (w : World) :
   Calls Tryd.prog 7 #[.agg #[.int .i64 fx, .int .i64 fy], .agg #[.int .i64 tx, .int .i64 ty]] w (LinePost (lnX fx fy tx ty) (lnY fx fy tx ty) (lnZ fx fy tx ty) (lnC fx fy tx ty) w) := by
 have HF := hid (fun w => reached_any fx fy h1 h2 w)
 have HT := hid (fun w => reached_any tx ty h3 h4 w)
 have HW := hid (fun n w => lwrong_any n w)
 have hC : Hid (lnC fx fy tx ty = if away fx fy || away tx ty then 21 else if wayR (tx - fx) (ty - fy) < 1000 then 33 else 0) := hid rfl
 have hX : Hid (lnX fx fy tx ty = if lnC fx fy tx ty = 0 then nv (tx - fx) 256 (wayR (tx - fx) (ty - fy)) else 0) := hid rfl
 have hY : Hid (lnY fx fy tx ty = if lnC fx fy tx ty = 0 then nv (ty - fy) 256 (wayR (tx - fx) (ty - fy)) else 0) := hid rfl
 have hZ : Hid (lnZ fx fy tx ty = if lnC fx fy tx ty = 0 then ((wayR (tx - fx) (ty - fy) : Nat) : Int) else 0) := hid rfl
 have o1 : away fx fy = false -> _ := away_no
 have o2 : away tx ty = false -> _ := away_no
 generalize lnX fx fy tx ty = X at *
 generalize lnY fx fy tx ty = Y at *
 generalize lnZ fx fy tx ty = Z at *
 generalize lnC fx fy tx ty = C at *
 generalize away fx fy = p at *
 generalize away tx ty = q at *
 obtain ⟨W0, hW0⟩ : ∃ W0, ((w.alloc (.cells #[.int .i64 fx, .int .i64 fy] 24)).alloc (.cells #[.int .i64 tx, .int .i64 ty] 24)).alloc (.cells #[.int .i64 0, .int .i64 0, .int .i64 0] 27) = W0 := ⟨_, rfl⟩
 have hF : Blk W0 w.heap.size 24 #[.int .i64 fx, .int .i64 fy] := by rw [<- hW0]; exact ((Blk.new _ _ rfl).up (Up.alloc _ _)).up (Up.alloc _ _)
 have hT : Blk W0 (w.heap.size + 1) 24 #[.int .i64 tx, .int .i64 ty] := by rw [<- hW0]; exact (Blk.new _ _ (by simp)).up (Up.alloc _ _)
 have hL : Blk W0 (w.heap.size + 2) 27 #[.int .i64 0, .int .i64 0, .int .i64 0] := by rw [<- hW0]; exact Blk.new _ _ (by simp)
 have hU : Up w W0 := by rw [<- hW0]; exact ((Up.alloc _ _).trans (Up.alloc _ _)).trans (Up.alloc _ _)
 clear h1 h2 h3 h4
 cases p
 ·cases q
  ·obtain ⟨a1, a2⟩ := o1 rfl
   obtain ⟨b1, b2⟩ := o2 rfl
   obtain ⟨x, hx⟩ : ∃ x, tx - fx = x := ⟨_, rfl⟩
   obtain ⟨y, hy⟩ : ∃ y, ty - fy = y := ⟨_, rfl⟩
   rw [hx, hy] at hC hX hY hZ
   have dX : -8388608 <= x /\ x <= 8388608 := by omega
   have dY : -8388608 <= y /\ y <= 8388608 := by omega
   have e1 : IntKind.i64.wrap (tx - fx) = x := by rw [hx]; exact IntWalk.i64_in _ (by omega)
   have e2 : IntKind.i64.wrap (ty - fy) = y := by rw [hy]; exact IntWalk.i64_in _ (by omega)
   have HH := hid (fun w => way_hypot _ _ dX dY w)
   have hlt := wayR_lt dX dY
   have HP := hid (fun (h : 1000 <= wayR x y) w => parts_any _ _ (wayR x y) dX dY (by omega) (by omega) w)
   generalize wayR x y = R at *
   generalize nv x 256 R = PX at *
   generalize nv y 256 R = PY at *
   clear hx hy
   clear o1 o2 a1 a2 b1 b2 dX dY
   by_cases hR : R < 1000
   ·have hC' : C = 33 := by rw [hC.out]; simp [hR]
    subst hC'
    obtain rfl : X = 0 := by rw [hX.out]; rfl
    obtain rfl : Y = 0 := by rw [hY.out]; rfl
    obtain rfl : Z = 0 := by rw [hZ.out]; rfl
    have d : decide ((R : Int) < 1000) = true := decide_eq_true (by omega)
    clear hC hX hY hZ HP hR hlt
    go_enter Tryd.func7, Tryd.ntmps7
    go_wp2_with (first
     | ((with_reducible apply ldX_P aggP); exact rfl; exact rfl; (first | exact hF | exact hT.up hu1); exact rfl)
     | (go_at_call 12; first
        | ((with_reducible refine (HF.out _).mono ?_); rintro e w1 ⟨rfl, hu1⟩)
        | ((with_reducible refine (HT.out _).mono ?_); rintro e w2 ⟨rfl, hu2⟩; have hU2 := hu1.trans hu2; have hf0 := (hF.up hU2).cell 0 rfl; have hf1 := (hF.up hU2).cell 1 rfl; have ht0 := (hT.up hU2).cell 0 rfl; have ht1 := (hT.up hU2).cell 1 rfl; have hL2 := hL.up hU2))
     | (go_at_call 14; (with_reducible refine (HH.out _).mono ?_); rintro e w3 ⟨rfl, hu3⟩)
     | (go_at_call 13; (with_reducible refine (HW.out _ _).mono ?_); rintro e w4 ⟨t, v, rfl, hu4, h4⟩; have hU4 := (gUp : Up w2 w4); have hL4 := hL2.up hU4)
     | ((with_reducible apply stX_P aggL); exact rfl; exact rfl; exact hL4; exact rfl; exact rfl; exact aggIII _ _ _ _ _ _))
    exact bodyPost_ret (resXT aggL rfl rfl (hL4.setRow _) rfl) rfl ⟨_, rfl, below_setRow (hU.trans (hU2.trans hU4)) (by omega) _, (IsEr.errs (by decide) h4).setRow hL4 (by decide)⟩
   ·have hC' : C = 0 := by rw [hC.out]; simp [hR]
    subst hC'
    obtain rfl : X = PX := by rw [hX.out]; rfl
    obtain rfl : Y = PY := by rw [hY.out]; rfl
    obtain rfl : Z = (R : Int) := by rw [hZ.out]; rfl
    have HP := hid (HP.out (by omega))
    have d : decide ((R : Int) < 1000) = false := decide_eq_false (by omega)
    clear hC hX hY hZ hR hlt
    go_enter Tryd.func7, Tryd.ntmps7
    go_wp2_with (first
     | ((with_reducible apply ldX_P aggA); exact rfl; exact rfl; exact hD3; exact rfl)
     | ((with_reducible apply ldX_P aggP); exact rfl; exact rfl; (first | exact hF | exact hT.up hu1); exact rfl)
     | (go_at_call 12; first
        | ((with_reducible refine (HF.out _).mono ?_); rintro e w1 ⟨rfl, hu1⟩)
        | ((with_reducible refine (HT.out _).mono ?_); rintro e w2 ⟨rfl, hu2⟩; have hU2 := hu1.trans hu2; have hf0 := (hF.up hU2).cell 0 rfl; have hf1 := (hF.up hU2).cell 1 rfl; have ht0 := (hT.up hU2).cell 0 rfl; have ht1 := (hT.up hU2).cell 1 rfl; have hL2 := hL.up hU2))
     | (go_at_call 14; (with_reducible refine (HH.out _).mono ?_); rintro e w3 ⟨rfl, hu3⟩; have hD3 := (Blk.new (w := w2) 25 #[.int .i64 x, .int .i64 y] rfl).up hu3)
     | (go_at_call 15; (with_reducible refine (HP.out _).mono ?_); rintro e w4 ⟨rfl, hu4⟩; have hU4 := (gUp : Up w2 w4); have hL4 := hL2.up hU4)
     | ((with_reducible apply stX_P aggL); exact rfl; exact rfl; exact hL4; exact rfl; exact rfl; exact aggIII _ _ _ _ _ _))
    exact bodyPost_ret (resXT aggL rfl rfl (hL4.setRow _) rfl) rfl ⟨_, rfl, below_setRow (hU.trans (hU2.trans hU4)) (by omega) _, ErrsG.none _ _⟩
  ·have hC' : C = 21 := by rw [hC.out]; simp
   subst hC'
   obtain rfl : X = 0 := by rw [hX.out]; rfl
   obtain rfl : Y = 0 := by rw [hY.out]; rfl
   obtain rfl : Z = 0 := by rw [hZ.out]; rfl
   clear hC hX hY hZ o1 o2
   go_enter Tryd.func7, Tryd.ntmps7
   go_wp2_with (first
    | ((with_reducible apply ldX_P aggP); exact rfl; exact rfl; (first | exact hF | exact hT.up hu1); exact rfl)
    | (go_at_call 12; first
       | ((with_reducible refine (HF.out _).mono ?_); rintro e w1 ⟨rfl, hu1⟩)
       | ((with_reducible refine (HT.out _).mono ?_); rintro e w2 ⟨rfl, hu2⟩))
    | (go_at_call 13; (with_reducible refine (HW.out _ _).mono ?_); rintro e w4 ⟨t, v, rfl, hu4, h4⟩; have hL4 := hL.up ((hu1.trans hu2).trans hu4))
    | ((with_reducible apply stX_P aggL); exact rfl; exact rfl; exact hL4; exact rfl; exact rfl; exact aggIII _ _ _ _ _ _))
   exact bodyPost_ret (resXT aggL rfl rfl (hL4.setRow _) rfl) rfl ⟨_, rfl, below_setRow (hU.trans ((hu1.trans hu2).trans hu4)) (by omega) _, (IsEr.errs (by decide) h4).setRow hL4 (by decide)⟩
 ·have hC' : C = 21 := by rw [hC.out]; simp
  subst hC'
  obtain rfl : X = 0 := by rw [hX.out]; rfl
  obtain rfl : Y = 0 := by rw [hY.out]; rfl
  obtain rfl : Z = 0 := by rw [hZ.out]; rfl
  clear hC hX hY hZ o1 o2
  go_enter Tryd.func7, Tryd.ntmps7
  go_wp2_with (first
   | go_skip
   | ((with_reducible apply ldX_P aggP); exact rfl; exact rfl; exact hF; exact rfl)
   | (go_at_call 12; (with_reducible refine (HF.out _).mono ?_); rintro e w1 ⟨rfl, hu1⟩)
   | (go_at_call 13; (with_reducible refine (HW.out _ _).mono ?_); rintro e w4 ⟨t, v, rfl, hu4, h4⟩; have hL4 := hL.up (hu1.trans hu4))
   | ((with_reducible apply stX_P aggL); exact rfl; exact rfl; exact hL4; exact rfl; exact rfl; exact aggIII _ _ _ _ _ _))
  exact bodyPost_ret (resXT aggL rfl rfl (hL4.setRow _) rfl) rfl ⟨_, rfl, below_setRow (hU.trans (hu1.trans hu4)) (by omega) _, (IsEr.errs (by decide) h4).setRow hL4 (by decide)⟩
def zth (l : List Int) (i : Nat) : Int := l.getD i 0
theorem zth_get {l : List Int} {i : Nat} (h : i < l.length) : zth l i = l[i] := by
 unfold zth; rw [List.getD_eq_getElem?_getD, List.getElem?_eq_getElem h]; rfl
def Vw (w : World) (v : Value) (l : List Int) : Prop :=
 ∃ p cap, v = .slice p l.length cap /\ (l.length <= cap /\ (p = none -> cap = 0)) /\ ∀ i, i < l.length -> ∃ a, p = some a /\ w.cell? (a.add i) = some (.int .i64 (zth l i))
theorem Vw.up {w w' : World} (hu : Up w w') {v : Value} {l : List Int} (h : Vw w v l) : Vw w' v l := by
 obtain ⟨p, cap, e, hcap, hc⟩ := h
 refine ⟨p, cap, e, hcap, fun i hi => ?_⟩
 obtain ⟨a, ha, h1⟩ := hc i hi
 exact ⟨a, ha, hu.cellEq h1⟩
theorem undI : Tryd.prog.underlying 34 = some (.slice 2) := by kernel_rfl
theorem infoI : (Tryd.prog.info? 2).map (fun i => (i.zero, i.size, i.bytes)) = some (some (.int .i64 0), 1, 8) := by kernel_rfl
def vals (l : List Int) : List Value := l.map (Value.int .i64)
def OwnI (w : World) (base : Nat) (v : Value) (l : List Int) : Prop := w.ownsRow base 2 1 v l.length (vals l)
theorem vals_get {l : List Int} {i : Nat} (h : i < l.length) : (vals l)[i]? = some (.int .i64 (zth l i)) := by
 unfold vals; rw [List.getElem?_map, zth_get h, List.getElem?_eq_getElem h]; rfl
theorem vals_set (l : List Int) (k : Nat) (z : Int) : vals (l.set k z) = (vals l).set k (.int .i64 z) := by unfold vals; rw [List.map_set]
theorem Vw.addr {w : World} {v : Value} {l : List Int} (h : Vw w v l) (h0 : 0 < l.length) : ∃ ad cap, v = .slice (some ad) l.length cap /\ l.length <= cap /\ ∀ j u, (vals l)[j]? = some u -> w.cell? (ad.add j) = some u := by
 obtain ⟨p, cap, rfl, hcap, hc⟩ := h
 obtain ⟨ad, rfl, _⟩ := hc 0 h0
 refine ⟨ad, cap, rfl, hcap.1, fun j u hu => ?_⟩
 have hj : j < l.length := by
  have := (List.getElem?_eq_some_iff.1 hu).1
  unfold vals at this
  simpa using this
 obtain ⟨a2, e2, h2⟩ := hc j hj
 injection e2 with e2
 subst e2
 rw [vals_get hj] at hu
 rw [h2]
 exact hu
theorem Vw.at_ {w : World} {v : Value} {l : List Int} (h : Vw w v l) : ∃ p cap, v = .slice p l.length cap /\ ∀ w', Up w w' -> ∀ i, i < l.length -> ∃ a, p = some a /\ w'.cell? (a.add i) = some (.int .i64 (zth l i)) := by
 obtain ⟨p, cap, e, _, hc⟩ := h
 refine ⟨p, cap, e, fun w' hu i hi => ?_⟩
 obtain ⟨a, h1, h2⟩ := hc i hi
 exact ⟨a, h1, hu.cellEq h2⟩
theorem ints_eq {a b : Value} {l : List Int} {w : World} (ha : Vw w a l) (hb : Vw w b l) (hl : l.length <= 1000) :
   Calls Tryd.prog 11 #[a, b] w fun r w' => r = .returned (.bool true) /\ Up w w' := by
 obtain ⟨p, cp, rfl, hp⟩ := ha.at_
 obtain ⟨q, cq, rfl, hq⟩ := hb.at_
 have HP := hid hp
 have HQ := hid hq
 clear hp hq ha hb
 have d0 : ((l.length : Int) != l.length) = false := by simp
 go_enter Tryd.func11, Tryd.ntmps11
 go_wp2_with fail
 go_loopg [5] l.length (fun g ti wr => ∃ k : Nat, k <= l.length /\ l.length - k <= g /\ ti = .int .i64 (k : Nat) /\ Up w wr)
 case atStart => exact ⟨0, Nat.zero_le _, Nat.le_refl _, rfl, Up.refl _⟩
 case round =>
  obtain ⟨k, hk, hkg, rfl, hu⟩ := hrel
  by_cases hlt : k < l.length
  ·obtain ⟨a1, rfl, hc1⟩ := HP.out _ hu k hlt
   obtain ⟨a2, rfl, hc2⟩ := HQ.out _ hu k hlt
   have dz : (zth l k != zth l k) = false := by simp
   generalize zth l k = z at *
   have e1 : IntKind.i64.wrap ((k : Int) + 1) = (k : Int) + 1 := IntWalk.i64_in _ (by omega)
   go_wp2_with fail
   go_quiet (fail)
   go_wp2_with fail
   go_roundg (l.length - (k + 1))
   case measure => omega
   case rel => exact ⟨k + 1, by omega, Nat.le_refl _, rfl, below_drewN hu _⟩
  ·obtain rfl : k = l.length := by omega
   clear hlt hk
   go_wp2_with fail
   go_ret
   exact ⟨rfl, hu⟩
theorem mkB64 {ops : Array Oper} {rest : List Oper} {Q : Exit -> Act -> World -> Prop} {a : Act} {w : World} {d : Option Tmp} {l : Tmp} {ty : TypeId} {pos : String} {af : Array Edge} {L : Nat} (hl : a.eval (.tmp l) = .int .i64 (L : Nat)) (hn : L < 1000000)
   (h : ∀ w', Blk w' w.heap.size 2 (vals (List.replicate L 0)).toArray -> Up w w' -> wpList Tryd.prog ops Q rest (a.put d (.slice (some ⟨w.heap.size, 0, none⟩) L L)) w') :
   wpList Tryd.prog ops Q ({ dst := d, op := .makeSlice 34 (.tmp l) (.tmp l), type := ty, pos := pos, after := af, guard := none } :: rest) a w := by
 refine wpList_plain rfl fun _ hK => ?_
 have hi := infoI
 cases hq : Tryd.prog.info? 2 with
 | none => rw [hq] at hi; simp at hi
 | some i =>
   rw [hq] at hi
   simp only [Option.map_some, Option.some.injEq, Prod.mk.injEq] at hi
   have hr := run_make (P := Tryd.prog) (w := w) 34 2 i (.int .i64 0) undI hq hi.1 .i64 .i64 (L : Int) (L : Int) (by omega) (by omega) (by rw [hi.2.2]; omega) (by omega)
   rw [hi.2.1, Nat.mul_one, Int.toNat_natCast] at hr
   have hz : madeCells (Value.int .i64 0).cells L = (vals (List.replicate L 0)).toArray := by
    unfold madeCells vals
    apply Array.ext
    ·simp [Value.cells]
    ·intro i h1 h2; simp [Value.cells, Nat.mod_one]
   rw [hz] at hr
   unfold Oper.wp execOp
   simp only [hl, Sem.run_bind, Sem.run_pure, Result.andThen_ok, hr]
   exact hK _ _ (h _ (heap_alloc_new _ _) (Up.alloc _ _))
def put2 (l : List Int) (i : Nat) (x y : Int) : List Int := (l.set i x).set (i + 1) y
theorem put2_len (l : List Int) (i : Nat) (x y : Int) : (put2 l i x y).length = l.length := by unfold put2; rw [List.length_set, List.length_set]
theorem put2_splice {l : List Int} {i : Nat} {x y : Int} (h : i + 2 <= l.length) : splice (vals l) i [.int .i64 x, .int .i64 y] = vals (put2 l i x y) := by
 have hl : (vals l).length = l.length := by unfold vals; rw [List.length_map]
 unfold put2
 rw [vals_set, vals_set]
 generalize vals l = v at *
 rw [<- hl] at h
 unfold splice
 apply List.ext_getElem?
 intro j
 rw [List.getElem?_set, List.getElem?_set, List.length_set]
 rcases Nat.lt_trichotomy j i with h1 | rfl | h1
 ·rw [List.getElem?_append_left (by rw [List.length_take]; omega), List.getElem?_take_of_lt h1, if_neg (by omega), if_neg (by omega)]
 ·rw [List.getElem?_append_right (by rw [List.length_take]; omega), List.length_take, if_neg (by omega), if_pos rfl, if_pos (by omega), show j - min j v.length = 0 by omega]; rfl
 ·rw [List.getElem?_append_right (by rw [List.length_take]; omega), List.length_take, show min i v.length = i by omega]
  by_cases h2 : j = i + 1
  ·subst h2
   rw [if_pos rfl, if_pos (by omega), show i + 1 - i = 1 by omega]; rfl
  ·rw [if_neg (by omega), if_neg (by omega), List.getElem?_append_right (by show 2 <= _; omega), List.getElem?_drop]
   congr 1
   show i + 2 + (j - i - 2) = j
   omega
theorem Blk.below {B : Nat} {w w' : World} {b : Nat} {t : TypeId} {C : Array Value} (h : Blk w b t C) (hb : Below B w w') (hl : b < B) : Blk w' b t C := by
 unfold Blk at *; rw [hb.block b hl]; exact h
theorem cpI_wp {o : Oper} {a : Act} {w : World} {K : Act -> World -> Prop} {Q : Exit -> Act -> World -> Prop} (hgd : o.guard = none) {s u : Operand} {t1 : TypeId} (ho : o.op = .call { callee := .builtin .copy, args := #[s, u], argTypes := #[34, t1] }) {g i n c b k sc : Nat} {l : List Int} {x y : Int}
   (hs : a.eval s = .slice (some ⟨g, i, none⟩) n c) (hu : a.eval u = .slice (some ⟨b, k, none⟩) 2 sc) (hg : Blk w g 2 (vals l).toArray) (hb : w.rangeAt b k [.int .i64 x, .int .i64 y]) (hn : 2 <= n) (hf : i + 2 <= l.length)
   (h : ∀ w', Blk w' g 2 (vals (put2 l i x y)).toArray -> Below g w w' -> K (a.put o.dst (.int .i64 2)) w') : o.wp Tryd.prog a w K Q := by
 have hl : (vals l).length = l.length := by unfold vals; rw [List.length_map]
 have hiU : (Tryd.prog.info? 2).map (·.size) = some 1 := by
  have := infoI
  cases hq : Tryd.prog.info? 2 with
  | none => rw [hq] at this; simp at this
  | some i =>
    rw [hq] at this
    simp only [Option.map_some, Option.some.injEq, Prod.mk.injEq] at this
    simp [this.2.1]
 have hst := step_copy_splice (P := Tryd.prog) (ops := #[]) (o := o) (a := a) (w := w) (K := K) (Q := Q) (E := True) hgd s u 34 t1 ho 2 undI hiU (some ⟨g, i, none⟩) (some ⟨b, k, none⟩) n c 2 sc hs hu g i (vals l) 2 hg [.int .i64 x, .int .i64 y] (show 2 = min 2 n by omega)
  (fun _ => ⟨rfl, _, rfl, fun j v hj => by rw [Addr.add_mid]; exact hb j v hj⟩) (by rw [hl]; exact hf) (fun v hv => by simp at hv; rcases hv with rfl | rfl <;> rfl) g w (Below.refl _ _) (Nat.le_refl _)
  (fun w' h1 h2 => h w' (by rw [<- put2_splice hf]; exact h1.out) h2)
 have hw : Region.wanted o (yielded #[] a.tmps) = true := by simp [Region.wanted, hgd]
 rwa [if_pos hw] at hst
theorem cpI_P {ops : Array Oper} {rest : List Oper} {Q : Exit -> Act -> World -> Prop} {a : Act} {w : World} {d : Option Tmp} {s u : Tmp} {ty : TypeId} {pos : String} {af : Array Edge} {t1 : TypeId} {g i n c b k sc : Nat} {l : List Int} {x y : Int}
   (hs : a.eval (.tmp s) = .slice (some ⟨g, i, none⟩) n c) (hu : a.eval (.tmp u) = .slice (some ⟨b, k, none⟩) 2 sc) (hg : Blk w g 2 (vals l).toArray) (hb : w.rangeAt b k [.int .i64 x, .int .i64 y]) (hn : 2 <= n) (hf : i + 2 <= l.length)
   (h : ∀ w', Blk w' g 2 (vals (put2 l i x y)).toArray -> Below g w w' -> wpList Tryd.prog ops Q rest (a.put d (.int .i64 2)) w') :
   wpList Tryd.prog ops Q ({ dst := d, op := .call { callee := .builtin .copy, args := #[.tmp s, .tmp u], argTypes := #[34, t1] }, type := ty, pos := pos, after := af, guard := none } :: rest) a w :=
 wpList_plain rfl fun _ hK => cpI_wp rfl rfl hs hu hg hb hn hf fun w' h1 h2 => hK _ _ (h w' h1 h2)
theorem blk_vw {w : World} {g n c : Nat} {l : List Int} (h : Blk w g 2 (vals l).toArray) (hn : l.length = n) (hc : n <= c) : Vw w (.slice (some ⟨g, 0, none⟩) n c) l := by
 subst hn
 refine ⟨_, c, rfl, ⟨hc, fun e => by cases e⟩, fun i hi => ⟨_, rfl, ?_⟩⟩
 rw [Addr.add_mid, Nat.zero_add]
 exact Blk.cell h i (by rw [List.getElem?_toArray, vals_get hi])
def Bq (w : World) (b : Nat) (t : TypeId) (C : Array Value) : Prop := Blk w b t C
theorem Bq.up {w w' : World} {b : Nat} {t : TypeId} {C : Array Value} (h : Bq w b t C) (hu : Up w w') : Bq w' b t C := Blk.up h hu
def rwS (n i : Nat) (a b : Int) : List Int := put2 (put2 (List.replicate n 0) 0 a b) i (-a) (-b)
theorem rwS_len (n i : Nat) (a b : Int) : (rwS n i a b).length = n := by unfold rwS; rw [put2_len, put2_len, List.length_replicate]
def rwOK (n i : Int) : Bool := decide (2 <= n /\ n <= 8 /\ 2 <= i /\ i <= n - 2)
def rwC (n i a b : Int) : Int := if rwOK n i then (if nn a || nn b then 21 else 0) else 20
def rwL (n i a b : Int) : List Int := if rwC n i a b = 0 then rwS n.toNat i.toNat a b else []
def RowPost (l : List Int) (n : Int) (w : World) (r : Ending) (w' : World) : Prop := ∃ v u, r = .returned (.tuple #[v, u]) /\ Up w w' /\ Vw w' v l /\ ErrsG lineB w' u n
theorem vw_none (w : World) : Vw w (.slice none 0 0) [] := ⟨none, 0, rfl, ⟨Nat.le_refl _, fun _ => rfl⟩, fun _ hi => absurd hi (Nat.not_lt_zero _)⟩
theorem run_fromI {ev : Operand -> Value} {w : World} {d : Option Tmp} {s k : Tmp} {ty : TypeId} {pos : String} {af : Array Edge} {gd : Option (Nat × Bool)} {g n c i : Nat} (_hi : i <= n) (hc : i < c) (hx : ev (.tmp s) = .slice (some ⟨g, 0, none⟩) n c) (hk : ev (.tmp k) = .int .i64 (i : Int)) :
   (execOp ev { dst := d, op := .slice 34 (.tmp s) (some (.tmp k)) none none, type := ty, pos := pos, after := af, guard := gd }).run Tryd.prog w = .ok (.value (.slice (some ⟨g, i, none⟩) (n - i) (c - i))) w := by
 have hne : ¬ c = i := by omega
 have hadd : Addr.add ⟨g, 0, none⟩ i = ⟨g, i, none⟩ := by rw [Addr.add_mid, Nat.zero_add]
 go_simp
set_option maxHeartbeats 2000000 in
theorem row_any (n i a b : Int) (hn : -9223372036854775808 <= n /\ n < 9223372036854775808) (hi : -9223372036854775808 <= i /\ i < 9223372036854775808) (ha : -9223372036854775808 <= a /\ a < 9223372036854775808) (hb : -9223372036854775808 <= b /\ b < 9223372036854775808) (w : World) :
   Calls Tryd.prog 9 #[.int .i64 n, .int .i64 i, .agg #[.int .i64 a, .int .i64 b]] w (RowPost (rwL n i a b) (rwC n i a b) w) := by
 have HT := hid (fun w => turned_any a b ha hb w)
 have HW := hid (fun n w => lwrong_any n w)
 obtain ⟨W0, hW0⟩ : ∃ W0, w.alloc (.cells #[.int .i64 a, .int .i64 b] 25) = W0 := ⟨_, rfl⟩
 have hH : Blk W0 w.heap.size 25 #[.int .i64 a, .int .i64 b] := by rw [<- hW0]; exact Blk.new _ _ rfl
 have hU : Up w W0 := by rw [<- hW0]; exact Up.alloc _ _
 by_cases hp : 2 <= n /\ n <= 8 /\ 2 <= i /\ i <= n - 2
 ·obtain ⟨p1, p2, p3, p4⟩ := hp
  obtain ⟨N, rfl⟩ : ∃ N : Nat, n = (N : Int) := ⟨n.toNat, by omega⟩
  obtain ⟨I, rfl⟩ : ∃ I : Nat, i = (I : Int) := ⟨i.toNat, by omega⟩
  have hC : rwC N I a b = if nn a || nn b then 21 else 0 := by unfold rwC rwOK; rw [decide_eq_true ⟨p1, p2, p3, p4⟩]; rfl
  have hL : rwL N I a b = if rwC N I a b = 0 then rwS N I a b else [] := rfl
  rw [hL, hC]
  have d1 : decide ((N : Int) < 2) = false := decide_eq_false (by omega)
  have d2 : decide ((8 : Int) < N) = false := decide_eq_false (by omega)
  have d3 : decide ((I : Int) < 2) = false := decide_eq_false (by omega)
  have ew : IntKind.i64.wrap ((N : Int) - 2) = (N : Int) - 2 := IntWalk.i64_in _ (by omega)
  have d4 : decide ((N : Int) - 2 < I) = false := decide_eq_false (by omega)
  obtain ⟨p, hpp⟩ : ∃ p, (nn a || nn b) = p := ⟨_, rfl⟩
  rw [hpp] at HT ⊢
  unfold tnV at HT
  clear hC hL hpp ha hb hn hi
  cases p
  ·simp only [Bool.false_eq_true, if_false, if_true] at HT ⊢
   go_enter Tryd.func9, Tryd.ntmps9
   go_upto_region 7 with (first
    | ((with_reducible apply ldX_P aggA); exact rfl; exact rfl; exact hH; exact rfl)
    | (go_at_call 17; (with_reducible refine (HT.out _).mono ?_); rintro e w1 ⟨rfl, hu1⟩; have hD1 := Blk.new (w := w1) 25 #[.int .i64 (-a), .int .i64 (-b)] rfl)
    | ((with_reducible apply mkB64); exact rfl; (focus omega); rintro w2 hR2 hu2))
   have hsz : (w1.alloc (.cells #[.int .i64 (-a), .int .i64 (-b)] 25)).heap.size = w1.heap.size + 1 := by simp
   rw [hsz] at hR2
   have hH2 := hH.up ((hu1.trans (Up.alloc _ _)).trans hu2)
   have hD2 := hD1.up hu2
   have hl0 := hH.lt
   have hl1 := hu1.size
   have hs2 := hu2.size
   rw [hsz] at hs2
   go_upto_region 8 with (first
    | ((with_reducible apply cpI_P); exact rfl; exact rfl; exact hR2; exact (hH2.part2 0 rfl rfl); (focus omega); (focus (rw [List.length_replicate]; omega)); rintro w3 hR3 hb3))
   have hD3 := hD2.below hb3 (by omega)
   have hq1 : Bq w3 (w1.heap.size + 1) 2 (vals (put2 (List.replicate N 0) 0 a b)).toArray := hR3
   have hq2 : Bq w3 w1.heap.size 25 #[.int .i64 (-a), .int .i64 (-b)] := hD3
   have hW3 : Below w.heap.size w w3 := Below.trans (show Below w.heap.size w w2 from hU.trans ((hu1.trans (Up.alloc _ _)).trans hu2)) (hb3.mono (by omega))
   refine opU (S := (fun wq => Bq wq (w1.heap.size + 1) 2 (vals (put2 (List.replicate N 0) 0 a b)).toArray /\ Bq wq w1.heap.size 25 #[.int .i64 (-a), .int .i64 (-b)] /\ Below w.heap.size w wq)) (req := (fun j => j != 4)) (fun _ _ h hu => ⟨(h.1).up hu, (h.2.1).up hu, below_up (h.2.2) hu⟩) ⟨(by assumption), (by assumption), gUp⟩ (fun wS hSS hSu => ?_)
   have ⟨hS1, hS2, hSB⟩ := hSS
   refine tkP 0 (some 41) hSu ?_
   refine tkP 1 (some 42) hSu ?_
   refine tkO 2 (some 43) rfl hSu ?_ (hy := fun w' => run_fromI (n := N) (c := N) (i := I) (by omega) (by omega) rfl rfl)
   refine tkP 3 (some 44) hSu ?_
   refine wpAnyU_one (i := 4) rfl (by kernel_rfl) (by rfl) fun w4 hw4 => ?_
   refine cpI_wp rfl rfl rfl rfl (hS1.up hw4) ((hS2.up hw4).part2 0 rfl rfl) (by omega) (by rw [put2_len, List.length_replicate]; omega) ?_
   rintro w5 hR5 hb5
   refine ⟨fun h => by simp at h, ?_⟩
   try simp only [Act.put, pu1]
   refine wpAnyU_done (by kernel_rfl) (fun wF huE => ?_) _
   have hR6 := hR5.up huE
   have hW6 : Below w.heap.size w wF := Below.trans (Below.trans (Below.trans hSB (Below.mono hw4 hSB.size)) (hb5.mono (by omega))) (Below.mono huE (by have := hSB.size; have := hw4.size; have := hb5.size; omega))
   go_wp2_with fail
   go_ret2
   exact ⟨_, _, rfl, hW6, blk_vw hR6 (rwS_len _ _ _ _) (Nat.le_refl _), ErrsG.none _ _⟩
  ·simp only [if_true] at HT ⊢
   rw [if_neg (by decide)]
   go_enter Tryd.func9, Tryd.ntmps9
   go_wp2_with (first
    | ((with_reducible apply ldX_P aggA); exact rfl; exact rfl; exact hH; exact rfl)
    | (go_at_call 17; (with_reducible refine (HT.out _).mono ?_); rintro e w1 ⟨rfl, hu1⟩)
    | (go_at_call 13; (with_reducible refine (HW.out _ _).mono ?_); rintro e w4 ⟨t, v, rfl, hu4, h4⟩))
   go_ret2
   exact ⟨_, _, rfl, (hU.trans (hu1.trans (Up.alloc _ _))).trans hu4, vw_none _, IsEr.errs (by decide) h4⟩
 ·have hC : rwC n i a b = 20 := by unfold rwC rwOK; rw [decide_eq_false hp]; rfl
  have hL : rwL n i a b = [] := by unfold rwL; rw [hC]; rfl
  rw [hC, hL]
  obtain ⟨a1, h1⟩ : ∃ a, decide (n < 2) = a := ⟨_, rfl⟩
  obtain ⟨a2, h2⟩ : ∃ a, decide (8 < n) = a := ⟨_, rfl⟩
  obtain ⟨a3, h3⟩ : ∃ a, decide (i < 2) = a := ⟨_, rfl⟩
  obtain ⟨a4, h4⟩ : ∃ a, decide (n - 2 < i) = a := ⟨_, rfl⟩
  have en : a1 = false -> a2 = false -> IntKind.i64.wrap (n - 2) = n - 2 := fun q1 q2 => by
   rw [<- h1] at q1
   rw [<- h2] at q2
   simp only [decide_eq_false_iff_not] at q1 q2
   exact IntWalk.i64_in _ (by omega)
  have hor : a1 = true \/ (a1 = false /\ a2 = true) \/ (a1 = false /\ a2 = false /\ a3 = true) \/ (a1 = false /\ a2 = false /\ a3 = false /\ a4 = true) := by
   rw [<- h1, <- h2, <- h3, <- h4]
   simp only [decide_eq_true_eq, decide_eq_false_iff_not]
   omega
  clear hC hL hp ha hb hn hi HT
  rcases hor with rfl | ⟨rfl, rfl⟩ | ⟨rfl, rfl, rfl⟩ | ⟨rfl, rfl, rfl, rfl⟩
  ·clear en
   go_enter Tryd.func9, Tryd.ntmps9
   go_wp2_with (first
    | go_skip
    | (go_at_call 13; (with_reducible refine (HW.out _ _).mono ?_); rintro e w4 ⟨t, v, rfl, hu4, h4⟩))
   go_ret2
   exact ⟨_, _, rfl, hU.trans hu4, vw_none _, IsEr.errs (by decide) h4⟩
  ·clear en
   go_enter Tryd.func9, Tryd.ntmps9
   go_wp2_with (first
    | go_skip
    | (go_at_call 13; (with_reducible refine (HW.out _ _).mono ?_); rintro e w4 ⟨t, v, rfl, hu4, h4⟩))
   go_ret2
   exact ⟨_, _, rfl, hU.trans hu4, vw_none _, IsEr.errs (by decide) h4⟩
  ·clear en
   go_enter Tryd.func9, Tryd.ntmps9
   go_wp2_with (first
    | go_skip
    | (go_at_call 13; (with_reducible refine (HW.out _ _).mono ?_); rintro e w4 ⟨t, v, rfl, hu4, h4⟩))
   go_ret2
   exact ⟨_, _, rfl, hU.trans hu4, vw_none _, IsEr.errs (by decide) h4⟩
  ·have ew := en rfl rfl
   clear en
   go_enter Tryd.func9, Tryd.ntmps9
   go_wp2_with (first
    | go_skip
    | (go_at_call 13; (with_reducible refine (HW.out _ _).mono ?_); rintro e w4 ⟨t, v, rfl, hu4, h4⟩))
   go_ret2
   exact ⟨_, _, rfl, hU.trans hu4, vw_none _, IsEr.errs (by decide) h4⟩
theorem undJ : Tryd.prog.underlying 2 = some (.int .i64) := by kernel_rfl
theorem part_lineH (a b c : Int) (w : World) : (part 25 #[.int .i64 a, .int .i64 b, .int .i64 c] 0).run Tryd.prog w = .ok (.agg #[.int .i64 a, .int .i64 b]) w := by kernel_rfl
theorem part_lineR (a b c : Int) (w : World) : (part 2 #[.int .i64 a, .int .i64 b, .int .i64 c] 2).run Tryd.prog w = .ok (.int .i64 c) w := by kernel_rfl
theorem part_two (a b : Int) (w : World) : (part 2 #[.int .i64 a, .int .i64 b] 0).run Tryd.prog w = .ok (.int .i64 a) w /\ (part 2 #[.int .i64 a, .int .i64 b] 1).run Tryd.prog w = .ok (.int .i64 b) w := ⟨by kernel_rfl, by kernel_rfl⟩
theorem run_eqA (d : Nat) (a b : Int) (w : World) : (Op.equalIn (d + 1 + 1) 25 (.agg #[.int .i64 a, .int .i64 b]) (.agg #[.int .i64 a, .int .i64 b])).run Tryd.prog w = .ok true w := by
 obtain ⟨i, hi⟩ := Option.isSome_iff_exists.1 (show (Tryd.prog.info? 2).isSome = true by kernel_rfl)
 have hc : Tryd.prog.cellsOf 2 = 1 := by kernel_rfl
 obtain ⟨p0, p1⟩ := part_two a b w
 rw [run_equalIn_array w (d + 1) _ _ undA hi, hc, show List.range 2 = [0, 1] from rfl]
 simp only [Op.eqItems, Nat.mul_one, Sem.run_bind, p0, p1, Result.andThen_ok, run_equalIn_int w d _ _ _ _ _ undJ, beq_self_eq_true, Bool.not_true, Bool.false_eq_true, if_false, Sem.run_pure]
theorem fieldsL : ((Tryd.prog.fieldsOf 27).toList.map fun f => (f.name == "_", f.type, f.offset)) = [(false, 25, 0), (false, 2, 2)] := by kernel_rfl
theorem undL0 : (match Tryd.prog.underlying 27 with | some (.struct _) => true | _ => false) = true := by kernel_rfl
theorem run_eqinL (a b c : Int) (w : World) : (Op.equalIn 10000 27 (.agg #[.int .i64 a, .int .i64 b, .int .i64 c]) (.agg #[.int .i64 a, .int .i64 b, .int .i64 c])).run Tryd.prog w = .ok true w := by
 have ht : Tryd.prog.underlying 27 = some (.struct (Tryd.prog.fieldsOf 27)) := by
  have h := undL0
  split at h
  ·rename_i fs hu
   unfold Program.fieldsOf
   rw [hu]
  ·cases h
 have hp : Tryd.prog.stoodInHeld 27 = false := by kernel_rfl
 have hf := fieldsL
 rw [show (10000 : Nat) = 9997 + 1 + 1 + 1 from rfl, run_equalIn_struct w (9997 + 1 + 1) _ _ _ ht hp]
 generalize (Tryd.prog.fieldsOf 27).toList = L at hf
 rcases L with _ | ⟨f, _ | ⟨g, _ | ⟨h, L⟩⟩⟩
 ·simp at hf
 ·simp at hf
 ·simp only [List.map_cons, List.map_nil, List.cons.injEq, Prod.mk.injEq, and_true, beq_eq_false_iff_ne] at hf
  obtain ⟨⟨a1, a2, a3⟩, b1, b2, b3⟩ := hf
  unfold Op.eqFields
  rw [if_pos a1, a2, a3]
  simp only [Sem.run_bind, part_lineH, Result.andThen_ok, run_eqA, Bool.not_true, Bool.false_eq_true, if_false]
  unfold Op.eqFields
  rw [if_pos b1, b2, b3]
  simp only [Sem.run_bind, part_lineR, Result.andThen_ok, run_equalIn_int w _ _ _ _ _ _ undJ, beq_self_eq_true, Bool.not_true, Bool.false_eq_true, if_false]
  unfold Op.eqFields
  rfl
 ·simp at hf
theorem run_eqL {o : Oper} {ev : Operand -> Value} {x y : Operand} {u : TypeId} (ho : o.op = .binOp .eql 27 x y u) {a b c : Int} (hx : ev x = .agg #[.int .i64 a, .int .i64 b, .int .i64 c]) (hy : ev y = .agg #[.int .i64 a, .int .i64 b, .int .i64 c]) (w : World) :
   (execOp ev o).run Tryd.prog w = .ok (.value (.bool true)) w := by
 unfold execOp
 simp only [ho, hx, hy, Sem.run_bind, run_eqGuard_agg _ _ _ _ _ _ _ (show Tryd.prog.eqGuardType Tryd.prog.depth 27 = false by kernel_rfl), Result.andThen_ok, run_eql_struct, run_eqinL, Sem.run_pure]
section
variable {ops : Array Oper} {rest : List Oper} {Q : Exit -> Act -> World -> Prop} {a : Act} {w : World} {d : Option Tmp} {s r : Tmp} {u ty : TypeId} {pos : String} {af : Array Edge} {gd : Option (Nat × Bool)} {x y z : Int}
theorem eqL_P (hw : Region.wanted { dst := d, op := .binOp .eql 27 (.tmp s) (.tmp r) u, type := ty, pos := pos, after := af, guard := gd } (yielded ops a.tmps) = true) (hx : a.eval (.tmp s) = .agg #[.int .i64 x, .int .i64 y, .int .i64 z]) (hy : a.eval (.tmp r) = .agg #[.int .i64 x, .int .i64 y, .int .i64 z])
   (h : wpList Tryd.prog ops Q rest (a.put d (.bool true)) w) : wpList Tryd.prog ops Q ({ dst := d, op := .binOp .eql 27 (.tmp s) (.tmp r) u, type := ty, pos := pos, after := af, guard := gd } :: rest) a w := wpList_run hw (run_eqL rfl hx hy w) h
end
theorem lsays_any {u : Value} {e : Int} {w : World} (h : ErrsG lineB w u e) (hg : Glob w) :
   Calls Tryd.prog 8 #[u, .int .i64 e] w fun r w' => r = .returned (.bool true) /\ Up w w' := by
 rcases h with ⟨rfl, rfl⟩ | ⟨h0, t, x, rfl, hE⟩
 ·go_enter Tryd.func8, Tryd.ntmps8
  go_wp2_with fail
  go_ret
  exact ⟨rfl, Up.refl _⟩
 ·have d : (e == 0) = false := by simpa using h0
  have HO := hid (fun w' (hu : Up w w') => ops_any (hE.up hu) (show 1 < 1000000 by decide))
  have HC := hid (fun w' (hu : Up w w') => code_any (hE.up hu) (globUp hg hu))
  have de : (e == e) = true := by simp
  have dB : (lineB.toList == [108, 105, 110, 101]) = true := by rw [show lineB.toList = [108, 105, 110, 101] from by rw [ByteArray.toList_eq]; rfl]; rfl
  clear hE hg h0
  go_enter Tryd.func8, Tryd.ntmps8
  go_wp2_with (first
   | (go_at_call 16; (with_reducible refine (HO.out _ (Up.refl _)).mono ?_); rintro r w1 ⟨s, rfl, hu1, hs⟩; obtain ⟨g, cap, C, rfl, hB, h0⟩ := ownOne hs)
   | (go_at_call 10; (with_reducible refine (HC.out _ hu1).mono ?_); rintro r w2 ⟨rfl, hu2⟩; have hc := (hB.up hu2).cell 0 h0; have de2 : ((Er.flt lineB (.num e)).first.getD 36 == e) = true := by (show (e == e) = true; simp)))
  go_ret
  exact ⟨rfl, hu1.trans hu2⟩
theorem wayR_is {x y : Int} {r : Nat} (h1 : r * r <= x.natAbs * x.natAbs + y.natAbs * y.natAbs) (h2 : x.natAbs * x.natAbs + y.natAbs * y.natAbs < (r + 1) * (r + 1)) : wayR x y = r := sq_is h1 h2
theorem ln_ok {fx fy tx ty : Int} (h1 : away fx fy = false) (h2 : away tx ty = false) {r : Nat} (hr : wayR (tx - fx) (ty - fy) = r) (h : 1000 <= r) :
   lnC fx fy tx ty = 0 /\ lnX fx fy tx ty = nv (tx - fx) 256 r /\ lnY fx fy tx ty = nv (ty - fy) 256 r /\ lnZ fx fy tx ty = (r : Int) := by
 have hc : lnC fx fy tx ty = 0 := by unfold lnC; rw [h1, h2, hr, if_neg (by decide), if_neg (by omega)]
 refine ⟨hc, ?_, ?_, ?_⟩
 ·unfold lnX; rw [hc, hr]; rfl
 ·unfold lnY; rw [hc, hr]; rfl
 ·unfold lnZ; rw [hc, hr]; rfl
theorem ln_near {fx fy tx ty : Int} (h1 : away fx fy = false) (h2 : away tx ty = false) {r : Nat} (hr : wayR (tx - fx) (ty - fy) = r) (h : r < 1000) :
   lnC fx fy tx ty = 33 /\ lnX fx fy tx ty = 0 /\ lnY fx fy tx ty = 0 /\ lnZ fx fy tx ty = 0 := by
 have hc : lnC fx fy tx ty = 33 := by unfold lnC; rw [h1, h2, hr, if_neg (by decide), if_pos h]
 refine ⟨hc, ?_, ?_, ?_⟩
 ·unfold lnX; rw [hc]; rfl
 ·unfold lnY; rw [hc]; rfl
 ·unfold lnZ; rw [hc]; rfl
theorem vw_four (w : World) (k : Nat) (hk : k = w.heap.size) (x y z t : Int) : Vw (w.alloc (.cells #[.int .i64 x, .int .i64 y, .int .i64 z, .int .i64 t] 2)) (.slice (some ⟨k, 0, none⟩) 4 4) [x, y, z, t] :=
 blk_vw (l := [x, y, z, t]) (Blk.new _ _ hk) rfl (Nat.le_refl _)
theorem hi64 {z : Int} (h1 : -9223372036854775808 <= z := by decide) (h2 : z < 9223372036854775808 := by decide) : -9223372036854775808 <= z /\ z < 9223372036854775808 := ⟨h1, h2⟩
set_option maxHeartbeats 4000000 in
theorem lknown_true {w : World} (hg : Glob w) :
   Calls Tryd.prog 6 #[] w fun r w' => r = .returned (.bool true) /\ Up w w' := by
 obtain ⟨c1, x1, y1, z1⟩ := ln_ok (fx := 0) (fy := 0) (tx := 3000) (ty := 4000) (r := 5000) (by decide) (by decide) (wayR_is (by decide) (by decide)) (by decide)
 obtain ⟨c2, x2, y2, z2⟩ := ln_near (fx := 0) (fy := 0) (tx := 3) (ty := 0) (r := 3) (by decide) (by decide) (wayR_is (by decide) (by decide)) (by decide)
 have H1 := hid (fun w => lof_any 0 0 3000 4000 hi64 hi64 hi64 hi64 w)
 have H2 := hid (fun w => lof_any 0 0 3 0 hi64 hi64 hi64 hi64 w)
 have HR := hid (fun w => row_any 4 2 154 205 hi64 hi64 hi64 hi64 w)
 rw [c1, x1, y1, z1, show nv (3000 - 0) 256 (5000 : Nat) = 154 from by decide, show nv (4000 - 0) 256 (5000 : Nat) = 205 from by decide, show ((5000 : Nat) : Int) = 5000 from rfl] at H1
 rw [c2, x2, y2, z2] at H2
 rw [show rwL 4 2 154 205 = [154, 205, -154, -205] from by decide, show rwC 4 2 154 205 = 0 from by decide] at HR
 have HW := hid hg
 clear hg c1 x1 y1 z1 c2 x2 y2 z2
 go_enter Tryd.func6, Tryd.ntmps6
 go_wp2_with (first
  | (go_at_call 7; first
     | ((with_reducible refine (H1.out _).mono ?_); rintro e w1 ⟨u1, rfl, hu1, he1⟩; obtain rfl := he1.elim (fun h => h.2) (fun h => absurd rfl h.1); have hL1 := Blk.new (w := w1) 27 #[.int .i64 154, .int .i64 205, .int .i64 5000] rfl)
     | ((with_reducible refine (H2.out _).mono ?_); rintro e w3 ⟨u3, rfl, hu3, he3⟩; have hL3 := ((hL1.up hu2).up hu3).up (Up.alloc w3 (.cells #[.int .i64 0, .int .i64 0, .int .i64 0] 27)); have hI := ints_eq (Vw.up ((hu3.trans (Up.alloc w3 (.cells #[.int .i64 0, .int .i64 0, .int .i64 0] 27))).trans (Up.alloc _ (.cells #[.int .i64 154, .int .i64 205, .int .i64 (-154), .int .i64 (-205)] 2))) hV3) (vw_four _ (w3.heap.size + 1) (by simp) 154 205 (-154) (-205)) (by decide)))
  | ((with_reducible apply ldXm_P aggA); exact rfl; exact rfl; exact (hL1.part2 0 rfl rfl); exact rfl)
  | (go_at_call 9; (with_reducible refine (HR.out _).mono ?_); rintro e w2 ⟨v2, u2, rfl, hu2, hV2, he2⟩; obtain rfl := he2.elim (fun h => h.2) (fun h => absurd rfl h.1); have hV2' := hV2; obtain ⟨p2, k2, rfl, hq2⟩ := hV2; have hV3 : Vw w2 (.slice p2 4 k2) [154, 205, -154, -205] := hV2')
  | ((with_reducible apply ldX_P aggL); exact rfl; exact rfl; exact hL3; exact rfl)
  | ((with_reducible apply eqL_P); exact rfl; exact rfl; exact rfl)
  | (go_at_call 11; (with_reducible refine hI.mono ?_); rintro r w4 ⟨rfl, hu4⟩; have hU3 := ((Up.alloc w3 _).trans (Up.alloc _ _)).trans hu4; have hU4 := (hu1.trans (Up.alloc _ _)).trans ((hu2.trans hu3).trans hU3))
  | (go_at_call 8; (with_reducible refine (lsays_any (he3.up hU3) (globUp HW.out hU4)).mono ?_); rintro r w5 ⟨rfl, hu5⟩))
 go_ret
 exact ⟨rfl, hU4.trans hu5⟩
theorem wf_rng {k : IntKind} {z l m : Int} (h : (Lit.int k z).wf = true) (h0 : k.min = l) (h1 : k.max = m) : l <= z /\ z <= m := by
 have := (Lit.wf_int_iff k z).1 h
 rw [h0, h1] at this
 exact this
theorem put2_zth {l : List Int} {i j : Nat} {x y : Int} (hj : j < l.length) : zth (put2 l i x y) j = if j = i + 1 then y else if j = i then x else zth l j := by
 unfold put2
 rw [zth_get (by rw [List.length_set, List.length_set]; exact hj), List.getElem_set, List.getElem_set]
 by_cases h1 : j = i + 1
 ·rw [if_pos h1.symm, if_pos h1]
 ·rw [if_neg (Ne.symm h1), if_neg h1]
  by_cases h2 : j = i
  ·rw [if_pos h2.symm, if_pos h2]
  ·rw [if_neg (Ne.symm h2), if_neg h2, <- zth_get hj]
theorem rwS_zth {n i j : Nat} {a b : Int} (hj : j < n) : zth (rwS n i a b) j = if j = i + 1 then -b else if j = i then -a else if j = 1 then b else if j = 0 then a else 0 := by
 unfold rwS
 rw [put2_zth (by rw [put2_len, List.length_replicate]; exact hj), put2_zth (by rw [List.length_replicate]; exact hj)]
 rw [show zth (List.replicate n 0) j = 0 from by rw [zth_get (by rw [List.length_replicate]; exact hj), List.getElem_replicate]]
def sf (i : Nat) (a b : Int) (j : Nat) : Int := (if 0 < j then a else 0) + (if 1 < j then b else 0) + (if i < j then -a else 0) + (if i + 1 < j then -b else 0)
theorem sf_next {n i j : Nat} {a b : Int} (h2 : 2 <= i) (hj : j < n) : sf i a b j + zth (rwS n i a b) j = sf i a b (j + 1) := by
 rw [rwS_zth hj]
 unfold sf
 rw [if_pos (show 0 < j + 1 by omega)]
 rcases (by omega : j = 0 \/ j = 1 \/ j = i \/ j = i + 1 \/ (2 <= j /\ j < i) \/ i + 1 < j) with h | h | h | h | ⟨h, h'⟩ | h
 ·subst h; rw [if_neg (by omega), if_neg (by omega), if_neg (by omega), if_neg (by omega), if_neg (by omega), if_neg (by omega), if_neg (by omega), if_pos rfl, if_neg (by omega), if_neg (by omega), if_neg (by omega)]; omega
 ·subst h; rw [if_pos (by omega), if_neg (by omega), if_neg (by omega), if_neg (by omega), if_neg (by omega), if_neg (by omega), if_pos rfl, if_pos (by omega), if_neg (by omega), if_neg (by omega)]; omega
 ·subst h; rw [if_pos (by omega), if_pos (by omega), if_neg (by omega), if_neg (by omega), if_neg (by omega), if_pos rfl, if_pos (by omega), if_pos (by omega), if_neg (by omega)]; omega
 ·subst h; rw [if_pos (by omega), if_pos (by omega), if_pos (by omega), if_neg (by omega), if_pos rfl, if_pos (by omega), if_pos (by omega), if_pos (by omega)]; omega
 ·rw [if_pos (by omega), if_pos (by omega), if_neg (by omega), if_neg (by omega), if_neg (by omega), if_neg (by omega), if_neg (by omega), if_neg (by omega), if_pos (by omega), if_neg (by omega), if_neg (by omega)]; omega
 ·rw [if_pos (by omega), if_pos (by omega), if_pos (by omega), if_pos (by omega), if_neg (by omega), if_neg (by omega), if_neg (by omega), if_neg (by omega), if_pos (by omega), if_pos (by omega), if_pos (by omega)]; omega
theorem sf_end {n i : Nat} {a b : Int} (h2 : 2 <= i) (hj : i + 1 < n) : sf i a b n = 0 := by
 unfold sf
 rw [if_pos (by omega), if_pos (by omega), if_pos (by omega), if_pos (by omega)]
 omega
theorem sf_in {i j : Nat} {a b : Int} (ha : -2147483648 <= a /\ a <= 2147483647) (hb : -2147483648 <= b /\ b <= 2147483647) : -9223372036854775808 <= sf i a b j /\ sf i a b j < 9223372036854775808 := by
 unfold sf
 repeat' split
 all_goals omega
theorem nn_no {v : Int} (h : -2147483648 <= v /\ v <= 2147483647) : nn v = false := by unfold nn; exact decide_eq_false (by omega)
set_option maxHeartbeats 4000000 in
theorem rsums_w {w : World} (hg : Glob w) {n q a b : Int} (hn : 0 <= n /\ n <= 255) (hq : 0 <= q /\ q <= 255) (ha : -2147483648 <= a /\ a <= 2147483647) (hb : -2147483648 <= b /\ b <= 2147483647) :
   Calls Tryd.prog 4 #[.int .u8 n, .int .u8 q, .int .i32 a, .int .i32 b] w fun e w' => e = .returned (.bool true) /\ Up w w' := by
 have HK := hid (lknown_true hg)
 obtain ⟨r, er⟩ : ∃ y, n.tmod 5 = y := ⟨_, rfl⟩
 have br : 0 <= r /\ r <= 4 := by rw [<- er, Int.tmod_eq_emod_of_nonneg hn.1]; omega
 have i1 : IntKind.u8.wrap r = r := by rw [IntKind.wrap_u8]; omega
 have i2 : IntKind.i64.wrap r = r := IntWalk.i64_in _ (by omega)
 obtain ⟨K, hK⟩ : ∃ K : Nat, r + 4 = (K : Int) := ⟨(r + 4).toNat, by omega⟩
 have i3 : IntKind.i64.wrap (r + 4) = (K : Int) := by rw [hK]; exact IntWalk.i64_in _ (by omega)
 have i4 : IntKind.i64.wrap q = q := IntWalk.i64_in _ (by omega)
 obtain ⟨D, hD⟩ : ∃ D, (K : Int) - 3 = D := ⟨_, rfl⟩
 have i5 : IntKind.i64.wrap ((K : Int) - 3) = D := by rw [hD]; exact IntWalk.i64_in _ (by omega)
 have bD : 1 <= D /\ D <= 5 := by omega
 obtain ⟨m, em⟩ : ∃ y, q.tmod D = y := ⟨_, rfl⟩
 have bm : 0 <= m /\ m < D := by
  rw [<- em, Int.tmod_eq_emod_of_nonneg hq.1]
  exact ⟨Int.emod_nonneg _ (by omega), Int.emod_lt_of_pos _ (by omega)⟩
 have i6 : IntKind.i64.wrap m = m := IntWalk.i64_in _ (by omega)
 obtain ⟨I, hI⟩ : ∃ I : Nat, 2 + m = (I : Int) := ⟨(2 + m).toNat, by omega⟩
 have i7 : IntKind.i64.wrap (2 + m) = (I : Int) := by rw [hI]; exact IntWalk.i64_in _ (by omega)
 have i8 : IntKind.i64.wrap a = a := IntWalk.i64_in _ (by omega)
 have i9 : IntKind.i64.wrap b = b := IntWalk.i64_in _ (by omega)
 have d0 : ¬ D = 0 := by omega
 have K4 : 4 <= K /\ K <= 8 := by omega
 have I2 : 2 <= I /\ I + 1 < K := by omega
 have HR := hid (fun w => row_any (K : Int) (I : Int) a b (by omega) (by omega) (by omega) (by omega) w)
 rw [show rwC (K : Int) (I : Int) a b = 0 from by unfold rwC rwOK; rw [decide_eq_true (by omega), nn_no ha, nn_no hb]; rfl] at HR
 rw [show rwL (K : Int) (I : Int) a b = rwS K I a b from by unfold rwL rwC rwOK; rw [decide_eq_true (by omega), nn_no ha, nn_no hb]; rfl] at HR
 have HL := hid (rwS_len K I a b)
 clear hg hn hq hK hD hI br bD bm
 go_enter Tryd.func4, Tryd.ntmps4
 go_upto_region 9 with (first
  | (go_at_call 6; (with_reducible refine HK.out.mono ?_); rintro e w0 ⟨rfl, hu0⟩)
  | (go_at_call 9; (with_reducible refine (HR.out _).mono ?_); rintro e w2 ⟨v2, u2, rfl, hu2, hV2, he2⟩; obtain rfl := he2.elim (fun h => h.2) (fun h => absurd rfl h.1); obtain ⟨ad, k2, rfl, hk2, hq2⟩ := hV2.addr (by rw [HL.out]; omega); have hl := HL.out))
 have H2 := hid (fun (w' : World) (hu : Up w2 w') (j : Nat) (hj : j < K) => show w'.cell? (ad.add j) = some (.int .i64 (zth (rwS K I a b) j)) from hu.cellEq (hq2 j _ (vals_get (by rw [hl]; exact hj))))
 have HU2 := hid (hu0.trans hu2)
 clear hq2 hl hV2 HL HR HK he2 i1 i2 i3 i4 i5 i6 i7 d0 hu0 hu2
 have HI := hid I2
 have HA := hid ha
 have HB := hid hb
 clear I2 ha hb
 go_upto_region 10 with fail
 go_loopg [13, 14, 15] K (fun g t13 t14 t15 wr => ∃ j : Nat, j <= K /\ K - j <= g /\ t13 = .int .i64 (sf I a b j) /\ t14 = .int .i64 0 /\ t15 = .int .i64 (j : Nat) /\ Up w2 wr)
 case atStart => exact ⟨0, Nat.zero_le _, Nat.le_refl _, rfl, rfl, rfl, Up.refl _⟩
 case round =>
  obtain ⟨j, hj, hjg, rfl, rfl, rfl, hu⟩ := hrel
  have I2 := HI.out
  have e1 : IntKind.i64.wrap ((j : Int) + 1) = (j : Int) + 1 := IntWalk.i64_in _ (by omega)
  have e2 : IntKind.i64.wrap ((I : Int) + 1) = (I : Int) + 1 := IntWalk.i64_in _ (by omega)
  by_cases hlt : j < K
  ·have hz := H2.out _ hu j hlt
   have hs := sf_next (a := a) (b := b) I2.1 hlt
   have hz0 := rwS_zth (n := K) (i := I) (a := a) (b := b) hlt
   generalize zth (rwS K I a b) j = z at *
   have bs := sf_in (i := I) (j := j + 1) HA.out HB.out
   obtain ⟨s1, h1⟩ : ∃ s, sf I a b j = s := ⟨_, rfl⟩
   obtain ⟨s2, h2⟩ : ∃ s, sf I a b (j + 1) = s := ⟨_, rfl⟩
   rw [h1, h2] at hs
   rw [h2] at bs
   rw [h1]
   have e3 : IntKind.i64.wrap (s1 + z) = s2 := by rw [hs]; exact IntWalk.i64_in _ (by omega)
   have HS2 := hid h2
   clear hs bs h1 h2 i8 i9
   rcases (by omega : (j = 0 \/ j = 1) \/ j = I \/ j = I + 1 \/ (1 < j /\ j ≠ I /\ j ≠ I + 1)) with h | h | h | ⟨h, h', h''⟩
   ·have g1 : decide ((1 : Int) < (j : Int)) = false := decide_eq_false (by omega)
    clear h hz0
    go_wp2_with (first | go_skip)
    go_roundg (K - (j + 1))
    case measure => omega
    case rel => exact ⟨j + 1, by omega, Nat.le_refl _, by rw [HS2.out], rfl, rfl, hu⟩
   ·have g1 : decide ((1 : Int) < (j : Int)) = true := decide_eq_true (by omega)
    have g2 : ((j : Int) != (I : Int)) = false := by simp; omega
    clear h hz0
    go_wp2_with (first | go_skip)
    go_roundg (K - (j + 1))
    case measure => omega
    case rel => exact ⟨j + 1, by omega, Nat.le_refl _, by rw [HS2.out], rfl, rfl, hu⟩
   ·have g1 : decide ((1 : Int) < (j : Int)) = true := decide_eq_true (by omega)
    have g2 : ((j : Int) != (I : Int)) = true := by simp; omega
    have g3 : ((j : Int) != (I : Int) + 1) = false := by simp; omega
    clear h hz0
    go_wp2_with (first | go_skip)
    go_roundg (K - (j + 1))
    case measure => omega
    case rel => exact ⟨j + 1, by omega, Nat.le_refl _, by rw [HS2.out], rfl, rfl, hu⟩
   ·have g1 : decide ((1 : Int) < (j : Int)) = true := decide_eq_true (by omega)
    have g2 : ((j : Int) != (I : Int)) = true := by simp; omega
    have g3 : ((j : Int) != (I : Int) + 1) = true := by simp; omega
    obtain rfl : z = 0 := by rw [hz0, if_neg h'', if_neg h', if_neg (by omega), if_neg (by omega)]
    rw [Int.add_zero] at e3
    clear h h' h'' hz0
    go_wp2_with fail
    go_roundg (K - (j + 1))
    case measure => omega
    case rel => exact ⟨j + 1, by omega, Nat.le_refl _, by rw [HS2.out], rfl, rfl, hu⟩
  ·obtain rfl : j = K := by omega
   have c0 := H2.out _ hu 0 (by omega)
   rw [show ad.add 0 = ad from by obtain ⟨_, _, p⟩ := ad; cases p <;> simp [Addr.add]] at c0
   have c1 := H2.out _ hu 1 (by omega)
   have c2 := H2.out _ hu I (by omega)
   have c3 := H2.out _ hu (I + 1) (by omega)
   rw [rwS_zth (by omega), if_neg (by omega), if_neg (by omega), if_neg (by omega), if_pos rfl] at c0
   rw [rwS_zth (by omega), if_neg (by omega), if_neg (by omega), if_pos rfl] at c1
   rw [rwS_zth (by omega), if_neg (by omega), if_pos rfl] at c2
   rw [rwS_zth (by omega), if_pos rfl] at c3
   have c4 : wr.cell? ⟨ad.block, ad.off + 1, none⟩ = some (.int .i64 b) := c1
   have c5 : wr.cell? ⟨ad.block, ad.off + (I + 1), none⟩ = some (.int .i64 (-b)) := c3
   rw [sf_end I2.1 I2.2]
   have ha := HA.out
   have hb := HB.out
   have n1 : IntKind.i64.wrap (-a) = -a := IntWalk.i64_in _ (by omega)
   have n2 : IntKind.i64.wrap (-b) = -b := IntWalk.i64_in _ (by omega)
   have f1 : (a == a) = true := by simp
   have f2 : (b == b) = true := by simp
   have f3 : ((-a) == (-a)) = true := by simp
   have f4 : ((-b) == (-b)) = true := by simp
   clear ha hb hlt hj hjg
   go_wp2_with fail
   go_ret
   exact ⟨rfl, HU2.out.trans hu⟩
theorem rsums_row {w : World} {a0 a1 a2 a3 : Int} (hg : Glob w) (w0 : (Lit.int .u8 a0).wf = true) (w1 : (Lit.int .u8 a1).wf = true) (w2 : (Lit.int .i32 a2).wf = true) (w3 : (Lit.int .i32 a3).wf = true) :
   Calls Tryd.prog 4 #[.int .u8 a0, .int .u8 a1, .int .i32 a2, .int .i32 a3] w fun e w' => e = .returned (.bool true) /\ Up w w' := rsums_w hg (wf_rng w0 rfl rfl) (wf_rng w1 rfl rfl) (wf_rng w2 rfl rfl) (wf_rng w3 rfl rfl)
end Go.Proofs.YtbmlkimgjkdaiaaDoor
namespace Go.Proofs.YtbmlkimgjkdaiaaDoor
open Go.ChangeShapes Go.WideShapes Go.RowKit
set_option maxRecDepth 100000
theorem own4 : ownKnob Tryd.prog.godebug = none := by kernel_rfl
theorem et4 : Tryd.prog.globalNamed "errors.errorType" = some 0 := by kernel_rfl
theorem rt4 : (Tryd.prog.cutTypes.find? (·.1 == "internal/reflectlite.rtype")).map (·.2) = some 88 := by kernel_rfl
theorem oneRow4 : ((List.range 166).filter fun t => Tryd.prog.rowNamed t [101, 114, 114, 111, 114]) = [29] := by kernel_rfl
theorem size4 : Tryd.prog.types.size = 166 := by kernel_rfl
theorem glob_of_laid {W : World} (h : laidMetH Tryd.prog [("errors.errorType", Rows.laid_errors_errorType)] W) : Glob W := by
 have h' : laidMet Tryd.prog [] W /\ handlesMet Tryd.prog [("errors.errorType", Rows.laid_errors_errorType)] W := h
 obtain ⟨name, u, ty, e1, e2, e3, e4, e5⟩ := h'.2 _ (List.mem_singleton.2 rfl)
 have en : name = [101, 114, 114, 111, 114] := (Option.some.inj e1).symm
 subst en
 obtain rfl := Option.some.inj (rt4.symm.trans e2)
 have hm : ty ∈ (List.range 166).filter fun t => Tryd.prog.rowNamed t [101, 114, 114, 111, 114] := List.mem_filter.2 ⟨List.mem_range.2 (by rw [<- size4]; exact e3), e4⟩
 rw [oneRow4] at hm
 obtain rfl := List.mem_singleton.1 hm
 have hh : typeHandle Tryd.prog 29 = .pointer (some ⟨3, 29, none⟩) := by kernel_rfl
 rw [hh] at e5
 unfold Glob
 simpa using World.var?_cell et4 e5 0
noncomputable def laidWorld (os : Os) : World :=
 let w0 := World.holding Tryd.prog os ⟨#[], #[], []⟩
 { w0 with heap := w0.heap.modify 0 fun
    | .cells _ t frozen => .cells #[.iface 88 (.agg #[.pointer (some ⟨3, 29, none⟩)])] t frozen
    | o => o }
theorem laidWorld_met (os : Os) (args : Array Value) : laidMetH Tryd.prog [("errors.errorType", Rows.laid_errors_errorType)] ((laidWorld os).forCall (fun _ _ => 0) ⟨#[], args, []⟩).memory :=
 laidMetH_of_parts (laidMet_nil _ _) (by kernel_rfl)
end Go.Proofs.YtbmlkimgjkdaiaaDoor
