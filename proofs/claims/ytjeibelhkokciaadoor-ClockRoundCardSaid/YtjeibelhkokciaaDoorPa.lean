import Derived.OrdersHeld
import Derived.Below
import Derived.Laws.Rows
import Derived.Laws.Tables
import Derived.Test.YtjeibelhkokciaaDoorProg
import Derived.WalkKit
import Derived.LaidEql
import Derived.WideLaws
import Derived.Stop.Asserts
import Derived.Defers
import Derived.Recover
import Derived.Deep.LoopGhost
import Derived.RowKitTokens
import Derived.Laws.AppendOwn
import Derived.Laws.OwnMore
import Derived.DataShut
import Derived.Test.YtjeibelhkokciaaDoorRows
import Derived.Test.YtjeibelhkokciaaDoorTie
import Derived.ChangeSame
import Derived.ChangeVars
import Derived.JoinedOf
import Derived.RowKit
import Derived.LaidLaws
import Derived.LaidHandle
import Derived.Stop.Joined
import Derived.ChangeMaps5
import Derived.SevenTiedAt
namespace Go.Proofs.YtjeibelhkokciaaDoor
open Go Go.RowKit
theorem oI {α : Type} {a b : α} (h : some a = some b) : a = b := Option.some.inj h
set_option maxRecDepth 100000
def Up (w w' : World) : Prop := Below w.heap.size w w'
theorem Up.refl (w : World) : Up w w := Below.refl _ _
theorem Up.trans {a b c : World} (h : Up a b) (k : Up b c) : Up a c := Below.trans h (Below.mono k h.size)
theorem Up.drew (w : World) : Up w w.drew := (Below.refl _ _).drew
theorem Up.alloc (w : World) (o : Obj) : Up w (w.alloc o) := (Below.refl _ _).alloc (Nat.le_refl _) _
theorem Up.row {w w' : World} (h : Up w w') {b : Nat} {o : Obj} (hb : w.heap[b]? = some o) : w'.heap[b]? = some o := by
 rw [h.block b (Array.getElem?_eq_some_iff.1 hb).1]; exact hb
theorem Up.cell {w w' : World} (h : Up w w') {p : Addr} {v : Value} (hc : w.cell? p = some v) : w'.cell? p = some v := by
 rw [Below.cell h (World.block_lt_of_cell? w p hc)]; exact hc
theorem Up.below {B : Nat} {a w w' : World} (h : Up w w') (hb : Below B a w) (hB : B <= w.heap.size) : Below B a w' := Below.trans hb (Below.mono h hB)
section
variable {P : Program} {ops : Array Oper} {Q : Exit -> Act -> World -> Prop} {md : Region.Mode} {S : World -> Prop} {req : Nat -> Bool}
end
end Go.Proofs.YtjeibelhkokciaaDoor
namespace Go.Proofs.YtjeibelhkokciaaDoor
open Go Go.RowKit
set_option maxRecDepth 100000
theorem hid {p : Prop} (h : p) : Hid p := h
def Blk (w : World) (b : Nat) (t : TypeId) (C : Array Value) : Prop := w.heap[b]? = some (.cells C t (0, 0))
theorem Blk.cell {w : World} {b : Nat} {t : TypeId} {C : Array Value} (h : Blk w b t C) (i : Nat) {v : Value} (hv : C[i]? = some v) : w.cell? ⟨b, i, none⟩ = some v := by
 rw [cell_of_row _ _ _ _ _ _ h, hv]
theorem Blk.frozen {w : World} {b : Nat} {t : TypeId} {C : Array Value} (h : Blk w b t C) (i : Nat) : w.frozen? ⟨b, i, none⟩ = false := frozen_of_row _ _ _ _ _ h
theorem Blk.up {w w' : World} {b : Nat} {t : TypeId} {C : Array Value} (h : Blk w b t C) (hu : Up w w') : Blk w' b t C := hu.row h
theorem Blk.new {w : World} {b : Nat} (t : TypeId) (C : Array Value) (h : b = w.heap.size) : Blk (w.alloc (.cells C t)) b t C := by
 subst h; exact heap_alloc_new _ _
inductive Er where
 | num (n : Int)
 | nilf (op : ByteArray)
 | flt (op : ByteArray) (e : Er)
def IsEr (w : World) : Value -> Er -> Prop
 | v, .num n => v = .iface 46 (.int .i64 n)
 | v, .nilf op => ∃ b, v = .iface 50 (.pointer (some ⟨b, 0, none⟩)) /\ Blk w b 52 #[.string op, .nilIface]
 | v, .flt op e => ∃ b u, v = .iface 50 (.pointer (some ⟨b, 0, none⟩)) /\ Blk w b 52 #[.string op, u] /\ IsEr w u e
theorem IsEr.up {w w' : World} (hu : Up w w') {v : Value} {e : Er} (h : IsEr w v e) : IsEr w' v e := by
 induction e generalizing v with
 | num n => exact h
 | nilf op => obtain ⟨b, h1, h2⟩ := h; exact ⟨b, h1, h2.up hu⟩
 | flt op e ih => obtain ⟨b, u, h1, h2, h3⟩ := h; exact ⟨b, u, h1, h2.up hu, ih h3⟩
theorem IsEr.iface {w : World} {v : Value} {e : Er} (h : IsEr w v e) : ∃ t u, v = .iface t u := by
 cases e with
 | num n => exact ⟨_, _, h⟩
 | nilf op => obtain ⟨b, h1, _⟩ := h; exact ⟨_, _, h1⟩
 | flt op e => obtain ⟨b, u, h1, _⟩ := h; exact ⟨_, _, h1⟩
def Er.has (n : Int) : Er -> Bool
 | .num m => m == n
 | .nilf _ => false
 | .flt _ e => e.has n
def Er.first : Er -> Option Int
 | .num m => some m
 | .nilf _ => none
 | .flt _ e => e.first
def Er.ops : Er -> List ByteArray
 | .num _ => []
 | .nilf op => [op]
 | .flt op e => op :: e.ops
theorem wrap_any {op : ByteArray} {v : Value} {e : Er} {w : World} (h : IsEr w v e) :
   Calls Tryd.prog 12 #[.string op, v] w fun r w' => ∃ u, r = .returned u /\ Up w w' /\ IsEr w' u (.flt op e) := by
 obtain ⟨t, u, rfl⟩ := h.iface
 have H := hid h
 clear h
 go_enter Tryd.func12, Tryd.ntmps12
 go_wp2
 go_ret
 exact ⟨_, rfl, Up.alloc _ _, _, _, rfl, Blk.new _ _ rfl, H.out.up (Up.alloc _ _)⟩
end Go.Proofs.YtjeibelhkokciaaDoor
namespace Go.Proofs.YtjeibelhkokciaaDoor
open Go Go.RowKit Go.Extern.Stop Go.Stop Go.Extern
set_option maxRecDepth 100000
theorem noUnN (v : Value) (xT : TypeId) (w : World) : (Instr.typeAssert (.iface 46 v) xT 84 true).run Tryd.prog w = .ok (.tuple #[.nilIface, .bool false]) w := run_typeAssert_lacksB Tryd.underlying84 (by kernel_rfl) (by kernel_rfl) v xT w
theorem noUsN (v : Value) (xT : TypeId) (w : World) : (Instr.typeAssert (.iface 46 v) xT 70 true).run Tryd.prog w = .ok (.tuple #[.nilIface, .bool false]) w := run_typeAssert_lacksB Tryd.underlying70 (by kernel_rfl) (by kernel_rfl) v xT w
theorem hasUnF (v : Value) (xT : TypeId) (w : World) : (Instr.typeAssert (.iface 50 v) xT 84 true).run Tryd.prog w = .ok (.tuple #[.iface 50 v, .bool true]) w := run_typeAssert_hasB Tryd.underlying84 (by kernel_rfl) v xT w
theorem unwrap_flt {b : Nat} {op : ByteArray} {u : Value} {w : World} (h : Blk w b 52 #[.string op, u]) :
   Calls Tryd.prog 46 #[.pointer (some ⟨b, 0, none⟩)] w fun r w' => r = .returned u /\ w' = w := by
 have hc := h.cell 1 rfl
 go_enter Tryd.func46, Tryd.ntmps46
 go_wp2
 go_ret
 exact ⟨rfl, rfl⟩
theorem mUnF (v : Value) (w : World) : (Go.method 214 50 v "Unwrap").run Tryd.prog w = .ok (46, v) w := by kernel_rfl
def Er.size : Er -> Nat
 | .num _ => 1
 | .nilf _ => 1
 | .flt _ e => e.size + 1
end Go.Proofs.YtjeibelhkokciaaDoor
namespace Go.Proofs.YtjeibelhkokciaaDoor
open Go Go.RowKit Go.Extern.Stop Go.Stop Go.Extern
set_option maxRecDepth 100000
theorem valueOfP (t : Addr) (w : World) : (ReflectliteValue.unpack (.iface 55 (.pointer (some t)))).run Tryd.prog w
   = .ok (.agg #[.pointer (some ⟨1, 55, none⟩), .pointer (some ⟨w.heap.size, 0, none⟩), .int .u64 150]) (w.alloc (.cells #[.pointer (some t)] 55)) := by kernel_rfl
theorem typeP (a : Addr) (w : World) : (ReflectliteValue.methodAny (ReflectliteValue.valueError "reflectlite.Value.Type" 0) (fun t _ _ _ => ReflectliteType.toType t) #[.agg #[.pointer (some ⟨1, 55, none⟩), .pointer (some a), .int .u64 150]]).run Tryd.prog w
   = .ok (.iface 76 (.agg #[.pointer (some ⟨1, 55, none⟩)])) w := by kernel_rfl
theorem mKind (h : Value) (w : World) : (Go.method 214 76 (.agg #[h]) "Kind").run Tryd.prog w = .ok (41, h) w := by kernel_rfl
theorem kindP (w : World) : ((ReflectliteType.abiMethod fun t => (fun a : Nat => Value.int IntKind.u8 (a : Int)) <$> Rtype.kind t) #[.pointer (some ⟨1, 55, none⟩)]).run Tryd.prog w = .ok (.int .u8 22) w := by kernel_rfl
theorem kindN (w : World) : ((ReflectliteType.abiMethod fun t => (fun a : Nat => Value.int IntKind.u8 (a : Int)) <$> Rtype.kind t) #[.pointer (some ⟨1, 46, none⟩)]).run Tryd.prog w = .ok (.int .u8 2) w := by kernel_rfl
theorem rlm (z : Sem Value) (f : TypeId -> Addr -> Nat -> Nat -> Sem Value) (v : Value) :
   ReflectliteValue.method z f #[v] = (do match <- ReflectliteValue.parts v with | none => z | some (t, a, fl) => f t a fl (fl % 32)) := rfl
theorem partsP (a : Addr) (w : World) : (ReflectliteValue.parts (.agg #[.pointer (some ⟨1, 55, none⟩), .pointer (some a), .int .u64 150])).run Tryd.prog w = .ok (some (55, a, 150)) w := by kernel_rfl
theorem isNilP (a p : Addr) (W : World) (ha : W.cell? a = some (.pointer (some p))) :
   (ReflectliteValue.method (ReflectliteValue.valueError "reflectlite.Value.IsNil" 0) ReflectliteValue.isNil #[.agg #[.pointer (some ⟨1, 55, none⟩), .pointer (some a), .int .u64 150]]).run Tryd.prog W = .ok (.bool false) W := by
 rw [rlm]
 simp only [Sem.run_bind, partsP, Result.andThen]
 simp [ReflectliteValue.isNil, loadVar, isAgg, underlying, Tryd.underlying55, ha, Result.andThen]
theorem mElem (h : Value) (w : World) : (Go.method 214 76 (.agg #[h]) "Elem").run Tryd.prog w = .ok (53, .agg #[h]) w := by kernel_rfl
theorem mImplements (h : Value) (w : World) : (Go.method 214 76 (.agg #[h]) "Implements").run Tryd.prog w = .ok (54, .agg #[h]) w := by kernel_rfl
theorem mAssignableTo (h : Value) (w : World) : (Go.method 214 76 (.agg #[h]) "AssignableTo").run Tryd.prog w = .ok (51, .agg #[h]) w := by kernel_rfl
theorem elemP (w : World) : (ReflectliteType.method ReflectliteType.elem #[.agg #[.pointer (some ⟨1, 55, none⟩)]]).run Tryd.prog w = .ok (.iface 76 (.agg #[.pointer (some ⟨1, 46, none⟩)])) w := by kernel_rfl
theorem implementsN (w : World) : (ReflectliteType.relation "Implements" ReflectliteType.implements_ #[.agg #[.pointer (some ⟨1, 46, none⟩)], .iface 76 (.agg #[.pointer (some ⟨1, 33, none⟩)])]).run Tryd.prog w = .ok (.bool true) w := by kernel_rfl
theorem typeOfN2 (v : Value) (w : World) : (ReflectliteType.typeOf #[.iface 46 v]).run Tryd.prog w = .ok (.iface 76 (.agg #[.pointer (some ⟨1, 46, none⟩)])) w := by kernel_rfl
theorem typeOfF (v : Value) (w : World) : (ReflectliteType.typeOf #[.iface 50 v]).run Tryd.prog w = .ok (.iface 76 (.agg #[.pointer (some ⟨1, 50, none⟩)])) w := by kernel_rfl
theorem assignN (w : World) : (ReflectliteType.relation "AssignableTo" ReflectliteType.assignableTo #[.agg #[.pointer (some ⟨1, 46, none⟩)], .iface 76 (.agg #[.pointer (some ⟨1, 46, none⟩)])]).run Tryd.prog w = .ok (.bool true) w := by kernel_rfl
theorem assignF (w : World) : (ReflectliteType.relation "AssignableTo" ReflectliteType.assignableTo #[.agg #[.pointer (some ⟨1, 50, none⟩)], .iface 76 (.agg #[.pointer (some ⟨1, 46, none⟩)])]).run Tryd.prog w = .ok (.bool false) w := by kernel_rfl
theorem valueOfN (n : Int) (w : World) : (ReflectliteValue.unpack (.iface 46 (.int .i64 n))).run Tryd.prog w
   = .ok (.agg #[.pointer (some ⟨1, 46, none⟩), .pointer (some ⟨w.heap.size, 0, none⟩), .int .u64 130]) (w.alloc (.cells #[.int .i64 n] 46)) := by kernel_rfl
theorem elemOfP (w : World) : (Rtype.elem? 55).run Tryd.prog w = .ok (some 46) w := by kernel_rfl
theorem mkN (p : Addr) (w : World) : (ReflectliteValue.mk 46 p ReflectliteValue.flagAddr).run Tryd.prog w = .ok (.agg #[.pointer (some ⟨1, 46, none⟩), .pointer (some p), .int .u64 386]) w := by kernel_rfl
theorem elemVP (a p : Addr) (W : World) (ha : W.cell? a = some (.pointer (some p))) :
   (ReflectliteValue.method (ReflectliteValue.valueError "reflectlite.Value.Elem" 0) ReflectliteValue.elem #[.agg #[.pointer (some ⟨1, 55, none⟩), .pointer (some a), .int .u64 150]]).run Tryd.prog W
    = .ok (.agg #[.pointer (some ⟨1, 46, none⟩), .pointer (some p), .int .u64 386]) W := by
 rw [rlm]
 simp only [Sem.run_bind, partsP, Result.andThen]
 simp [ReflectliteValue.elem, loadVar, isAgg, underlying, Tryd.underlying55, ha, Result.andThen, elemOfP, mkN]
theorem lt_of_cell {w : World} {a : Addr} {v : Value} (h : w.cell? a = some v) : a.block < w.heap.size := by
 rcases Nat.lt_or_ge a.block w.heap.size with h1 | h1
 ·exact h1
 ·simp [World.cell?, Array.getElem?_eq_none h1] at h
theorem rls (v x : Value) : ReflectliteValue.set #[v, x] = (do
   let (some (dst, a, fl), some (src, b, _)) := (<- ReflectliteValue.parts v, <- ReflectliteValue.parts x)
    | unsupported (.noEntry "extern/(internal/reflectlite.Value).Set.zeroValue")
   if fl / ReflectliteValue.flagAddr % 2 == 0 then unsupported (.noEntry "extern/(internal/reflectlite.Value).Set.unaddressable")
   let val <- loadVar src b
   if <- Rtype.directlyAssignable dst src then storeVar dst a val
   else if <- Rtype.implements dst src then
    if (<- Rtype.kind src) == 20 then
     match val with
     | .nilIface => unsupported (.noEntry "extern/reflectlite: a nil value of one interface type handed on as a value of another")
     | _ => storeVar dst a val
    else storeVar dst a (.iface src val)
   else panicString ("reflectlite.Set: value of type " ++ (<- Rtype.spelt src) ++ " is not assignable to type " ++ (<- Rtype.spelt dst))
   pure (.tuple #[])) := rfl
theorem partsNa (a : Addr) (w : World) : (ReflectliteValue.parts (.agg #[.pointer (some ⟨1, 46, none⟩), .pointer (some a), .int .u64 386])).run Tryd.prog w = .ok (some (46, a, 386)) w := by kernel_rfl
theorem partsN (a : Addr) (w : World) : (ReflectliteValue.parts (.agg #[.pointer (some ⟨1, 46, none⟩), .pointer (some a), .int .u64 130])).run Tryd.prog w = .ok (some (46, a, 130)) w := by kernel_rfl
theorem directN (w : World) : (Rtype.directlyAssignable 46 46).run Tryd.prog w = .ok true w := by kernel_rfl
theorem setN (ta b : Addr) (n : Int) (old : Value) (W : World) (hb : W.cell? b = some (.int .i64 n)) (ht : W.cell? ta = some old) (hf : W.frozen? ta = false) :
   (ReflectliteValue.set #[.agg #[.pointer (some ⟨1, 46, none⟩), .pointer (some ta), .int .u64 386], .agg #[.pointer (some ⟨1, 46, none⟩), .pointer (some b), .int .u64 130]]).run Tryd.prog W
    = .ok (.tuple #[]) (W.setCell ta (.int .i64 n)) := by
 rw [rls]
 simp only [Sem.run_bind, partsNa, partsN, Result.andThen]
 simp [ReflectliteValue.flagAddr, loadVar, isAgg, underlying, Tryd.underlying46, hb, Result.andThen, directN, storeVar, Value.cells, storeCells, Addr.add]
 rw [run_store Tryd.prog W ta _ _ (by rfl)]
 simp [ht, hf]
theorem noAsN (v : Value) (xT : TypeId) (w : World) : (Instr.typeAssert (.iface 46 v) xT 81 true).run Tryd.prog w = .ok (.tuple #[.nilIface, .bool false]) w := run_typeAssert_lacksB Tryd.underlying81 (by kernel_rfl) (by kernel_rfl) v xT w
theorem noAsF (v : Value) (xT : TypeId) (w : World) : (Instr.typeAssert (.iface 50 v) xT 81 true).run Tryd.prog w = .ok (.tuple #[.nilIface, .bool false]) w := run_typeAssert_lacksB Tryd.underlying81 (by kernel_rfl) (by kernel_rfl) v xT w
theorem undV0 : (match Tryd.prog.underlying 61 with | some (.struct _) => true | _ => false) = true := by kernel_rfl
theorem undV : ∃ fs, Tryd.prog.underlying 61 = some (.struct fs) := by
 have h := undV0
 cases hq : Tryd.prog.underlying 61 with
 | none => rw [hq] at h; simp at h
 | some d =>
   rw [hq] at h
   cases d <;> first | exact ⟨_, rfl⟩ | simp at h
theorem infoV : (Tryd.prog.info? 61).map (·.size) = some 3 := by kernel_rfl
theorem wpList_run {P : Program} {o : Oper} {a : Act} {w : World} {ops : Array Oper} {rest : List Oper} {Q : Exit -> Act -> World -> Prop} {v : Value} (hw : Region.wanted o (yielded ops a.tmps) = true) (hr : (execOp a.eval o).run P w = .ok (.value v) w)
   (h : wpList P ops Q rest (a.put o.dst v) w) : wpList P ops Q (o :: rest) a w := by
 refine wpList_step fun K hK => ?_
 rw [if_pos hw]
 unfold Oper.wp
 rw [hr]
 exact hK _ _ h
theorem ldV {ops : Array Oper} {rest : List Oper} {Q : Exit -> Act -> World -> Prop} {a : Act} {w : World} {d : Option Tmp} {s : Tmp} {ty : TypeId} {pos : String} {af : Array Edge} {gd : Option (Nat × Bool)} {g : Nat} {C : Array Value}
   (hw : Region.wanted { dst := d, op := .load 61 (.tmp s), type := ty, pos := pos, after := af, guard := gd } (yielded ops a.tmps) = true) (hx : a.eval (.tmp s) = .pointer (some ⟨g, 0, none⟩)) (hC : Blk w g 61 C) (h2 : C.size = 3)
   (h : wpList Tryd.prog ops Q rest (a.put d (.agg C)) w) : wpList Tryd.prog ops Q ({ dst := d, op := .load 61 (.tmp s), type := ty, pos := pos, after := af, guard := gd } :: rest) a w := by
 refine wpList_run hw ?_ h
 obtain ⟨fs, hu⟩ := undV
 unfold execOp
 simp only [hx, Instr.loadAt, Instr.sureAddr, Sem.run_bind, Sem.run_pure, Result.andThen_ok, run_loadVar_row w g _ 61 C (0, 0) _ hC hu rfl (by rw [infoV, h2])]
theorem Up.frozen {w w' : World} (hu : Up w w') {a : Addr} (h : a.block < w.heap.size) (hf : w.frozen? a = false) : w'.frozen? a = false := by
 rw [World.frozen?_of_block (hu.block a.block h)]; exact hf
theorem Up.cellEq {w w' : World} (hu : Up w w') {a : Addr} {v : Value} (h : w.cell? a = some v) : w'.cell? a = some v := by
 rw [World.cell?_of_block (hu.block a.block (lt_of_cell h))]; exact h
def Told (t : Addr) (w : World) (r : Ending) (w' : World) : Option Int -> Prop
 | none => r = .returned (.bool false) /\ Up w w'
 | some m => r = .returned (.bool true) /\ ∃ w1, Up w w1 /\ w' = w1.setCell t (.int .i64 m)
set_option maxHeartbeats 8000000 in
theorem as_sz (t p0 : Addr) (old : Value) (k : Nat) : ∀ (e : Er), e.size <= k -> ∀ (v : Value) (w : World), IsEr w v e -> w.cell? p0 = some (.pointer (some t)) -> w.cell? t = some old -> w.frozen? t = false ->
   Calls Tryd.prog 23 #[v, .iface 55 (.pointer (some t)), .agg #[.pointer (some ⟨1, 55, none⟩), .pointer (some p0), .int .u64 150], .iface 76 (.agg #[.pointer (some ⟨1, 46, none⟩)])] w fun r w' => Told t w r w' e.first := by
 induction k with
 | zero => intro e he; cases e <;> simp [Er.size] at he
 | succ k ih =>
   intro e he v w hE hp ht hf
   have h1 := noAsN
   have h2 := noAsF
   have h4 := noUnN
   have h5 := noUsN
   have h6 := hasUnF
   have h9 := mUnF
   have h31 := @run_callFunc_extern Tryd.prog 24 _ ReflectliteType.typeOf Tryd.func24 (by kernel_rfl) (by kernel_rfl) (by kernel_rfl) (by kernel_rfl)
   have h73 := @run_callFunc_extern Tryd.prog 51 _ (ReflectliteType.relation "AssignableTo" ReflectliteType.assignableTo) Tryd.func51 (by kernel_rfl) (by kernel_rfl) (by kernel_rfl) (by kernel_rfl)
   have h35 := @run_callFunc_extern Tryd.prog 25 _ (ReflectliteValue.method (ReflectliteValue.valueError "reflectlite.Value.Elem" 0) ReflectliteValue.elem) Tryd.func25 (by kernel_rfl) (by kernel_rfl) (by kernel_rfl) (by kernel_rfl)
   have h36 := @run_callFunc_extern Tryd.prog 26 _ ReflectliteValue.set Tryd.func26 (by kernel_rfl) (by kernel_rfl) (by kernel_rfl) (by kernel_rfl)
   have h25 := @run_callFunc_extern Tryd.prog 20 _ (fun args => ReflectliteValue.unpack (args.getD 0 (.tuple #[]))) Tryd.func20 (by kernel_rfl) (by kernel_rfl) (by kernel_rfl) (by kernel_rfl)
   have tN := typeOfN2
   have tF := typeOfF
   have aN := assignN
   have aF := assignF
   have mA := mAssignableTo
   have vN := valueOfN
   have IH := hid ih
   have hlp := lt_of_cell hp
   have hlt := lt_of_cell ht
   clear ih
   go_enter Tryd.func23, Tryd.ntmps23
   go_wp2_with fail
   obtain ⟨wb, hwb⟩ : ∃ wb, w.alloc (Obj.cells #[.pointer (some ⟨1, 55, none⟩), .pointer (some p0), .int .u64 150] 61) = wb := ⟨_, rfl⟩
   have hub : Up w wb := by rw [<- hwb]; exact Up.alloc _ _
   have hbox : Blk wb w.heap.size 61 #[.pointer (some ⟨1, 55, none⟩), .pointer (some p0), .int .u64 150] := by rw [<- hwb]; exact Blk.new _ _ rfl
   rw [hwb]
   clear hwb
   go_loopg [0] (k + 1) (fun g tv wr => ∃ x : Er, x.size <= g /\ x.size <= k + 1 /\ x.first = e.first /\ IsEr w tv x /\ wr = wb)
   case atStart => exact ⟨e, he, he, rfl, hE, rfl⟩
   case round =>
    obtain ⟨x, hx1, hx2, hx3, hX, hw0⟩ := hrel
    subst hw0
    have HX3 := hid hx3
    clear hx3 hE he
    cases x with
    | num m =>
      obtain rfl : _ = _ := hX
      have hq := hub.cellEq hp
      have el := elemVP p0 t wr hq
      have st := setN t ⟨wr.heap.size, 0, none⟩ m old (wr.alloc (.cells #[.int .i64 m] 46)) (by simp) ((hub.trans (Up.alloc _ _)).cellEq ht) ((hub.trans (Up.alloc _ _)).frozen hlt hf)
      have HF := hid (show e.first = some m from HX3.out.symm)
      clear hq
      go_wp2_with (first | ((with_reducible apply ldV); exact rfl; exact rfl; exact hbox; exact rfl))
      go_ret
      rw [HF.out]
      exact ⟨rfl, _, hub.trans (Up.alloc _ _), rfl⟩
    | nilf op =>
      obtain ⟨b, rfl, hB⟩ := hX
      have HU := hid (fun (w' : World) (h : Up wr w') => unwrap_flt ((hB.up hub).up h))
      have HF := hid (show e.first = none from HX3.out.symm)
      clear hB
      go_wp2_with (first | (go_at_call 46; (with_reducible refine (HU.out _ (Up.refl _)).mono ?_); rintro r w' ⟨rfl, rfl⟩))
      go_ret
      rw [HF.out]
      exact ⟨rfl, hub⟩
    | flt op y =>
      obtain ⟨b, u, rfl, hB, hY⟩ := hX
      obtain ⟨tu, uu, rfl⟩ := hY.iface
      have HU := hid (fun (w' : World) (h : Up wr w') => unwrap_flt ((hB.up hub).up h))
      have HY := hid hY
      have hs1 : y.size + 1 <= gk := hx1
      have hs2 : y.size + 1 <= k + 1 := hx2
      have HH := hid (show y.first = e.first from HX3.out)
      clear hY hB
      go_wp2_with (first | (go_at_call 46; (with_reducible refine (HU.out _ (Up.refl _)).mono ?_); rintro r w' ⟨rfl, rfl⟩))
      go_roundg (gk - 1)
      case measure => omega
      case rel => exact ⟨y, by omega, by omega, HH.out, HY.out, rfl⟩
end Go.Proofs.YtjeibelhkokciaaDoor
namespace Go.Proofs.YtjeibelhkokciaaDoor
open Go Go.RowKit
set_option maxRecDepth 100000
theorem idle_out (w : World) : CallsD Tryd.prog 18 #[] .returning w fun e u' w' => e = .returned (.tuple #[]) /\ u' = .returning /\ w' = w := by
 refine callsD_of_wpS Tryd.func18 rfl fun c₀ cs hu => ?_
 apply wpS_region
 simp [wpOpsS, go_sem, recoverD, hu, Tryd.ntmps18, bodyPostS, results, Tryd.results18]
 cases c₀
 simp_all
end Go.Proofs.YtjeibelhkokciaaDoor
namespace Go.Proofs.YtjeibelhkokciaaDoor
open Go Go.RowKit Go.Extern.Stop Go.Stop Go.Extern
set_option maxRecDepth 100000
def Glob (w : World) : Prop := w.cell? ⟨0, 0, none⟩ = some (.iface 76 (.agg #[.pointer (some ⟨1, 33, none⟩)]))
set_option maxHeartbeats 4000000 in
theorem as_any {e : Er} {v : Value} {w : World} (t : Addr) (old : Value) (h : IsEr w v e) (hg : Glob w) (ht : w.cell? t = some old) (hf : w.frozen? t = false) :
   Calls Tryd.prog 17 #[v, .iface 55 (.pointer (some t))] w fun r w' => Told t w r w' e.first := by
 obtain ⟨t1, v1, rfl⟩ := h.iface
 obtain ⟨o, ho⟩ : ∃ o, e.first = o := ⟨_, rfl⟩
 rw [ho]
 have h25 := @run_callFunc_extern Tryd.prog 20 _ (fun args => ReflectliteValue.unpack (args.getD 0 (.tuple #[]))) Tryd.func20 (by kernel_rfl) (by kernel_rfl) (by kernel_rfl) (by kernel_rfl)
 have h26 := @run_callFunc_extern Tryd.prog 21 _ (ReflectliteValue.methodAny (ReflectliteValue.valueError "reflectlite.Value.Type" 0) (fun t _ _ _ => ReflectliteType.toType t)) Tryd.func21 (by kernel_rfl) (by kernel_rfl) (by kernel_rfl) (by kernel_rfl)
 have h27 := @run_callFunc_extern Tryd.prog 22 _ (ReflectliteValue.method (ReflectliteValue.valueError "reflectlite.Value.IsNil" 0) ReflectliteValue.isNil) Tryd.func22 (by kernel_rfl) (by kernel_rfl) (by kernel_rfl) (by kernel_rfl)
 have h63 := @run_callFunc_extern Tryd.prog 41 _ (ReflectliteType.abiMethod fun t => do pure (.int .u8 (<- Rtype.kind t))) Tryd.func41 (by kernel_rfl) (by kernel_rfl) (by kernel_rfl) (by kernel_rfl)
 have h75 := @run_callFunc_extern Tryd.prog 53 _ (ReflectliteType.method ReflectliteType.elem) Tryd.func53 (by kernel_rfl) (by kernel_rfl) (by kernel_rfl) (by kernel_rfl)
 have h76 := @run_callFunc_extern Tryd.prog 54 _ (ReflectliteType.relation "Implements" ReflectliteType.implements_) Tryd.func54 (by kernel_rfl) (by kernel_rfl) (by kernel_rfl) (by kernel_rfl)
 have f25 := valueOfP
 have f26 := typeP
 have mK := mKind
 have kP := kindP
 have kN := kindN
 have mE := mElem
 have eP := elemP
 have mI := mImplements
 have iN := implementsN
 obtain ⟨w1, hw1⟩ : ∃ w1, (w.alloc (.cells #[.pointer (some t)] 55)).alloc (.cells #[.pointer (some ⟨1, 55, none⟩), .pointer (some ⟨w.heap.size, 0, none⟩), .int .u64 150] 61) = w1 := ⟨_, rfl⟩
 have hu1 : Up w w1 := by rw [<- hw1]; exact (Up.alloc _ _).trans (Up.alloc _ _)
 have hp1 : w1.cell? ⟨w.heap.size, 0, none⟩ = some (.pointer (some t)) := by rw [<- hw1]; simp
 have n27 := isNilP ⟨w.heap.size, 0, none⟩ t w1 hp1
 have hg1 : w1.cell? ⟨0, 0, none⟩ = some (.iface 76 (.agg #[.pointer (some ⟨1, 33, none⟩)])) := hu1.cellEq hg
 have HS := hid (as_sz t ⟨w.heap.size, 0, none⟩ old e.size e (Nat.le_refl _) _ w1 (h.up hu1) hp1 (hu1.cellEq ht) (hu1.frozen (lt_of_cell ht) hf))
 rw [ho] at HS
 rw [<- hw1] at n27 hg1
 have HW := hid hw1
 clear hw1 h hg ht hf hp1 ho
 go_enter Tryd.func17, Tryd.ntmps17
 cases o with
 | none =>
   go_wp2_with fail
   rw [HW.out]
   refine HS.out.mono ?_
   rintro r wF ⟨rfl, hu⟩
   go_wp2_with fail
   go_ret
   exact ⟨rfl, hu1.trans hu⟩
 | some m =>
   go_wp2_with fail
   rw [HW.out]
   refine HS.out.mono ?_
   rintro r wF ⟨rfl, wX, hu, rfl⟩
   go_wp2_with fail
   go_ret
   exact ⟨rfl, wX, hu1.trans hu, rfl⟩
theorem idle_code (p : Addr) (w : World) : CallsD Tryd.prog 16 #[.pointer (some p)] .returning w fun e u' w' => e = .returned (.tuple #[]) /\ u' = .returning /\ w' = w := by
 refine callsD_of_wpS Tryd.func16 rfl fun c₀ cs hu => ?_
 apply wpS_seq
 apply wpS_region
 simp [wpOpsS, go_sem, recoverD, hu, Tryd.ntmps16, Exit.thenS]
 refine wpS_cond (t := false) (by simp [Act.eval, Array.replicate]) ?_
 simp only [Bool.false_eq_true, if_false]
 refine wpS_of_wp (wp_skip ?_)
 cases c₀
 simp_all [bodyPostS, results, Tryd.results16]
theorem Blk.set {w : World} {b : Nat} {t : TypeId} {C : Array Value} (h : Blk w b t C) (i : Nat) (v : Value) : Blk (w.setCell ⟨b, i, none⟩ v) b t (C.setIfInBounds i v) := by
 exact heap_setCell_same _ _ _ _ _ _ h
theorem code_any {e : Er} {v : Value} {w : World} (h : IsEr w v e) (hg : Glob w) :
   Calls Tryd.prog 14 #[v] w fun r w' => r = .returned (.int .i64 (e.first.getD 36)) /\ Up w w' := by
 obtain ⟨t1, v1, rfl⟩ := h.iface
 have hmf : ∀ (fn : Fn) (first cap : Array Value) (w : World), (Instr.makeFunc fn first cap).run Tryd.prog w = .ok (.func fn first cap) w := fun _ _ _ _ => rfl
 have hu0 : Up w (w.alloc (.cells #[.int .i64 0] 46)) := Up.alloc _ _
 have hB0 : Blk (w.alloc (.cells #[.int .i64 0] 46)) w.heap.size 46 #[.int .i64 0] := Blk.new _ _ rfl
 have HA := hid (as_any ⟨w.heap.size, 0, none⟩ (.int .i64 0) (h.up hu0) (hu0.cellEq hg) (by simp) (by simp))
 obtain ⟨o, ho⟩ : ∃ o, e.first = o := ⟨_, rfl⟩
 rw [ho] at HA ⊢
 clear ho h hg
 cases o with
 | none =>
   go_enter_defers Tryd.func14, Tryd.ntmps14
   go_wp2_with (first | (go_at_call 17; (with_reducible refine (HA.out).mono ?_); rintro r wA ⟨rfl, huA⟩; have hBA := hB0.up huA; have hcA := hBA.cell 0 rfl; have hfA := hBA.frozen 0))
   have hBF := hBA.set 0 (.int .i64 36)
   have hcF := hBF.cell 0 rfl
   have huF := (hu0.trans huA).setCell (p := ⟨w.heap.size, 0, none⟩) (Nat.le_refl _) (.int .i64 36)
   refine leaves_cons (f := 16) (args := #[.pointer (some ⟨w.heap.size, 0, none⟩)]) (by simp) (by simp [go_sem]) ?_
   refine (idle_code _ _).mono ?_
   rintro e u' w'' ⟨rfl, rfl, rfl⟩
   simp [Leaves, settle, results, Tryd.results14, go_sem, hcF]
   exact huF
 | some m =>
   go_enter_defers Tryd.func14, Tryd.ntmps14
   go_wp2_with (first | (go_at_call 17; (with_reducible refine (HA.out).mono ?_); rintro r wA ⟨rfl, wX, huA, rfl⟩; have hBX := (hB0.up huA).set 0 (.int .i64 m); have hcX := hBX.cell 0 rfl; have hfX := hBX.frozen 0))
   have hBF := hBX.set 0 (.int .i64 m)
   have hcF := hBF.cell 0 rfl
   have huF := ((hu0.trans huA).setCell (p := ⟨w.heap.size, 0, none⟩) (Nat.le_refl _) (.int .i64 m)).setCell (p := ⟨w.heap.size, 0, none⟩) (Nat.le_refl _) (.int .i64 m)
   refine leaves_cons (f := 16) (args := #[.pointer (some ⟨w.heap.size, 0, none⟩)]) (by simp) (by simp [go_sem]) ?_
   refine (idle_code _ _).mono ?_
   rintro e u' w'' ⟨rfl, rfl, rfl⟩
   simp [Leaves, settle, results, Tryd.results14, go_sem, hcF]
   exact huF
end Go.Proofs.YtjeibelhkokciaaDoor
namespace Go.Proofs.YtjeibelhkokciaaDoor
open Go Go.RowKit
set_option maxRecDepth 100000
theorem noSevN (v : Value) (xT : TypeId) (w : World) : (Instr.typeAssert (.iface 46 v) xT 71 true).run Tryd.prog w = .ok (.tuple #[.nilIface, .bool false]) w := run_typeAssert_lacksB Tryd.underlying71 (by kernel_rfl) (by kernel_rfl) v xT w
theorem isF (v : Value) (w : World) : (Instr.typeAssert (.iface 50 v) 33 50 true).run Tryd.prog w = .ok (.tuple #[v, .bool true]) w := by kernel_rfl
theorem notFN (v : Value) (w : World) : (Instr.typeAssert (.iface 46 v) 33 50 true).run Tryd.prog w = .ok (.tuple #[.pointer none, .bool false]) w := by kernel_rfl
theorem first_num (n : Int) (w : World) : Calls Tryd.prog 19 #[.iface 46 (.int .i64 n)] w fun r w' => r = .returned .nilIface /\ w' = w := by
 have h1 := noSevN
 go_enter Tryd.func19, Tryd.ntmps19
 go_wp2
 go_ret
 exact ⟨rfl, rfl⟩
def Out (w : World) (p : Value) : List ByteArray -> Prop
 | [] => p = .pointer none
 | op :: l => ∃ b u, p = .pointer (some ⟨b, 0, none⟩) /\ Blk w b 52 #[.string op, u] /\ ((u = .nilIface /\ l = []) \/ ∃ e, IsEr w u e /\ e.ops = l)
set_option maxHeartbeats 4000000 in
theorem out_any {e : Er} {v : Value} {w0 w : World} (h : IsEr w0 v e) (_hu0 : Up w0 w) :
   Calls Tryd.prog 15 #[v] w fun r w' => ∃ p, r = .returned p /\ Up w w' /\ Out w0 p e.ops := by
 obtain ⟨l, hl⟩ : ∃ l, e.ops = l := ⟨_, rfl⟩
 have HL := hid hl
 rw [hl]
 clear hl
 go_enter_defers Tryd.func15, Tryd.ntmps15
 go_wp2_with fail
 go_loopg [0] (e.size + 1) (fun g tv wr => ((tv = .nilIface /\ l = []) \/ (∃ t u x, tv = .iface t u /\ Er.size x + 1 <= g /\ x.ops = l /\ IsEr w0 (.iface t u) x)) /\ Up w wr)
 case atStart =>
  obtain ⟨t, u, rfl⟩ := h.iface
  exact ⟨.inr ⟨t, u, e, rfl, Nat.le_refl _, HL.out, h⟩, Up.refl _⟩
 case round =>
  clear HL h
  obtain ⟨h1 | ⟨t, u, x, rfl, hx, hxl, hX⟩, hu⟩ := hrel
  ·obtain ⟨rfl, rfl⟩ := h1
   go_wp2_with fail
   refine leaves_cons (f := 18) (args := #[]) (by simp) (by simp [go_sem]) ?_
   refine (idle_out _).mono ?_
   rintro e u' w'' ⟨rfl, rfl, rfl⟩
   exact ⟨_, results_tmp rfl _ _ _, _, rfl, hu, (by simp [Out])⟩
  ·have hF := isF
   have hN := notFN
   cases x with
   | num n =>
     obtain ⟨rfl, rfl⟩ : t = _ /\ u = _ := by simpa [IsEr] using hX
     have hnil : [] = l := hxl
     subst hnil
     go_wp2_with (first | (go_at_call 19; (with_reducible refine (first_num _ _).mono ?_); rintro r w' ⟨rfl, rfl⟩))
     go_roundg 0
     case measure => omega
     case rel => exact ⟨.inl (by simp), hu⟩
   | nilf op =>
     obtain ⟨b, hv, hB⟩ := hX
     obtain ⟨rfl, rfl⟩ : t = _ /\ u = _ := by simpa using hv
     have hl : [op] = l := hxl
     have HL := hid hl
     clear hl hxl hv
     go_wp2_with fail
     refine leaves_cons (f := 18) (args := #[]) (by simp) (by simp [go_sem]) ?_
     refine (idle_out _).mono ?_
     rintro e u' w'' ⟨rfl, rfl, rfl⟩
     exact ⟨_, results_tmp rfl _ _ _, _, rfl, hu, HL.out ▸ ⟨b, .nilIface, rfl, hB, .inl ⟨rfl, rfl⟩⟩⟩
   | flt op y =>
     obtain ⟨b, uu, hv, hB, hY⟩ := hX
     obtain ⟨rfl, rfl⟩ : t = _ /\ u = _ := by simpa using hv
     have hl : op :: y.ops = l := hxl
     have HL := hid hl
     have HY := hid hY
     clear hl hxl hv hY
     go_wp2_with fail
     refine leaves_cons (f := 18) (args := #[]) (by simp) (by simp [go_sem]) ?_
     refine (idle_out _).mono ?_
     rintro e u' w'' ⟨rfl, rfl, rfl⟩
     exact ⟨_, results_tmp rfl _ _ _, _, rfl, hu, HL.out ▸ ⟨b, uu, rfl, hB, .inr ⟨y, HY.out, rfl⟩⟩⟩
theorem out_nil (w : World) :
   Calls Tryd.prog 15 #[.nilIface] w fun r w' => r = .returned (.pointer none) /\ Up w w' := by
 go_enter_defers Tryd.func15, Tryd.ntmps15
 go_wp2_with fail
 refine wp_loop_rounds 1 ?_
 rw [rounds_succ]
 go_wp2_with fail
 refine leaves_cons (f := 18) (args := #[]) (by simp) (by simp [go_sem]) ?_
 refine (idle_out _).mono ?_
 rintro e u' w'' ⟨rfl, rfl, rfl⟩
 exact ⟨_, results_tmp rfl _ _ _, rfl, Up.refl _⟩
theorem undSS : Tryd.prog.underlying 47 = some (.slice 9) := by kernel_rfl
theorem infoStr : (Tryd.prog.info? 9).map (fun i => (i.zero, i.size, i.bytes)) = some (some (.string { data := #[] }), 1, 16) := by kernel_rfl
theorem appSP {ops : Array Oper} {rest : List Oper} {Q : Exit -> Act -> World -> Prop} {a : Act} {w : World} {d : Option Tmp} {s u : Tmp} {ty : TypeId} {pos : String} {af : Array Edge} {b n base : Nat} {v : Value} {xs : List Value} {op : ByteArray}
   (hs : a.eval (.tmp s) = v) (hu : a.eval (.tmp u) = .slice (some ⟨b, 0, none⟩) 1 1) (hB : w.cell? ⟨b, 0, none⟩ = some (.string op)) (hown : w.ownsRow base 9 1 v n xs) (hbase : base <= w.heap.size) (hn : n < 1000000)
   (h : ∀ v' w', w'.ownsRow base 9 1 v' (n + 1) (xs ++ [.string op]) -> Below base w w' -> wpList Tryd.prog ops Q rest (a.put d v') w') :
   wpList Tryd.prog ops Q ({ dst := d, op := .call { callee := .builtin .append, args := #[.tmp s, .tmp u], argTypes := #[47, 47] }, type := ty, pos := pos, after := af, guard := none } :: rest) a w := by
 obtain ⟨i0, hi0, he⟩ := Option.map_eq_some_iff.1 infoStr
 simp only [Prod.mk.injEq] at he
 have hlt := hown.lt
 refine wpList_append_own w rfl _ _ 47 rfl base 9 i0 (.string { data := #[] }) 1 16 undSS hi0 he.1 he.2.1 he.2.2 rfl (by decide) v n xs hs hown ⟨b, 0, none⟩ 1 1 [.string op] hu rfl ?_ ?_ (by unfold maxLen; omega) (by omega) hbase ?_
 ·intro j x hj
  cases j with
  | zero => simp only [List.getElem?_cons_zero, Option.some.injEq] at hj; subst hj; exact hB
  | succ j => simp at hj
 ·intro x hx; simp at hx; subst hx; rfl
 ·intro v' w' h1 h2 _
  refine h v' w' h1 ⟨h2.os, h2.tape, h2.output, h2.size, fun k hk => h2.block k (by omega) ?_⟩
  intro e
  have := hlt k e.symm
  omega
theorem _root_.Go.World.ownsRow.up {w w' : World} {base : Nat} {e : TypeId} {size : Nat} {v : Value} {n : Nat} {xs : List Value} (h : w.ownsRow base e size v n xs) (hu : Up w w') : w'.ownsRow base e size v n xs := by
 refine ⟨h.1, ?_⟩
 rcases h.2 with h2 | ⟨g, cap, cur, h1, h2, h3, h4⟩
 ·exact .inl h2
 ·exact .inr ⟨g, cap, cur, h1, h2, hu.row h3, h4⟩
set_option maxHeartbeats 4000000 in
theorem ops_any {e : Er} {v : Value} {w : World} (h : IsEr w v e) (hn : e.ops.length < 1000000) :
   Calls Tryd.prog 13 #[v] w fun r w' => ∃ s, r = .returned s /\ Up w w' /\ w'.ownsRow w.heap.size 9 1 s e.ops.length (e.ops.map Value.string) := by
 have HO := hid (fun w' (hu : Up w w') => out_any h hu)
 obtain ⟨l, hl⟩ : ∃ l, e.ops = l := ⟨_, rfl⟩
 rw [hl] at HO hn ⊢
 clear h hl
 go_enter Tryd.func13, Tryd.ntmps13
 go_wp2_with (first | (go_at_call 15; (with_reducible refine (HO.out _ (Up.refl _)).mono ?_); rintro r wA ⟨p, rfl, huA, hA⟩))
 go_loopg [3, 4] l.length (fun k ts tp wr => ∃ d r : List ByteArray, d ++ r = l /\ r.length <= k /\ wr.ownsRow w.heap.size 9 1 ts d.length (d.map Value.string) /\ Out w tp r /\ Up w wr)
 case atStart => exact ⟨[], l, rfl, Nat.le_refl _, World.ownsRow_nil _ _ _ _, hA, huA⟩
 case round =>
  clear hA huA
  obtain ⟨d, r, hdr, hrk, hown, hO, hu⟩ := hrel
  cases r with
  | nil =>
    simp only [Out] at hO
    subst hO
    rw [List.append_nil] at hdr
    subst hdr
    have HW := hid hown
    clear hown
    go_wp2_with fail
    go_ret
    exact ⟨_, rfl, hu, HW.out⟩
  | cons op r =>
    obtain ⟨b, u, rfl, hB, h3⟩ := hO
    have hsz := hu.size
    have hc0 := (hB.up hu).cell 0 rfl
    have hdl : d.length + (r.length + 1) = l.length := by rw [<- hdr]; simp
    have hr1 : r.length + 1 <= gk := hrk
    have HDR := hid (show (d ++ [op]) ++ r = l by rw [<- hdr]; simp)
    clear hdr hrk
    rcases h3 with ⟨rfl, rfl⟩ | ⟨x, hx, rfl⟩
    ·go_wp2_with (first | ((with_reducible apply appSP (op := op)); exact rfl; exact rfl; (focus (simp; done)); exact hown.alloc _; (focus (simp; omega)); omega; rintro v' w' h1 h2; have hu2 : Up w w' := Below.trans (hu.trans (Up.alloc _ _)) h2; have hc1 := (hB.up hu2).cell 1 rfl) | (go_at_call 15; (with_reducible refine (out_nil _).mono ?_); rintro r wB ⟨rfl, huB⟩))
     go_roundg 0
     case measure => omega
     case rel => exact ⟨d ++ [op], [], HDR.out, Nat.le_refl _, by simpa using h1.up huB, rfl, hu2.trans huB⟩
    ·have HO2 := hid (fun w' (hu : Up w w') => out_any hx hu)
     go_wp2_with (first | ((with_reducible apply appSP (op := op)); exact rfl; exact rfl; (focus (simp; done)); exact hown.alloc _; (focus (simp; omega)); omega; rintro v' w' h1 h2; have hu2 : Up w w' := Below.trans (hu.trans (Up.alloc _ _)) h2; have hc1 := (hB.up hu2).cell 1 rfl) | (go_at_call 15; (with_reducible refine (HO2.out _ hu2).mono ?_); rintro r wB ⟨p, rfl, huB, hOB⟩))
     go_roundg x.ops.length
     case measure => omega
     case rel => exact ⟨d ++ [op], x.ops, HDR.out, Nat.le_refl _, by simpa using h1.up huB, hOB, hu2.trans huB⟩
theorem globUp {w w' : World} (h : Glob w) (hu : Up w w') : Glob w' := hu.cellEq h
theorem ownOne {w : World} {base : Nat} {t : TypeId} {s x : Value} (h : w.ownsRow base t 1 s 1 [x]) : ∃ g cap C, s = .slice (some ⟨g, 0, none⟩) 1 cap /\ Blk w g t C /\ C[0]? = some x := by
 obtain ⟨_, h0 | ⟨g, cap, cur, rfl, _, hb, _, _, hsz, htake⟩⟩ := h
 ·exact absurd h0.2 (by decide)
 ·refine ⟨g, cap, cur, rfl, hb, ?_⟩
  rw [<- Array.getElem?_toList, <- List.getElem?_take_of_lt (show 0 < 1 * 1 by decide), htake]; rfl
def ErrsG (B : ByteArray) (w : World) (u : Value) (e : Int) : Prop := (e = 0 /\ u = .nilIface) \/ (e ≠ 0 /\ ∃ t x, u = .iface t x /\ IsEr w u (.flt B (.num e)))
theorem ErrsG.up {B : ByteArray} {w w' : World} (hu : Up w w') {u : Value} {e : Int} (h : ErrsG B w u e) : ErrsG B w' u e := by
 rcases h with h | ⟨h1, t, x, h2, h3⟩
 ·exact .inl h
 ·exact .inr ⟨h1, t, x, h2, h3.up hu⟩
theorem ErrsG.none (B : ByteArray) (w : World) : ErrsG B w .nilIface 0 := .inl ⟨rfl, rfl⟩
def clockB : ByteArray := ⟨#[99, 108, 111, 99, 107]⟩
def Clk (w : World) (g : Nat) (on : Bool) (t : Int) : Prop := Blk w g 44 #[.int .u32 t, .bool on]
theorem ck_gset (w : World) (g k : Nat) (v : Value) : w.grownBy (w.setCell ⟨g, k, none⟩ v) (some g) :=
 ⟨rfl, rfl, rfl, by simp [World.setCell], fun i hi hn => Below.heap_setCell _ _ _ _ fun e => hn (congrArg some e)⟩
theorem ck_gtrans {a b c : World} {r : Option Nat} (h : a.grownBy b r) (k : b.grownBy c r) : a.grownBy c r :=
 ⟨k.os.trans h.os, k.tape.trans h.tape, k.output.trans h.output, Nat.le_trans h.size k.size, fun i hi hn => (k.block i (Nat.lt_of_lt_of_le hi h.size) hn).trans (h.block i hi hn)⟩
theorem ck_gup {a b : World} (r : Option Nat) (k : Up a b) : a.grownBy b r := ⟨k.os, k.tape, k.output, k.size, fun i hi _ => k.block i hi⟩
theorem ck_below {a b c : World} {B g : Nat} (h : Below B a b) (k : b.grownBy c (some g)) (hB : B <= b.heap.size) (hg : B <= g) : Below B a c := Below.grown h k hB fun j e => by injection e with e; omega
def dlt (x t : Int) : Int := (x - t) % 4294967296
def old (on : Bool) (x t : Int) : Bool := on && decide (2147483648 <= dlt x t)
def tkV (on : Bool) (x t : Int) : Int := if old on x t then 0 else if on then dlt x t else 0
def tkN (on : Bool) (x t : Int) : Int := if old on x t then 28 else 0
def tkT (on : Bool) (x t : Int) : Int := if old on x t then t else x
theorem new_ck (w : World) : Calls Tryd.prog 6 #[] w fun e w' => e = .returned (.pointer (some ⟨w.heap.size, 0, none⟩)) /\ Clk w' w.heap.size false 0 /\ Up w w' := by
 go_enter Tryd.func6, Tryd.ntmps6
 go_wp2
 go_ret
 exact ⟨rfl, Blk.new _ _ rfl, Up.alloc _ _⟩
theorem last_ck {w : World} {g : Nat} {on : Bool} {t : Int} (h : Clk w g on t) : Calls Tryd.prog 10 #[.pointer (some ⟨g, 0, none⟩)] w fun e w' => e = .returned (.tuple #[.int .u32 t, .bool on]) /\ Up w w' := by
 have hc0 : w.cell? ⟨g, 0, none⟩ = some (.int .u32 t) := h.cell 0 rfl
 have hc1 : w.cell? ⟨g, 1, none⟩ = some (.bool on) := h.cell 1 rfl
 clear h
 go_enter Tryd.func10, Tryd.ntmps10
 go_wp2
 go_region
 go_wp2
 go_ret2
 exact ⟨rfl, Up.drew _⟩
set_option maxHeartbeats 1000000 in
theorem take_ck {w : World} {g : Nat} {on : Bool} {t x : Int} (h : Clk w g on t) :
   Calls Tryd.prog 8 #[.pointer (some ⟨g, 0, none⟩), .int .u32 x] w fun e w' => ∃ u, e = .returned (.tuple #[.int .u32 (tkV on x t), u]) /\ ErrsG clockB w' u (tkN on x t) /\ Clk w' g true (tkT on x t) /\ w.grownBy w' (some g) := by
 have hc0 : w.cell? ⟨g, 0, none⟩ = some (.int .u32 t) := h.cell 0 rfl
 have hc1 : w.cell? ⟨g, 1, none⟩ = some (.bool on) := h.cell 1 rfl
 have hf0 := h.frozen 0
 have hf1 := h.frozen 1
 have e1 : IntKind.u32.wrap (x - t) = dlt x t := by rw [IntKind.wrap_u32]; rfl
 have b1 : 0 <= dlt x t /\ dlt x t < 4294967296 := by unfold dlt; omega
 have H := hid h
 have k2 : w.grownBy ((w.setCell ⟨g, 0, none⟩ (.int .u32 x)).setCell ⟨g, 1, none⟩ (.bool true)) (some g) := ck_gtrans (ck_gset _ _ _ _) (ck_gset _ _ _ _)
 have k3 : Clk ((w.setCell ⟨g, 0, none⟩ (.int .u32 x)).setCell ⟨g, 1, none⟩ (.bool true)) g true x := Blk.set (Blk.set h 0 _) 1 _
 have k4 : w.grownBy (w.setCell ⟨g, 0, none⟩ (.int .u32 x)) (some g) := ck_gset _ _ _ _
 have k5 : Clk (w.setCell ⟨g, 0, none⟩ (.int .u32 x)) g on x := Blk.set h 0 _
 cases on
 ·have K2 := hid k2
  have K3 := hid k3
  clear h k2 k3 k4 k5
  go_enter Tryd.func8, Tryd.ntmps8
  go_wp2
  go_ret2
  exact ⟨_, rfl, ErrsG.none _ _, K3.out, K2.out⟩
 ·obtain ⟨d, hd⟩ : ∃ d, dlt x t = d := ⟨_, rfl⟩
  rw [hd] at e1 b1
  obtain ⟨p, hp⟩ : ∃ p, decide (2147483648 <= d) = p := ⟨_, rfl⟩
  have e2 : decide (wrap32 d < 0) = p := by
   rw [<- hp]; unfold wrap32
   apply decide_eq_decide.2
   omega
  have hold : old true x t = p := by unfold old; rw [hd, hp]; rfl
  have H2 := hid h
  have K4 := hid k4
  have K5 := hid k5
  have HE := hid (fun w => wrap_any (op := { data := #[99, 108, 111, 99, 107] }) (v := .iface 46 (.int .i64 28)) (e := .num 28) (w := w) rfl)
  clear h k2 k3 k4 k5 b1
  unfold tkV tkN tkT
  rw [hold, hd]
  clear hold hd hp
  cases p
  ·go_enter Tryd.func8, Tryd.ntmps8
   go_wp2
   go_ret2
   exact ⟨_, rfl, ErrsG.none _ _, K5.out, K4.out⟩
  ·go_enter Tryd.func8, Tryd.ntmps8
   go_wp2_with (first | (go_at_call 12; (with_reducible refine (HE.out _).mono ?_); rintro r w1 ⟨u1, rfl, hu1, h1⟩))
   go_ret2
   obtain ⟨t', u, rfl⟩ := h1.iface
   exact ⟨_, rfl, .inr ⟨by decide, _, _, rfl, h1⟩, H2.out.up hu1, ck_gup _ hu1⟩
theorem says14_any {u : Value} {e : Int} {w : World} (h : ErrsG clockB w u e) (hg : Glob w) :
   Calls Tryd.prog 11 #[u, .int .i64 e] w fun r w' => r = .returned (.bool true) /\ Up w w' := by
 rcases h with ⟨rfl, rfl⟩ | ⟨h0, t, x, rfl, hE⟩
 ·go_enter Tryd.func11, Tryd.ntmps11
  go_wp2_with fail
  go_ret
  exact ⟨rfl, Up.refl _⟩
 ·have d : (e == 0) = false := by simpa using h0
  have HO := hid (fun w' (hu : Up w w') => ops_any (hE.up hu) (show 1 < 1000000 by decide))
  have HC := hid (fun w' (hu : Up w w') => code_any (hE.up hu) (globUp hg hu))
  have de : (e == e) = true := by simp
  have dB : (clockB.toList == [99, 108, 111, 99, 107]) = true := by rw [show clockB.toList = [99, 108, 111, 99, 107] from by rw [ByteArray.toList_eq]; rfl]; rfl
  clear hE hg h0
  go_enter Tryd.func11, Tryd.ntmps11
  go_wp2_with (first
   | (go_at_call 13; (with_reducible refine (HO.out _ (Up.refl _)).mono ?_); rintro r w1 ⟨s, rfl, hu1, hs⟩; obtain ⟨g, cap, C, rfl, hB, h0⟩ := ownOne hs)
   | (go_at_call 14; (with_reducible refine (HC.out _ hu1).mono ?_); rintro r w2 ⟨rfl, hu2⟩; have hc := (hB.up hu2).cell 0 h0; have de2 : ((Er.flt clockB (.num e)).first.getD 36 == e) = true := by (show (e == e) = true; simp)))
  go_ret
  exact ⟨rfl, hu1.trans hu2⟩
theorem tk_first (x t : Int) : tkV false x t = 0 /\ tkN false x t = 0 /\ tkT false x t = x := ⟨rfl, rfl, rfl⟩
theorem tk_new {x t : Int} (h : dlt x t < 2147483648) : tkV true x t = dlt x t /\ tkN true x t = 0 /\ tkT true x t = x := by
 have o : old true x t = false := by unfold old; rw [Bool.true_and]; exact decide_eq_false (by omega)
 unfold tkV tkN tkT
 rw [o]
 exact ⟨rfl, rfl, rfl⟩
theorem tk_old {x t : Int} (h : 2147483648 <= dlt x t) : tkV true x t = 0 /\ tkN true x t = 28 /\ tkT true x t = t := by
 have o : old true x t = true := by unfold old; rw [Bool.true_and]; exact decide_eq_true h
 unfold tkV tkN tkT
 rw [o]
 exact ⟨rfl, rfl, rfl⟩
theorem take_first {w : World} {g : Nat} {t : Int} (x : Int) (h : Clk w g false t) :
   Calls Tryd.prog 8 #[.pointer (some ⟨g, 0, none⟩), .int .u32 x] w fun e w' => e = .returned (.tuple #[.int .u32 0, .nilIface]) /\ Clk w' g true x /\ w.grownBy w' (some g) := by
 refine (take_ck (x := x) h).mono ?_
 rintro e w' ⟨u, rfl, he, h1, h2⟩
 obtain ⟨e1, e2, e3⟩ := tk_first x t
 rw [e2] at he
 rw [e3] at h1
 obtain rfl := he.elim (fun h => h.2) (fun h => absurd rfl h.1)
 exact ⟨by rw [e1], h1, h2⟩
theorem take_new {w : World} {g : Nat} {t x : Int} (d : Int) (hd : dlt x t = d) (h0 : d < 2147483648) (h : Clk w g true t) :
   Calls Tryd.prog 8 #[.pointer (some ⟨g, 0, none⟩), .int .u32 x] w fun e w' => e = .returned (.tuple #[.int .u32 d, .nilIface]) /\ Clk w' g true x /\ w.grownBy w' (some g) := by
 refine (take_ck (x := x) h).mono ?_
 rintro e w' ⟨u, rfl, he, h1, h2⟩
 obtain ⟨e1, e2, e3⟩ := tk_new (x := x) (t := t) (by omega)
 rw [e2] at he
 rw [e3] at h1
 obtain rfl := he.elim (fun h => h.2) (fun h => absurd rfl h.1)
 exact ⟨by rw [e1, hd], h1, h2⟩
theorem take_old {w : World} {g : Nat} {t x : Int} (h0 : 2147483648 <= dlt x t) (h : Clk w g true t) :
   Calls Tryd.prog 8 #[.pointer (some ⟨g, 0, none⟩), .int .u32 x] w fun e w' => ∃ u, e = .returned (.tuple #[.int .u32 0, u]) /\ ErrsG clockB w' u 28 /\ Clk w' g true t /\ w.grownBy w' (some g) := by
 refine (take_ck (x := x) h).mono ?_
 rintro e w' ⟨u, rfl, he, h1, h2⟩
 obtain ⟨e1, e2, e3⟩ := tk_old h0
 rw [e2] at he
 rw [e3] at h1
 exact ⟨u, by rw [e1], he, h1, h2⟩
theorem Up.len {a b : World} (h : Up a b) : a.heap.size <= b.heap.size := Below.size h
theorem ErrsG.kept {B : ByteArray} {w w' : World} {u : Value} {e : Int} {g : Nat} {T : TypeId} {C : Array Value} (h : ErrsG B w u e) (hk : w.grownBy w' (some g)) (hg : Blk w g T C) (hT : T ≠ 52) : ErrsG B w' u e := by
 rcases h with h | ⟨h1, t, x, h2, h3⟩
 ·exact .inl h
 ·refine .inr ⟨h1, t, x, h2, ?_⟩
  unfold IsEr at h3 ⊢
  obtain ⟨b, u', h4, h5, h6⟩ := h3
  unfold IsEr at h6
  subst h6
  refine ⟨b, _, h4, ?_, by unfold IsEr; rfl⟩
  unfold Blk at *
  rw [hk.block b (Array.getElem?_eq_some_iff.1 h5).1 ?_]
  ·exact h5
  ·intro e
   obtain rfl := Option.some.inj e
   rw [hg] at h5
   injection h5 with h5
   injection h5 with _ h5
   exact hT h5
set_option maxHeartbeats 1000000 in
theorem known14_true {w : World} (hg : Glob w) :
   Calls Tryd.prog 5 #[] w fun r w' => r = .returned (.bool true) /\ Up w w' := by
 have HW := hid hg
 have d2 : 2147483648 <= dlt 4 5 := by decide
 have d3 : dlt 9 5 = 4 := by decide
 clear hg
 go_enter Tryd.func5, Tryd.ntmps5
 go_wp2_with (first
  | (go_at_call 6; (with_reducible refine (new_ck _).mono ?_); rintro e w1 ⟨rfl, hP1, hu1⟩)
  | (go_at_call 8; first
     | ((with_reducible refine (take_first 5 hP1).mono ?_); rintro e w2 ⟨rfl, hP2, hk2⟩; clear hP1)
     | ((with_reducible refine (take_old d2 hP2).mono ?_); rintro e w3 ⟨u3, rfl, he3, hP3, hk3⟩; clear hP2)
     | ((with_reducible refine (take_new 4 d3 (by decide) hP3).mono ?_); rintro e w4 ⟨rfl, hP4, hk4⟩; have he4 := he3.kept hk4 hP3 (by decide); clear hP3))
  | (go_at_call 10; (with_reducible refine (last_ck hP4).mono ?_); rintro e w5 ⟨rfl, hu5⟩; have hU5 : Up w w5 := Up.below hu5 (ck_below (ck_below (ck_below hu1 hk2 hu1.len (Nat.le_refl _)) hk3 (Nat.le_trans hu1.len hk2.size) (Nat.le_refl _)) hk4 (Nat.le_trans (Nat.le_trans hu1.len hk2.size) hk3.size) (Nat.le_refl _)) (Nat.le_trans (Nat.le_trans (Nat.le_trans hu1.len hk2.size) hk3.size) hk4.size))
  | (go_at_call 11; (with_reducible refine (says14_any (he4.up hu5) (globUp HW.out hU5)).mono ?_); rintro e w6 ⟨rfl, hu6⟩))
 go_ret
 exact ⟨rfl, hU5.trans hu6⟩
theorem wf_u {k : IntKind} {z m : Int} (h : (Lit.int k z).wf = true) (h0 : k.min = 0) (h1 : k.max = m) : 0 <= z /\ z < m + 1 := by
 have := (Lit.wf_int_iff k z).1 h
 rw [h0, h1] at this
 omega
set_option maxHeartbeats 1000000 in
theorem cround_w {w : World} (hg : Glob w) {t d : Int} (_ht : 0 <= t /\ t < 4294967296) (hd : 0 <= d /\ d < 4294967296) :
   Calls Tryd.prog 4 #[.int .u32 t, .int .u32 d] w fun e w' => e = .returned (.bool true) /\ Up w w' := by
 have HK := hid (known14_true hg)
 have HW := hid hg
 obtain ⟨s, hs⟩ : ∃ s, IntKind.u32.wrap (t + d) = s := ⟨_, rfl⟩
 have e1 : dlt s t = d := by unfold dlt; rw [<- hs, IntKind.wrap_u32]; omega
 obtain ⟨p, hp⟩ : ∃ p, decide (d < 2147483648) = p := ⟨_, rfl⟩
 clear hg hd
 cases p
 ·have h0 : 2147483648 <= dlt s t := by have := of_decide_eq_false hp; omega
  clear e1
  go_enter Tryd.func4, Tryd.ntmps4
  go_wp2_with (first
   | (go_at_call 5; (with_reducible refine HK.out.mono ?_); rintro e w0 ⟨rfl, hu0⟩)
   | (go_at_call 6; (with_reducible refine (new_ck _).mono ?_); rintro e w1 ⟨rfl, hP1, hu1⟩)
   | (go_at_call 8; first
      | ((with_reducible refine (take_first t hP1).mono ?_); rintro e w2 ⟨rfl, hP2, hk2⟩; clear hP1)
      | ((with_reducible refine (take_old h0 hP2).mono ?_); rintro e w3 ⟨u3, rfl, he3, hP3, hk3⟩; clear hP2))
   | (go_at_call 10; (with_reducible refine (last_ck hP3).mono ?_); rintro e w4 ⟨rfl, hu4⟩; have hU4 : Up w w4 := Up.below hu4 (ck_below (ck_below (hu0.trans hu1) hk2 (hu0.trans hu1).len hu0.len) hk3 (Nat.le_trans (hu0.trans hu1).len hk2.size) hu0.len) (Nat.le_trans (Nat.le_trans (hu0.trans hu1).len hk2.size) hk3.size))
   | (go_at_call 11; (with_reducible refine (says14_any (he3.up hu4) (globUp HW.out hU4)).mono ?_); rintro e w5 ⟨rfl, hu5⟩))
  go_ret
  exact ⟨rfl, hU4.trans hu5⟩
 ·have h0 : d < 2147483648 := of_decide_eq_true hp
  go_enter Tryd.func4, Tryd.ntmps4
  go_wp2_with (first
   | (go_at_call 5; (with_reducible refine HK.out.mono ?_); rintro e w0 ⟨rfl, hu0⟩)
   | (go_at_call 6; (with_reducible refine (new_ck _).mono ?_); rintro e w1 ⟨rfl, hP1, hu1⟩)
   | (go_at_call 8; first
      | ((with_reducible refine (take_first t hP1).mono ?_); rintro e w2 ⟨rfl, hP2, hk2⟩; clear hP1)
      | ((with_reducible refine (take_new d e1 h0 hP2).mono ?_); rintro e w3 ⟨rfl, hP3, hk3⟩; clear hP2))
   | (go_at_call 10; (with_reducible refine (last_ck hP3).mono ?_); rintro e w4 ⟨rfl, hu4⟩; have hU4 : Up w w4 := Up.below hu4 (ck_below (ck_below (hu0.trans hu1) hk2 (hu0.trans hu1).len hu0.len) hk3 (Nat.le_trans (hu0.trans hu1).len hk2.size) hu0.len) (Nat.le_trans (Nat.le_trans (hu0.trans hu1).len hk2.size) hk3.size)))
  go_ret
  exact ⟨rfl, hU4⟩
theorem cround_row {w : World} {a0 a1 : Int} (hg : Glob w) (w0 : (Lit.int .u32 a0).wf = true) (w1 : (Lit.int .u32 a1).wf = true) :
   Calls Tryd.prog 4 #[.int .u32 a0, .int .u32 a1] w fun e w' => e = .returned (.bool true) /\ Up w w' := cround_w hg (wf_u w0 rfl rfl) (wf_u w1 rfl rfl)
end Go.Proofs.YtjeibelhkokciaaDoor
namespace Go.Proofs.YtjeibelhkokciaaDoor
open Go.ChangeShapes Go.WideShapes Go.RowKit
set_option maxRecDepth 100000
theorem own4 : ownKnob Tryd.prog.godebug = none := by kernel_rfl
theorem et4 : Tryd.prog.globalNamed "errors.errorType" = some 0 := by kernel_rfl
theorem rt4 : (Tryd.prog.cutTypes.find? (·.1 == "internal/reflectlite.rtype")).map (·.2) = some 76 := by kernel_rfl
theorem oneRow4 : ((List.range 114).filter fun t => Tryd.prog.rowNamed t [101, 114, 114, 111, 114]) = [33] := by kernel_rfl
theorem size4 : Tryd.prog.types.size = 114 := by kernel_rfl
theorem glob_of_laid {W : World} (h : laidMetH Tryd.prog [("errors.errorType", Rows.laid_errors_errorType)] W) : Glob W := by
 have h' : laidMet Tryd.prog [] W /\ handlesMet Tryd.prog [("errors.errorType", Rows.laid_errors_errorType)] W := h
 obtain ⟨name, u, ty, e1, e2, e3, e4, e5⟩ := h'.2 _ (List.mem_singleton.2 rfl)
 have en : name = [101, 114, 114, 111, 114] := (Option.some.inj e1).symm
 subst en
 obtain rfl := Option.some.inj (rt4.symm.trans e2)
 have hm : ty ∈ (List.range 114).filter fun t => Tryd.prog.rowNamed t [101, 114, 114, 111, 114] := List.mem_filter.2 ⟨List.mem_range.2 (by rw [<- size4]; exact e3), e4⟩
 rw [oneRow4] at hm
 obtain rfl := List.mem_singleton.1 hm
 have hh : typeHandle Tryd.prog 33 = .pointer (some ⟨1, 33, none⟩) := by kernel_rfl
 rw [hh] at e5
 unfold Glob
 simpa using World.var?_cell et4 e5 0
noncomputable def laidWorld (os : Os) : World :=
 let w0 := World.holding Tryd.prog os ⟨#[], #[], []⟩
 { w0 with heap := w0.heap.modify 0 fun
    | .cells _ t frozen => .cells #[.iface 76 (.agg #[.pointer (some ⟨1, 33, none⟩)])] t frozen
    | o => o }
theorem laidWorld_met (os : Os) (args : Array Value) : laidMetH Tryd.prog [("errors.errorType", Rows.laid_errors_errorType)] ((laidWorld os).forCall (fun _ _ => 0) ⟨#[], args, []⟩).memory :=
 laidMetH_of_parts (laidMet_nil _ _) (by kernel_rfl)
end Go.Proofs.YtjeibelhkokciaaDoor
