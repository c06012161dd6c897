import Derived.Test.YtnpaodlhhcnbgaaGreatDoorPa
import Derived.Test.YtnpaodlhhcnbgaaGreatDoorProg
import Derived.WalkKit
import Derived.LaidEql
import Derived.WideLaws
import Derived.Stop.Asserts
import Derived.Defers
import Derived.Recover
import Derived.Deep.LoopGhost
import Derived.RowKitTokens
import Derived.Deep.QuietTactic
import Derived.BigQuiet
import Derived.Laws.AppendOwn
import Derived.Laws.OwnMore
namespace Go.Proofs.YtnpaodlhhcnbgaaGreatDoor
open Go Go.RowKit
set_option maxRecDepth 100000
theorem step_arith {x y a b h l r1 c1 r2 c2 : Nat} (hx : x < 18446744073709551616) (hy : y < 18446744073709551616) (ha : a < 18446744073709551616) (hb' : b < 18446744073709551616)
    (eh : h = x * y / 18446744073709551616) (el : l = x * y % 18446744073709551616) (e1 : r1 = (l + a + 0) % 18446744073709551616) (f1 : c1 = (l + a + 0) / 18446744073709551616)
    (e2 : r2 = (r1 + b + 0) % 18446744073709551616) (f2 : c2 = (r1 + b + 0) / 18446744073709551616) :
    h + c1 + c2 < 18446744073709551616 ∧ r2 = (x * y + a + b) % 18446744073709551616 ∧ h + c1 + c2 = (x * y + a + b) / 18446744073709551616 := by
  have h1 : x * y ≤ 18446744073709551615 * 18446744073709551615 := Nat.mul_le_mul (by omega) (by omega)
  generalize x * y = p at *
  omega
set_option maxHeartbeats 400000 in
theorem step_any (x y a b : Nat) (hx : x < 18446744073709551616) (hy : y < 18446744073709551616) (ha : a < 18446744073709551616) (hb' : b < 18446744073709551616) (w : World) :
    Calls Tryz.prog 141 #[.int .u64 x, .int .u64 y, .int .u64 a, .int .u64 b] w
      fun e w' => e = .returned (.tuple #[.int .u64 ((x * y + a + b) % 18446744073709551616 : Nat), .int .u64 ((x * y + a + b) / 18446744073709551616 : Nat)]) ∧ w' = w := by
  obtain ⟨h, l, HM, eh, el⟩ : ∃ h l : Nat, Hid (∀ w, Calls Tryz.prog 91 #[.int .u64 x, .int .u64 y] w fun e w' => e = .returned (.tuple #[.int .u64 (h : Nat), .int .u64 (l : Nat)]) ∧ w' = w) ∧
      h = x * y / 18446744073709551616 ∧ l = x * y % 18446744073709551616 := ⟨_, _, hid (Tryz.bits_Mul64 x y hx hy), rfl, rfl⟩
  obtain ⟨r1, c1, HA, e1, f1⟩ : ∃ r c : Nat, (∀ w, (callFunc 88 #[.int .u64 (l : Nat), .int .u64 (a : Nat), .int .u64 0]).run Tryz.prog w = .ok (.value (.tuple #[.int .u64 (r : Nat), .int .u64 (c : Nat)])) w) ∧
      r = (l + a + 0) % 18446744073709551616 ∧ c = (l + a + 0) / 18446744073709551616 := ⟨_, _, run_add l a 0 (by omega), rfl, rfl⟩
  obtain ⟨r2, c2, HA2, e2, f2⟩ : ∃ r c : Nat, (∀ w, (callFunc 88 #[.int .u64 (r1 : Nat), .int .u64 (b : Nat), .int .u64 0]).run Tryz.prog w = .ok (.value (.tuple #[.int .u64 (r : Nat), .int .u64 (c : Nat)])) w) ∧
      r = (r1 + b + 0) % 18446744073709551616 ∧ c = (r1 + b + 0) / 18446744073709551616 := ⟨_, _, run_add r1 b 0 (by omega), rfl, rfl⟩
  obtain ⟨g1, g2, g3⟩ := step_arith hx hy ha hb' eh el e1 f1 e2 f2
  rw [← g2, ← g3]
  clear g2 g3 eh el e1 f1 e2 f2
  go_enter Tryz.func141, Tryz.ntmps141
  go_wp2_with (go_at_call 91; refine (HM.out _).mono ?_; rintro e w' ⟨rfl, rfl⟩)
  go_ret2
  exact ⟨rfl, rfl⟩
theorem i64V_yes {z : Int} (h : -9223372036854775808 ≤ z ∧ z < 9223372036854775808) : i64V z = .tuple #[.int .i64 z, .bool true] := by
  unfold i64V
  rw [if_pos h, decide_eq_true h]
theorem i64V_no {z : Int} (h : ¬ (-9223372036854775808 ≤ z ∧ z < 9223372036854775808)) : i64V z = .tuple #[.int .i64 0, .bool false] := by
  unfold i64V
  rw [if_neg h, decide_eq_false h]
theorem fx_size (v : Int) (h1 : -9223372036854775808 ≤ v) (h2 : v < 9223372036854775808) (w : World) :
    Calls Tryz.prog 125 #[.int .i64 v] w fun e w' => e = .returned (.int .u64 ((v.natAbs : Nat) : Int)) ∧ Up w w' := by
  by_cases h : v < 0
  · have hd : decide (v < 0) = true := decide_eq_true h
    have e : IntKind.u64.wrap (-IntKind.u64.wrap v) = ((v.natAbs : Nat) : Int) := by
      rw [IntKind.wrap_u64, IntKind.wrap_u64]; omega
    go_enter Tryz.func125, Tryz.ntmps125
    go_wp2
    go_ret
    exact ⟨rfl, gUp⟩
  · have hd : decide (v < 0) = false := decide_eq_false h
    have e : IntKind.u64.wrap v = ((v.natAbs : Nat) : Int) := by
      rw [IntKind.wrap_u64]; omega
    go_enter Tryz.func125, Tryz.ntmps125
    go_wp2
    go_ret
    exact ⟨rfl, gUp⟩
theorem fx_signed (n : Nat) (hn : n < 18446744073709551616) (neg : Bool) (w : World) :
    Calls Tryz.prog 124 #[.int .u64 n, .bool neg] w fun e w' => e = .returned (i64V (pm neg n)) ∧ Up w w' := by
  cases neg with
  | false =>
    by_cases h : n < 9223372036854775808
    · rw [show i64V (pm false n) = .tuple #[.int .i64 n, .bool true] from i64V_yes (by simp only [pm, Bool.false_eq_true, if_false]; omega)]
      have hc : IntKind.i64.wrap (n : Int) = n := IntWalk.i64_in _ (by omega)
      have hd : decide ((n : Int) < 0) = false := decide_eq_false (by omega)
      go_enter Tryz.func124, Tryz.ntmps124
      go_wp2
      go_ret2
      exact ⟨rfl, gUp⟩
    · rw [show i64V (pm false n) = .tuple #[.int .i64 0, .bool false] from i64V_no (by simp only [pm, Bool.false_eq_true, if_false]; omega)]
      obtain ⟨u, hu⟩ : ∃ u : Int, u = (n : Int) - 18446744073709551616 := ⟨_, rfl⟩
      have hc : IntKind.i64.wrap (n : Int) = u := by rw [IntKind.wrap_i64]; omega
      have hd : decide (u < 0) = true := decide_eq_true (by omega)
      have h0 : ((n : Int) != 0) = true := by simp; omega
      clear hu h hn
      go_enter Tryz.func124, Tryz.ntmps124
      go_wp2
      go_ret2
      exact ⟨rfl, gUp⟩
  | true =>
    by_cases h : n ≤ 9223372036854775808
    · rw [show i64V (pm true n) = .tuple #[.int .i64 (-(n : Int)), .bool true] from i64V_yes (by simp only [pm, if_true]; omega)]
      obtain ⟨u, hu⟩ : ∃ u : Int, u = if (n : Int) < 9223372036854775808 then (n : Int) else -9223372036854775808 := ⟨_, rfl⟩
      have hc : IntKind.i64.wrap (n : Int) = u := by rw [IntKind.wrap_i64]; split at hu <;> omega
      obtain ⟨v, hv⟩ : ∃ v : Int, v = -(n : Int) := ⟨_, rfl⟩
      have hc2 : IntKind.i64.wrap (-u) = v := by rw [IntKind.wrap_i64]; split at hu <;> omega
      by_cases h0 : n = 0
      · have h00 : ((n : Int) != 0) = false := by simp; omega
        have hd : decide (v < 0) = false := decide_eq_false (by omega)
        rw [← hv]
        clear hu hv h hn h0
        go_enter Tryz.func124, Tryz.ntmps124
        go_wp2
        go_ret2
        exact ⟨rfl, gUp⟩
      · have hd : decide (v < 0) = true := decide_eq_true (by omega)
        rw [← hv]
        clear hu hv h hn h0
        go_enter Tryz.func124, Tryz.ntmps124
        go_wp2
        go_ret2
        exact ⟨rfl, gUp⟩
    · rw [show i64V (pm true n) = .tuple #[.int .i64 0, .bool false] from i64V_no (by simp only [pm, if_true]; omega)]
      obtain ⟨u, hu⟩ : ∃ u : Int, u = (n : Int) - 18446744073709551616 := ⟨_, rfl⟩
      have hc : IntKind.i64.wrap (n : Int) = u := by rw [IntKind.wrap_i64]; omega
      obtain ⟨v, hv⟩ : ∃ v : Int, v = -u := ⟨_, rfl⟩
      have hc2 : IntKind.i64.wrap (-u) = v := by rw [IntKind.wrap_i64]; omega
      have hd : decide (v < 0) = false := decide_eq_false (by omega)
      have h0 : ((n : Int) != 0) = true := by simp; omega
      clear hu hv h hn
      go_enter Tryz.func124, Tryz.ntmps124
      go_wp2
      go_ret2
      exact ⟨rfl, gUp⟩
theorem fx_amount (v : Int) (h1 : -9223372036854775808 ≤ v) (h2 : v < 9223372036854775808) (w : World) :
    Calls Tryz.prog 100 #[.int .i64 v] w fun e w' => e = .returned (i64V (v.natAbs : Nat)) ∧ Up w w' := by
  have HS := hid (fun w => fx_size v h1 h2 w)
  have HG := hid (fun w => fx_signed v.natAbs (by omega) false w)
  rw [show pm false v.natAbs = ((v.natAbs : Nat) : Int) from rfl] at HG
  generalize v.natAbs = n at *
  obtain ⟨x, ok, hx⟩ : ∃ x ok, i64V (n : Int) = .tuple #[.int .i64 x, .bool ok] := ⟨_, _, rfl⟩
  rw [hx] at HG ⊢
  clear hx
  go_enter Tryz.func100, Tryz.ntmps100
  go_wp2_with (first | (go_at_call 125; refine (HS.out _).mono ?_; rintro e w' ⟨rfl, hu⟩) | (go_at_call 124; refine (HG.out _).mono ?_; rintro e w' ⟨rfl, hu⟩))
  go_ret2
  exact ⟨rfl, gUp⟩
inductive Er where
  | num (n : Int)
  | nilf (op : ByteArray)
  | flt (op : ByteArray) (e : Er)
def IsEr (w : World) : Value → Er → Prop
  | v, .num n => v = .iface 90 (.int .i64 n)
  | v, .nilf op => ∃ b, v = .iface 135 (.pointer (some ⟨b, 0, none⟩)) ∧ Blk w b 138 #[.string op, .nilIface]
  | v, .flt op e => ∃ b u, v = .iface 135 (.pointer (some ⟨b, 0, none⟩)) ∧ Blk w b 138 #[.string op, u] ∧ IsEr w u e
theorem IsEr.up {w w' : World} (hu : Up w w') {v : Value} {e : Er} (h : IsEr w v e) : IsEr w' v e := by
  induction e generalizing v with
  | num n => exact h
  | nilf op => obtain ⟨b, h1, h2⟩ := h; exact ⟨b, h1, h2.up hu⟩
  | flt op e ih => obtain ⟨b, u, h1, h2, h3⟩ := h; exact ⟨b, u, h1, h2.up hu, ih h3⟩
theorem IsEr.iface {w : World} {v : Value} {e : Er} (h : IsEr w v e) : ∃ t u, v = .iface t u := by
  cases e with
  | num n => exact ⟨_, _, h⟩
  | nilf op => obtain ⟨b, h1, _⟩ := h; exact ⟨_, _, h1⟩
  | flt op e => obtain ⟨b, u, h1, _⟩ := h; exact ⟨_, _, h1⟩
def Er.has (n : Int) : Er → Bool
  | .num m => m == n
  | .nilf _ => false
  | .flt _ e => e.has n
def Er.first : Er → Option Int
  | .num m => some m
  | .nilf _ => none
  | .flt _ e => e.first
def Er.ops : Er → List ByteArray
  | .num _ => []
  | .nilf op => [op]
  | .flt op e => op :: e.ops
theorem wrap_any {op : ByteArray} {v : Value} {e : Er} {w : World} (h : IsEr w v e) :
    Calls Tryz.prog 77 #[.string op, v] w fun r w' => ∃ u, r = .returned u ∧ Up w w' ∧ IsEr w' u (.flt op e) := by
  obtain ⟨t, u, rfl⟩ := h.iface
  have H := hid h
  clear h
  go_enter Tryz.func77, Tryz.ntmps77
  go_wp2
  go_ret
  exact ⟨_, rfl, Up.alloc _ _, _, _, rfl, Blk.new _ _ rfl, H.out.up (Up.alloc _ _)⟩
end Go.Proofs.YtnpaodlhhcnbgaaGreatDoor
namespace Go.Proofs.YtnpaodlhhcnbgaaGreatDoor
open Go Go.RowKit Go.Extern.Stop Go.Stop Go.Extern
set_option maxRecDepth 100000
theorem noUnN (v : Value) (xT : TypeId) (w : World) : (Instr.typeAssert (.iface 90 v) xT 197 true).run Tryz.prog w = .ok (.tuple #[.nilIface, .bool false]) w := run_typeAssert_lacksB Tryz.underlying197 (by kernel_rfl) (by kernel_rfl) v xT w
theorem noUsN (v : Value) (xT : TypeId) (w : World) : (Instr.typeAssert (.iface 90 v) xT 183 true).run Tryz.prog w = .ok (.tuple #[.nilIface, .bool false]) w := run_typeAssert_lacksB Tryz.underlying183 (by kernel_rfl) (by kernel_rfl) v xT w
theorem hasUnF (v : Value) (xT : TypeId) (w : World) : (Instr.typeAssert (.iface 135 v) xT 197 true).run Tryz.prog w = .ok (.tuple #[.iface 135 v, .bool true]) w := run_typeAssert_hasB Tryz.underlying197 (by kernel_rfl) v xT w
theorem unwrap_flt {b : Nat} {op : ByteArray} {u : Value} {w : World} (h : Blk w b 138 #[.string op, u]) :
    Calls Tryz.prog 168 #[.pointer (some ⟨b, 0, none⟩)] w fun r w' => r = .returned u ∧ w' = w := by
  have hc := h.cell 1 rfl
  go_enter Tryz.func168, Tryz.ntmps168
  go_wp2
  go_ret
  exact ⟨rfl, rfl⟩
theorem mUnF (v : Value) (w : World) : (Go.method 341 135 v "Unwrap").run Tryz.prog w = .ok (168, v) w := by kernel_rfl
def Er.size : Er → Nat
  | .num _ => 1
  | .nilf _ => 1
  | .flt _ e => e.size + 1
end Go.Proofs.YtnpaodlhhcnbgaaGreatDoor
namespace Go.Proofs.YtnpaodlhhcnbgaaGreatDoor
open Go Go.RowKit Go.Extern.Stop Go.Stop Go.Extern
set_option maxRecDepth 100000
theorem valueOfP (t : Addr) (w : World) : (ReflectliteValue.unpack (.iface 140 (.pointer (some t)))).run Tryz.prog w
    = .ok (.agg #[.pointer (some ⟨3, 140, none⟩), .pointer (some ⟨w.heap.size, 0, none⟩), .int .u64 150]) (w.alloc (.cells #[.pointer (some t)] 140)) := by kernel_rfl
theorem typeP (a : Addr) (w : World) : (ReflectliteValue.methodAny (ReflectliteValue.valueError "reflectlite.Value.Type" 0) (fun t _ _ _ => ReflectliteType.toType t) #[.agg #[.pointer (some ⟨3, 140, none⟩), .pointer (some a), .int .u64 150]]).run Tryz.prog w
    = .ok (.iface 189 (.agg #[.pointer (some ⟨3, 140, none⟩)])) w := by kernel_rfl
theorem mKind (h : Value) (w : World) : (Go.method 341 189 (.agg #[h]) "Kind").run Tryz.prog w = .ok (163, h) w := by kernel_rfl
theorem kindP (w : World) : ((ReflectliteType.abiMethod fun t => (fun a : Nat => Value.int IntKind.u8 (a : Int)) <$> Rtype.kind t) #[.pointer (some ⟨3, 140, none⟩)]).run Tryz.prog w = .ok (.int .u8 22) w := by kernel_rfl
theorem kindN (w : World) : ((ReflectliteType.abiMethod fun t => (fun a : Nat => Value.int IntKind.u8 (a : Int)) <$> Rtype.kind t) #[.pointer (some ⟨3, 90, none⟩)]).run Tryz.prog w = .ok (.int .u8 2) w := by kernel_rfl
theorem rlm (z : Sem Value) (f : TypeId → Addr → Nat → Nat → Sem Value) (v : Value) :
    ReflectliteValue.method z f #[v] = (do match ← ReflectliteValue.parts v with | none => z | some (t, a, fl) => f t a fl (fl % 32)) := rfl
theorem partsP (a : Addr) (w : World) : (ReflectliteValue.parts (.agg #[.pointer (some ⟨3, 140, none⟩), .pointer (some a), .int .u64 150])).run Tryz.prog w = .ok (some (140, a, 150)) w := by kernel_rfl
theorem isNilP (a p : Addr) (W : World) (ha : W.cell? a = some (.pointer (some p))) :
    (ReflectliteValue.method (ReflectliteValue.valueError "reflectlite.Value.IsNil" 0) ReflectliteValue.isNil #[.agg #[.pointer (some ⟨3, 140, none⟩), .pointer (some a), .int .u64 150]]).run Tryz.prog W = .ok (.bool false) W := by
  rw [rlm]
  simp only [Sem.run_bind, partsP, Result.andThen]
  simp [ReflectliteValue.isNil, loadVar, isAgg, underlying, Tryz.underlying140, ha, Result.andThen]
theorem mElem (h : Value) (w : World) : (Go.method 341 189 (.agg #[h]) "Elem").run Tryz.prog w = .ok (175, .agg #[h]) w := by kernel_rfl
theorem mImplements (h : Value) (w : World) : (Go.method 341 189 (.agg #[h]) "Implements").run Tryz.prog w = .ok (176, .agg #[h]) w := by kernel_rfl
theorem mAssignableTo (h : Value) (w : World) : (Go.method 341 189 (.agg #[h]) "AssignableTo").run Tryz.prog w = .ok (173, .agg #[h]) w := by kernel_rfl
theorem elemP (w : World) : (ReflectliteType.method ReflectliteType.elem #[.agg #[.pointer (some ⟨3, 140, none⟩)]]).run Tryz.prog w = .ok (.iface 189 (.agg #[.pointer (some ⟨3, 90, none⟩)])) w := by kernel_rfl
theorem implementsN (w : World) : (ReflectliteType.relation "Implements" ReflectliteType.implements_ #[.agg #[.pointer (some ⟨3, 90, none⟩)], .iface 189 (.agg #[.pointer (some ⟨3, 35, none⟩)])]).run Tryz.prog w = .ok (.bool true) w := by kernel_rfl
theorem typeOfN2 (v : Value) (w : World) : (ReflectliteType.typeOf #[.iface 90 v]).run Tryz.prog w = .ok (.iface 189 (.agg #[.pointer (some ⟨3, 90, none⟩)])) w := by kernel_rfl
theorem typeOfF (v : Value) (w : World) : (ReflectliteType.typeOf #[.iface 135 v]).run Tryz.prog w = .ok (.iface 189 (.agg #[.pointer (some ⟨3, 135, none⟩)])) w := by kernel_rfl
theorem assignN (w : World) : (ReflectliteType.relation "AssignableTo" ReflectliteType.assignableTo #[.agg #[.pointer (some ⟨3, 90, none⟩)], .iface 189 (.agg #[.pointer (some ⟨3, 90, none⟩)])]).run Tryz.prog w = .ok (.bool true) w := by kernel_rfl
theorem assignF (w : World) : (ReflectliteType.relation "AssignableTo" ReflectliteType.assignableTo #[.agg #[.pointer (some ⟨3, 135, none⟩)], .iface 189 (.agg #[.pointer (some ⟨3, 90, none⟩)])]).run Tryz.prog w = .ok (.bool false) w := by kernel_rfl
theorem valueOfN (n : Int) (w : World) : (ReflectliteValue.unpack (.iface 90 (.int .i64 n))).run Tryz.prog w
    = .ok (.agg #[.pointer (some ⟨3, 90, none⟩), .pointer (some ⟨w.heap.size, 0, none⟩), .int .u64 130]) (w.alloc (.cells #[.int .i64 n] 90)) := by kernel_rfl
theorem elemOfP (w : World) : (Rtype.elem? 140).run Tryz.prog w = .ok (some 90) w := by kernel_rfl
theorem mkN (p : Addr) (w : World) : (ReflectliteValue.mk 90 p ReflectliteValue.flagAddr).run Tryz.prog w = .ok (.agg #[.pointer (some ⟨3, 90, none⟩), .pointer (some p), .int .u64 386]) w := by kernel_rfl
theorem elemVP (a p : Addr) (W : World) (ha : W.cell? a = some (.pointer (some p))) :
    (ReflectliteValue.method (ReflectliteValue.valueError "reflectlite.Value.Elem" 0) ReflectliteValue.elem #[.agg #[.pointer (some ⟨3, 140, none⟩), .pointer (some a), .int .u64 150]]).run Tryz.prog W
      = .ok (.agg #[.pointer (some ⟨3, 90, none⟩), .pointer (some p), .int .u64 386]) W := by
  rw [rlm]
  simp only [Sem.run_bind, partsP, Result.andThen]
  simp [ReflectliteValue.elem, loadVar, isAgg, underlying, Tryz.underlying140, ha, Result.andThen, elemOfP, mkN]
theorem lt_of_cell {w : World} {a : Addr} {v : Value} (h : w.cell? a = some v) : a.block < w.heap.size := by
  rcases Nat.lt_or_ge a.block w.heap.size with h1 | h1
  · exact h1
  · simp [World.cell?, Array.getElem?_eq_none h1] at h
theorem rls (v x : Value) : ReflectliteValue.set #[v, x] = (do
    let (some (dst, a, fl), some (src, b, _)) := (← ReflectliteValue.parts v, ← ReflectliteValue.parts x)
      | unsupported (.noEntry "extern/(internal/reflectlite.Value).Set.zeroValue")
    if fl / ReflectliteValue.flagAddr % 2 == 0 then unsupported (.noEntry "extern/(internal/reflectlite.Value).Set.unaddressable")
    let val ← loadVar src b
    if ← Rtype.directlyAssignable dst src then storeVar dst a val
    else if ← Rtype.implements dst src then
      if (← Rtype.kind src) == 20 then
        match val with
        | .nilIface => unsupported (.noEntry "extern/reflectlite: a nil value of one interface type handed on as a value of another")
        | _ => storeVar dst a val
      else storeVar dst a (.iface src val)
    else panicString ("reflectlite.Set: value of type " ++ (← Rtype.spelt src) ++ " is not assignable to type " ++ (← Rtype.spelt dst))
    pure (.tuple #[])) := rfl
theorem partsNa (a : Addr) (w : World) : (ReflectliteValue.parts (.agg #[.pointer (some ⟨3, 90, none⟩), .pointer (some a), .int .u64 386])).run Tryz.prog w = .ok (some (90, a, 386)) w := by kernel_rfl
theorem partsN (a : Addr) (w : World) : (ReflectliteValue.parts (.agg #[.pointer (some ⟨3, 90, none⟩), .pointer (some a), .int .u64 130])).run Tryz.prog w = .ok (some (90, a, 130)) w := by kernel_rfl
theorem directN (w : World) : (Rtype.directlyAssignable 90 90).run Tryz.prog w = .ok true w := by kernel_rfl
theorem setN (ta b : Addr) (n : Int) (old : Value) (W : World) (hb : W.cell? b = some (.int .i64 n)) (ht : W.cell? ta = some old) (hf : W.frozen? ta = false) :
    (ReflectliteValue.set #[.agg #[.pointer (some ⟨3, 90, none⟩), .pointer (some ta), .int .u64 386], .agg #[.pointer (some ⟨3, 90, none⟩), .pointer (some b), .int .u64 130]]).run Tryz.prog W
      = .ok (.tuple #[]) (W.setCell ta (.int .i64 n)) := by
  rw [rls]
  simp only [Sem.run_bind, partsNa, partsN, Result.andThen]
  simp [ReflectliteValue.flagAddr, loadVar, isAgg, underlying, Tryz.underlying90, hb, Result.andThen, directN, storeVar, Value.cells, storeCells, Addr.add]
  rw [run_store Tryz.prog W ta _ _ (by rfl)]
  simp [ht, hf]
theorem noAsN (v : Value) (xT : TypeId) (w : World) : (Instr.typeAssert (.iface 90 v) xT 194 true).run Tryz.prog w = .ok (.tuple #[.nilIface, .bool false]) w := run_typeAssert_lacksB Tryz.underlying194 (by kernel_rfl) (by kernel_rfl) v xT w
theorem noAsF (v : Value) (xT : TypeId) (w : World) : (Instr.typeAssert (.iface 135 v) xT 194 true).run Tryz.prog w = .ok (.tuple #[.nilIface, .bool false]) w := run_typeAssert_lacksB Tryz.underlying194 (by kernel_rfl) (by kernel_rfl) v xT w
theorem undV0 : (match Tryz.prog.underlying 165 with | some (.struct _) => true | _ => false) = true := by kernel_rfl
theorem undV : ∃ fs, Tryz.prog.underlying 165 = some (.struct fs) := by
  have h := undV0
  cases hq : Tryz.prog.underlying 165 with
  | none => rw [hq] at h; simp at h
  | some d =>
    rw [hq] at h
    cases d <;> first | exact ⟨_, rfl⟩ | simp at h
theorem infoV : (Tryz.prog.info? 165).map (·.size) = some 3 := by kernel_rfl
theorem ldV {ops : Array Oper} {rest : List Oper} {Q : Exit → Act → World → Prop} {a : Act} {w : World} {d : Option Tmp} {s : Tmp} {ty : TypeId} {pos : String} {af : Array Edge} {gd : Option (Nat × Bool)} {g : Nat} {C : Array Value}
    (hw : Region.wanted { dst := d, op := .load 165 (.tmp s), type := ty, pos := pos, after := af, guard := gd } (yielded ops a.tmps) = true) (hx : a.eval (.tmp s) = .pointer (some ⟨g, 0, none⟩)) (hC : Blk w g 165 C) (h2 : C.size = 3)
    (h : wpList Tryz.prog ops Q rest (a.put d (.agg C)) w) : wpList Tryz.prog ops Q ({ dst := d, op := .load 165 (.tmp s), type := ty, pos := pos, after := af, guard := gd } :: rest) a w := by
  refine wpList_run hw ?_ h
  obtain ⟨fs, hu⟩ := undV
  unfold execOp
  simp only [hx, Instr.loadAt, Instr.sureAddr, Sem.run_bind, Sem.run_pure, Result.andThen_ok, run_loadVar_row w g _ 165 C (0, 0) _ hC hu rfl (by rw [infoV, h2])]
theorem Up.frozen {w w' : World} (hu : Up w w') {a : Addr} (h : a.block < w.heap.size) (hf : w.frozen? a = false) : w'.frozen? a = false := by
  rw [World.frozen?_of_block (hu.block a.block h)]; exact hf
theorem Up.cellEq {w w' : World} (hu : Up w w') {a : Addr} {v : Value} (h : w.cell? a = some v) : w'.cell? a = some v := by
  rw [World.cell?_of_block (hu.block a.block (lt_of_cell h))]; exact h
def Told (t : Addr) (w : World) (r : Ending) (w' : World) : Option Int → Prop
  | none => r = .returned (.bool false) ∧ Up w w'
  | some m => r = .returned (.bool true) ∧ ∃ w1, Up w w1 ∧ w' = w1.setCell t (.int .i64 m)
set_option maxHeartbeats 8000000 in
theorem as_sz (t p0 : Addr) (old : Value) (k : Nat) : ∀ (e : Er), e.size ≤ k → ∀ (v : Value) (w : World), IsEr w v e → w.cell? p0 = some (.pointer (some t)) → w.cell? t = some old → w.frozen? t = false →
    Calls Tryz.prog 117 #[v, .iface 140 (.pointer (some t)), .agg #[.pointer (some ⟨3, 140, none⟩), .pointer (some p0), .int .u64 150], .iface 189 (.agg #[.pointer (some ⟨3, 90, none⟩)])] w fun r w' => Told t w r w' e.first := by
  induction k with
  | zero => intro e he; cases e <;> simp [Er.size] at he
  | succ k ih =>
    intro e he v w hE hp ht hf
    have h1 := noAsN
    have h2 := noAsF
    have h4 := noUnN
    have h5 := noUsN
    have h6 := hasUnF
    have h9 := mUnF
    have h31 := @run_callFunc_extern Tryz.prog 133 _ ReflectliteType.typeOf Tryz.func133 (by kernel_rfl) (by kernel_rfl) (by kernel_rfl) (by kernel_rfl)
    have h73 := @run_callFunc_extern Tryz.prog 173 _ (ReflectliteType.relation "AssignableTo" ReflectliteType.assignableTo) Tryz.func173 (by kernel_rfl) (by kernel_rfl) (by kernel_rfl) (by kernel_rfl)
    have h35 := @run_callFunc_extern Tryz.prog 134 _ (ReflectliteValue.method (ReflectliteValue.valueError "reflectlite.Value.Elem" 0) ReflectliteValue.elem) Tryz.func134 (by kernel_rfl) (by kernel_rfl) (by kernel_rfl) (by kernel_rfl)
    have h36 := @run_callFunc_extern Tryz.prog 135 _ ReflectliteValue.set Tryz.func135 (by kernel_rfl) (by kernel_rfl) (by kernel_rfl) (by kernel_rfl)
    have h25 := @run_callFunc_extern Tryz.prog 114 _ (fun args => ReflectliteValue.unpack (args.getD 0 (.tuple #[]))) Tryz.func114 (by kernel_rfl) (by kernel_rfl) (by kernel_rfl) (by kernel_rfl)
    have tN := typeOfN2
    have tF := typeOfF
    have aN := assignN
    have aF := assignF
    have mA := mAssignableTo
    have vN := valueOfN
    have IH := hid ih
    have hlp := lt_of_cell hp
    have hlt := lt_of_cell ht
    clear ih
    go_enter Tryz.func117, Tryz.ntmps117
    go_wp2_with fail
    obtain ⟨wb, hwb⟩ : ∃ wb, w.alloc (Obj.cells #[.pointer (some ⟨3, 140, none⟩), .pointer (some p0), .int .u64 150] 165) = wb := ⟨_, rfl⟩
    have hub : Up w wb := by rw [← hwb]; exact Up.alloc _ _
    have hbox : Blk wb w.heap.size 165 #[.pointer (some ⟨3, 140, none⟩), .pointer (some p0), .int .u64 150] := by rw [← hwb]; exact Blk.new _ _ rfl
    rw [hwb]
    clear hwb
    go_loopg [0] (k + 1) (fun g tv wr => ∃ x : Er, x.size ≤ g ∧ x.size ≤ k + 1 ∧ x.first = e.first ∧ IsEr w tv x ∧ wr = wb)
    case atStart => exact ⟨e, he, he, rfl, hE, rfl⟩
    case round =>
      obtain ⟨x, hx1, hx2, hx3, hX, hw0⟩ := hrel
      subst hw0
      have HX3 := hid hx3
      clear hx3 hE he
      cases x with
      | num m =>
        obtain rfl : _ = _ := hX
        have hq := hub.cellEq hp
        have el := elemVP p0 t wr hq
        have st := setN t ⟨wr.heap.size, 0, none⟩ m old (wr.alloc (.cells #[.int .i64 m] 90)) (by simp) ((hub.trans (Up.alloc _ _)).cellEq ht) ((hub.trans (Up.alloc _ _)).frozen hlt hf)
        have HF := hid (show e.first = some m from HX3.out.symm)
        clear hq
        go_wp2_with (first | ((with_reducible apply ldV); exact rfl; exact rfl; exact hbox; exact rfl))
        go_ret
        rw [HF.out]
        exact ⟨rfl, _, hub.trans (Up.alloc _ _), rfl⟩
      | nilf op =>
        obtain ⟨b, rfl, hB⟩ := hX
        have HU := hid (fun (w' : World) (h : Up wr w') => unwrap_flt ((hB.up hub).up h))
        have HF := hid (show e.first = none from HX3.out.symm)
        clear hB
        go_wp2_with (first | (go_at_call 168; (with_reducible refine (HU.out _ (Up.refl _)).mono ?_); rintro r w' ⟨rfl, rfl⟩))
        go_ret
        rw [HF.out]
        exact ⟨rfl, hub⟩
      | flt op y =>
        obtain ⟨b, u, rfl, hB, hY⟩ := hX
        obtain ⟨tu, uu, rfl⟩ := hY.iface
        have HU := hid (fun (w' : World) (h : Up wr w') => unwrap_flt ((hB.up hub).up h))
        have HY := hid hY
        have hs1 : y.size + 1 ≤ gk := hx1
        have hs2 : y.size + 1 ≤ k + 1 := hx2
        have HH := hid (show y.first = e.first from HX3.out)
        clear hY hB
        go_wp2_with (first | (go_at_call 168; (with_reducible refine (HU.out _ (Up.refl _)).mono ?_); rintro r w' ⟨rfl, rfl⟩))
        go_roundg (gk - 1)
        case measure => omega
        case rel => exact ⟨y, by omega, by omega, HH.out, HY.out, rfl⟩
end Go.Proofs.YtnpaodlhhcnbgaaGreatDoor
namespace Go.Proofs.YtnpaodlhhcnbgaaGreatDoor
open Go Go.RowKit
set_option maxRecDepth 100000
theorem idle_out (w : World) : CallsD Tryz.prog 112 #[] .returning w fun e u' w' => e = .returned (.tuple #[]) ∧ u' = .returning ∧ w' = w := by
  refine callsD_of_wpS Tryz.func112 rfl fun c₀ cs hu => ?_
  apply wpS_region
  simp [wpOpsS, go_sem, recoverD, hu, Tryz.ntmps112, bodyPostS, results, Tryz.results112]
  cases c₀
  simp_all
end Go.Proofs.YtnpaodlhhcnbgaaGreatDoor
namespace Go.Proofs.YtnpaodlhhcnbgaaGreatDoor
open Go Go.RowKit Go.Extern.Stop Go.Stop Go.Extern
set_option maxRecDepth 100000
def Glob (w : World) : Prop := w.cell? ⟨0, 0, none⟩ = some (.iface 189 (.agg #[.pointer (some ⟨3, 35, none⟩)]))
set_option maxHeartbeats 4000000 in
theorem as_any {e : Er} {v : Value} {w : World} (t : Addr) (old : Value) (h : IsEr w v e) (hg : Glob w) (ht : w.cell? t = some old) (hf : w.frozen? t = false) :
    Calls Tryz.prog 84 #[v, .iface 140 (.pointer (some t))] w fun r w' => Told t w r w' e.first := by
  obtain ⟨t1, v1, rfl⟩ := h.iface
  obtain ⟨o, ho⟩ : ∃ o, e.first = o := ⟨_, rfl⟩
  rw [ho]
  have h25 := @run_callFunc_extern Tryz.prog 114 _ (fun args => ReflectliteValue.unpack (args.getD 0 (.tuple #[]))) Tryz.func114 (by kernel_rfl) (by kernel_rfl) (by kernel_rfl) (by kernel_rfl)
  have h26 := @run_callFunc_extern Tryz.prog 115 _ (ReflectliteValue.methodAny (ReflectliteValue.valueError "reflectlite.Value.Type" 0) (fun t _ _ _ => ReflectliteType.toType t)) Tryz.func115 (by kernel_rfl) (by kernel_rfl) (by kernel_rfl) (by kernel_rfl)
  have h27 := @run_callFunc_extern Tryz.prog 116 _ (ReflectliteValue.method (ReflectliteValue.valueError "reflectlite.Value.IsNil" 0) ReflectliteValue.isNil) Tryz.func116 (by kernel_rfl) (by kernel_rfl) (by kernel_rfl) (by kernel_rfl)
  have h63 := @run_callFunc_extern Tryz.prog 163 _ (ReflectliteType.abiMethod fun t => do pure (.int .u8 (← Rtype.kind t))) Tryz.func163 (by kernel_rfl) (by kernel_rfl) (by kernel_rfl) (by kernel_rfl)
  have h75 := @run_callFunc_extern Tryz.prog 175 _ (ReflectliteType.method ReflectliteType.elem) Tryz.func175 (by kernel_rfl) (by kernel_rfl) (by kernel_rfl) (by kernel_rfl)
  have h76 := @run_callFunc_extern Tryz.prog 176 _ (ReflectliteType.relation "Implements" ReflectliteType.implements_) Tryz.func176 (by kernel_rfl) (by kernel_rfl) (by kernel_rfl) (by kernel_rfl)
  have f25 := valueOfP
  have f26 := typeP
  have mK := mKind
  have kP := kindP
  have kN := kindN
  have mE := mElem
  have eP := elemP
  have mI := mImplements
  have iN := implementsN
  obtain ⟨w1, hw1⟩ : ∃ w1, (w.alloc (.cells #[.pointer (some t)] 140)).alloc (.cells #[.pointer (some ⟨3, 140, none⟩), .pointer (some ⟨w.heap.size, 0, none⟩), .int .u64 150] 165) = w1 := ⟨_, rfl⟩
  have hu1 : Up w w1 := by rw [← hw1]; exact (Up.alloc _ _).trans (Up.alloc _ _)
  have hp1 : w1.cell? ⟨w.heap.size, 0, none⟩ = some (.pointer (some t)) := by rw [← hw1]; simp
  have n27 := isNilP ⟨w.heap.size, 0, none⟩ t w1 hp1
  have hg1 : w1.cell? ⟨0, 0, none⟩ = some (.iface 189 (.agg #[.pointer (some ⟨3, 35, none⟩)])) := hu1.cellEq hg
  have HS := hid (as_sz t ⟨w.heap.size, 0, none⟩ old e.size e (Nat.le_refl _) _ w1 (h.up hu1) hp1 (hu1.cellEq ht) (hu1.frozen (lt_of_cell ht) hf))
  rw [ho] at HS
  rw [← hw1] at n27 hg1
  have HW := hid hw1
  clear hw1 h hg ht hf hp1 ho
  go_enter Tryz.func84, Tryz.ntmps84
  cases o with
  | none =>
    go_wp2_with fail
    rw [HW.out]
    refine HS.out.mono ?_
    rintro r wF ⟨rfl, hu⟩
    go_wp2_with fail
    go_ret
    exact ⟨rfl, hu1.trans hu⟩
  | some m =>
    go_wp2_with fail
    rw [HW.out]
    refine HS.out.mono ?_
    rintro r wF ⟨rfl, wX, hu, rfl⟩
    go_wp2_with fail
    go_ret
    exact ⟨rfl, wX, hu1.trans hu, rfl⟩
theorem idle_code (p : Addr) (w : World) : CallsD Tryz.prog 83 #[.pointer (some p)] .returning w fun e u' w' => e = .returned (.tuple #[]) ∧ u' = .returning ∧ w' = w := by
  refine callsD_of_wpS Tryz.func83 rfl fun c₀ cs hu => ?_
  apply wpS_seq
  apply wpS_region
  simp [wpOpsS, go_sem, recoverD, hu, Tryz.ntmps83, Exit.thenS]
  refine wpS_cond (t := false) (by simp [Act.eval, Array.replicate]) ?_
  simp only [Bool.false_eq_true, if_false]
  refine wpS_of_wp (wp_skip ?_)
  cases c₀
  simp_all [bodyPostS, results, Tryz.results83]
theorem code_any {e : Er} {v : Value} {w : World} (h : IsEr w v e) (hg : Glob w) :
    Calls Tryz.prog 49 #[v] w fun r w' => r = .returned (.int .i64 (e.first.getD 36)) ∧ Up w w' := by
  obtain ⟨t1, v1, rfl⟩ := h.iface
  have hmf : ∀ (fn : Fn) (first cap : Array Value) (w : World), (Instr.makeFunc fn first cap).run Tryz.prog w = .ok (.func fn first cap) w := fun _ _ _ _ => rfl
  have hu0 : Up w (w.alloc (.cells #[.int .i64 0] 90)) := Up.alloc _ _
  have hB0 : Blk (w.alloc (.cells #[.int .i64 0] 90)) w.heap.size 90 #[.int .i64 0] := Blk.new _ _ rfl
  have HA := hid (as_any ⟨w.heap.size, 0, none⟩ (.int .i64 0) (h.up hu0) (hu0.cellEq hg) (by simp) (by simp))
  obtain ⟨o, ho⟩ : ∃ o, e.first = o := ⟨_, rfl⟩
  rw [ho] at HA ⊢
  clear ho h hg
  cases o with
  | none =>
    go_enter_defers Tryz.func49, Tryz.ntmps49
    go_wp2_with (first | (go_at_call 84; (with_reducible refine (HA.out).mono ?_); rintro r wA ⟨rfl, huA⟩; have hBA := hB0.up huA; have hcA := hBA.cell 0 rfl; have hfA := hBA.frozen 0))
    have hBF := hBA.set 0 (.int .i64 36)
    have hcF := hBF.cell 0 rfl
    have huF := (hu0.trans huA).setCell (p := ⟨w.heap.size, 0, none⟩) (Nat.le_refl _) (.int .i64 36)
    refine leaves_cons (f := 83) (args := #[.pointer (some ⟨w.heap.size, 0, none⟩)]) (by simp) (by simp [go_sem]) ?_
    refine (idle_code _ _).mono ?_
    rintro e u' w'' ⟨rfl, rfl, rfl⟩
    simp [Leaves, settle, results, Tryz.results49, go_sem, hcF]
    exact huF
  | some m =>
    go_enter_defers Tryz.func49, Tryz.ntmps49
    go_wp2_with (first | (go_at_call 84; (with_reducible refine (HA.out).mono ?_); rintro r wA ⟨rfl, wX, huA, rfl⟩; have hBX := (hB0.up huA).set 0 (.int .i64 m); have hcX := hBX.cell 0 rfl; have hfX := hBX.frozen 0))
    have hBF := hBX.set 0 (.int .i64 m)
    have hcF := hBF.cell 0 rfl
    have huF := ((hu0.trans huA).setCell (p := ⟨w.heap.size, 0, none⟩) (Nat.le_refl _) (.int .i64 m)).setCell (p := ⟨w.heap.size, 0, none⟩) (Nat.le_refl _) (.int .i64 m)
    refine leaves_cons (f := 83) (args := #[.pointer (some ⟨w.heap.size, 0, none⟩)]) (by simp) (by simp [go_sem]) ?_
    refine (idle_code _ _).mono ?_
    rintro e u' w'' ⟨rfl, rfl, rfl⟩
    simp [Leaves, settle, results, Tryz.results49, go_sem, hcF]
    exact huF
end Go.Proofs.YtnpaodlhhcnbgaaGreatDoor
namespace Go.Proofs.YtnpaodlhhcnbgaaGreatDoor
open Go Go.RowKit
set_option maxRecDepth 100000
def zth (l : List Int) (i : Nat) : Int := l.getD i 0
theorem zth_get {l : List Int} {i : Nat} (h : i < l.length) : zth l i = l[i] := by
  unfold zth; rw [List.getD_eq_getElem?_getD, List.getElem?_eq_getElem h]; rfl
def Vw (w : World) (v : Value) (l : List Int) : Prop :=
  ∃ p cap, v = .slice p l.length cap ∧ (l.length ≤ cap ∧ (p = none → cap = 0)) ∧ ∀ i, i < l.length → ∃ a, p = some a ∧ w.cell? (a.add i) = some (.int .i64 (zth l i))
theorem Vw.up {w w' : World} (hu : Up w w') {v : Value} {l : List Int} (h : Vw w v l) : Vw w' v l := by
  obtain ⟨p, cap, e, hcap, hc⟩ := h
  refine ⟨p, cap, e, hcap, fun i hi => ?_⟩
  obtain ⟨a, ha, h1⟩ := hc i hi
  exact ⟨a, ha, hu.cellEq h1⟩
def I64 (z : Int) : Prop := -9223372036854775808 ≤ z ∧ z < 9223372036854775808
def In64 (l : List Int) : Prop := ∀ i, i < l.length → I64 (zth l i)
def Sm (w : World) (v : Value) (N : Int) (l : List Int) : Prop :=
  ∃ s, v = .agg #[.int .i64 N, s] ∧ Vw w s l ∧ I64 N ∧ In64 l ∧ l.length ≤ 1000
theorem Sm.up {w w' : World} (hu : Up w w') {v : Value} {N : Int} {l : List Int} (h : Sm w v N l) : Sm w' v N l := by
  obtain ⟨s, e, h1, h2⟩ := h
  exact ⟨s, e, h1.up hu, h2⟩
def tri (n : Int) : Int := n * (n + 1) / 2
def idx (n i j : Int) : Int := tri n - tri (n - min i j) + max i j - min i j
theorem nine {n : Int} (h0 : 0 ≤ n) (h8 : n ≤ 8) : n = 0 ∨ n = 1 ∨ n = 2 ∨ n = 3 ∨ n = 4 ∨ n = 5 ∨ n = 6 ∨ n = 7 ∨ n = 8 := by omega
theorem tri_le {n : Int} (h0 : 0 ≤ n) (h8 : n ≤ 8) : 0 ≤ tri n ∧ tri n ≤ 36 := by
  rcases nine h0 h8 with rfl | rfl | rfl | rfl | rfl | rfl | rfl | rfl | rfl <;> decide
theorem tri_mul {n : Int} (h0 : 0 ≤ n) (h8 : n ≤ 8) : 0 ≤ n * (n + 1) ∧ n * (n + 1) ≤ 72 := by
  rcases nine h0 h8 with rfl | rfl | rfl | rfl | rfl | rfl | rfl | rfl | rfl <;> decide
theorem entries_any (n : Int) (h0 : 0 ≤ n) (h8 : n ≤ 8) (w : World) :
    Calls Tryz.prog 75 #[.int .i64 n] w fun e w' => e = .returned (.int .i64 (tri n)) ∧ w' = w := by
  have ⟨m1, m2⟩ := tri_mul h0 h8
  obtain ⟨p, hp⟩ : ∃ p, n * (n + 1) = p := ⟨_, rfl⟩
  have ht : tri n = p / 2 := by unfold tri; rw [hp]
  rw [ht]
  have hm : IntKind.i64.wrap (n * (n + 1)) = p := by rw [hp]; rw [hp] at m1 m2; exact IntWalk.i64_in _ (by omega)
  rw [hp] at m1 m2
  clear ht hp
  go_enter Tryz.func75, Tryz.ntmps75
  go_wp2
  go_ret
  exact ⟨rfl, rfl⟩
theorem hasrow_any {v : Value} {N : Int} {l : List Int} (i : Int) {w : World} (h : Sm w v N l) :
    Calls Tryz.prog 108 #[v, .int .i64 i] w fun e w' => e = .returned (.bool (decide (0 ≤ i ∧ i < N))) ∧ Up w w' := by
  obtain ⟨s, rfl, _, _⟩ := h
  by_cases h1 : 0 ≤ i
  · by_cases h2 : i < N
    · rw [show decide (0 ≤ i ∧ i < N) = true from decide_eq_true ⟨h1, h2⟩]
      go_enter Tryz.func108, Tryz.ntmps108
      go_wp2
      go_ret
      exact ⟨rfl, Up.alloc _ _⟩
    · rw [show decide (0 ≤ i ∧ i < N) = false from decide_eq_false (by omega)]
      go_enter Tryz.func108, Tryz.ntmps108
      go_wp2
      go_ret
      exact ⟨rfl, Up.alloc _ _⟩
  · rw [show decide (0 ≤ i ∧ i < N) = false from decide_eq_false (by omega)]
    go_enter Tryz.func108, Tryz.ntmps108
    go_wp2
    go_ret
    exact ⟨rfl, Up.alloc _ _⟩
def fit (v : Int) : Bool := decide (-1073741824 ≤ v ∧ v ≤ 1073741824)
theorem fits_any (v : Int) (h : I64 v) (w : World) :
    Calls Tryz.prog 76 #[.int .i64 v] w fun e w' => e = .returned (.bool (fit v)) ∧ Up w w' := by
  have HA := hid (fx_amount v h.1 h.2)
  unfold I64 at h
  by_cases h1 : v.natAbs < 9223372036854775808
  · have HA := hid (fun w => fx_amount v h.1 h.2 w)
    rw [i64V_yes (by omega)] at HA
    by_cases h2 : v.natAbs ≤ 1073741824
    · rw [show fit v = true from decide_eq_true (by omega)]
      have d : decide (((v.natAbs : Nat) : Int) ≤ 1073741824) = true := decide_eq_true (by omega)
      clear h
      generalize v.natAbs = n at *
      go_enter Tryz.func76, Tryz.ntmps76
      go_wp2_with (first | (go_at_call 100; refine (HA.out _).mono ?_; rintro e w' ⟨rfl, hu⟩))
      go_ret
      exact ⟨rfl, gUp⟩
    · rw [show fit v = false from decide_eq_false (by omega)]
      have d : decide (((v.natAbs : Nat) : Int) ≤ 1073741824) = false := decide_eq_false (by omega)
      clear h
      generalize v.natAbs = n at *
      go_enter Tryz.func76, Tryz.ntmps76
      go_wp2_with (first | (go_at_call 100; refine (HA.out _).mono ?_; rintro e w' ⟨rfl, hu⟩))
      go_ret
      exact ⟨rfl, gUp⟩
  · have HA := hid (fun w => fx_amount v h.1 h.2 w)
    rw [i64V_no (by omega)] at HA
    rw [show fit v = false from decide_eq_false (by omega)]
    clear h h1
    go_enter Tryz.func76, Tryz.ntmps76
    go_wp2_with (first | (go_at_call 100; refine (HA.out _).mono ?_; rintro e w' ⟨rfl, hu⟩))
    go_ret
    exact ⟨rfl, gUp⟩
def rt (N : Int) (l : List Int) : Bool := decide (0 ≤ N ∧ N ≤ 8 ∧ (l.length : Int) = tri N) && l.all fit
theorem rt_no {N : Int} {l : List Int} (h : ¬ (0 ≤ N ∧ N ≤ 8 ∧ (l.length : Int) = tri N)) : rt N l = false := by unfold rt; rw [decide_eq_false h]; rfl
theorem rt_yes {N : Int} {l : List Int} (h : 0 ≤ N ∧ N ≤ 8 ∧ (l.length : Int) = tri N) : rt N l = l.all fit := by unfold rt; rw [decide_eq_true h]; rfl
theorem all_no {l : List Int} {k : Nat} (hk : k < l.length) (h : fit (zth l k) = false) : l.all fit = false := by
  rw [zth_get hk] at h
  rw [List.all_eq_false]
  exact ⟨l[k], List.getElem_mem hk, by rw [h]; decide⟩
theorem all_yes {l : List Int} (h : ∀ k, k < l.length → fit (zth l k) = true) : l.all fit = true := by
  rw [List.all_eq_true]
  intro x hx
  obtain ⟨k, hk, rfl⟩ := List.getElem_of_mem hx
  rw [← zth_get hk]
  exact h k hk
theorem up_alloc_drewN (w : World) (o : Obj) (n : Nat) : Up w ((w.alloc o).drewN n) := below_drewN (Up.alloc w o) n
set_option maxHeartbeats 2000000 in
theorem sright_any {v : Value} {N : Int} {l : List Int} {w : World} (h : Sm w v N l) :
    Calls Tryz.prog 41 #[v] w fun e w' => e = .returned (.bool (rt N l)) ∧ Up w w' := by
  obtain ⟨s, rfl, ⟨p, cap, rfl, hcap, hc⟩, hN, hl, hlen⟩ := h
  unfold I64 at hN
  by_cases hb : 0 ≤ N ∧ N ≤ 8
  · obtain ⟨b1, b2⟩ := hb
    have d1 : decide (N < 0) = false := decide_eq_false (by omega)
    have d2 : decide (8 < N) = false := decide_eq_false (by omega)
    have HE := hid (fun w => entries_any N b1 b2 w)
    by_cases hT : (l.length : Int) = tri N
    · have hR := rt_yes ⟨b1, b2, hT⟩
      have d3 : ((l.length : Int) != tri N) = false := by rw [hT]; simp
      generalize tri N = T at *
      have HL := hid hl
      have HC := hid (fun w' (hu : Up w w') (i : Nat) (hi : i < l.length) => (show ∃ a, p = some a ∧ w'.cell? (a.add i) = some (.int .i64 (zth l i)) from by obtain ⟨a, h1, h2⟩ := hc i hi; exact ⟨a, h1, hu.cellEq h2⟩))
      rw [hR]
      obtain ⟨n, hn⟩ : ∃ n, l.length = n := ⟨_, rfl⟩
      have HN := hid hn
      rw [hn] at d3 HC hlen ⊢
      clear hR hl hc hT hcap hn
      go_enter Tryz.func41, Tryz.ntmps41
      go_wp2_with fail
      go_quiet ((go_at_call 75; exact Calls.quiet_of_same (HE.out _)))
      go_wp2_with fail
      go_loopg [25] n (fun g ti wr => ∃ k : Nat, k ≤ n ∧ n - k ≤ g ∧ ti = .int .i64 (k : Nat) ∧ Up w wr ∧ Hid (∀ j, j < k → fit (zth l j) = true))
      case atStart => exact ⟨0, Nat.zero_le _, Nat.le_refl _, rfl, up_alloc_drewN _ _ _, hid (fun j hj => absurd hj (Nat.not_lt_zero _))⟩
      case round =>
        clear d1 d2 d3
        obtain ⟨k, hk, hkg, rfl, hu, HA⟩ := hrel
        by_cases hlt : k < n
        · have e1 : IntKind.i64.wrap ((k : Int) + 1) = (k : Int) + 1 := IntWalk.i64_in _ (by omega)
          obtain ⟨a, rfl, hcell⟩ := HC.out _ hu k hlt
          have HF := hid (fun w => fits_any (zth l k) (HL.out k (by rw [HN.out]; exact hlt)) w)
          cases hf : fit (zth l k) with
          | true =>
            rw [hf] at HF
            have Hf := hid hf
            clear hf
            go_wp2_with (first | (go_at_call 76; refine (HF.out _).mono ?_; rintro e w' ⟨rfl, hu9⟩))
            go_roundg (n - (k + 1))
            case measure => omega
            case rel => exact ⟨k + 1, by omega, Nat.le_refl _, rfl, hu.trans hu9, hid (fun j hj => by rcases Nat.lt_succ_iff_lt_or_eq.1 hj with h | h; exact HA.out j h; rw [h]; exact Hf.out)⟩
          | false =>
            rw [hf] at HF
            have Hf := hid hf
            clear hf
            go_wp2_with (first | (go_at_call 76; refine (HF.out _).mono ?_; rintro e w' ⟨rfl, hu9⟩))
            go_ret
            exact ⟨by rw [all_no (by rw [HN.out]; exact hlt) Hf.out]; rfl, hu.trans hu9⟩
        · obtain rfl : k = n := by omega
          have HX := hid (all_yes (by rw [HN.out]; exact HA.out))
          clear hlt hk
          go_wp2_with fail
          go_ret
          exact ⟨by rw [HX.out]; rfl, hu⟩
    · rw [rt_no (fun h => hT h.2.2)]
      have d3 : ((l.length : Int) != tri N) = true := by simpa using hT
      generalize tri N = T at *
      clear hT hl hc
      go_enter Tryz.func41, Tryz.ntmps41
      go_wp2_with fail
      go_quiet ((go_at_call 75; exact Calls.quiet_of_same (HE.out _)))
      go_wp2_with fail
      go_ret
      exact ⟨rfl, up_alloc_drewN _ _ _⟩
  · rw [rt_no (fun h => hb ⟨h.1, h.2.1⟩)]
    by_cases h0 : N < 0
    · have d1 : decide (N < 0) = true := decide_eq_true h0
      clear hb hl hc
      go_enter Tryz.func41, Tryz.ntmps41
      go_wp2_with fail
      go_quiet (fail)
      go_wp2_with fail
      go_ret
      exact ⟨rfl, up_alloc_drewN _ _ _⟩
    · have d1 : decide (N < 0) = false := decide_eq_false h0
      have d2 : decide (8 < N) = true := decide_eq_true (by omega)
      clear hb hl hc
      go_enter Tryz.func41, Tryz.ntmps41
      go_wp2_with fail
      go_quiet (fail)
      go_wp2_with fail
      go_ret
      exact ⟨rfl, up_alloc_drewN _ _ _⟩
theorem noSevN (v : Value) (xT : TypeId) (w : World) : (Instr.typeAssert (.iface 90 v) xT 184 true).run Tryz.prog w = .ok (.tuple #[.nilIface, .bool false]) w := run_typeAssert_lacksB Tryz.underlying184 (by kernel_rfl) (by kernel_rfl) v xT w
theorem isF (v : Value) (w : World) : (Instr.typeAssert (.iface 135 v) 35 135 true).run Tryz.prog w = .ok (.tuple #[v, .bool true]) w := by kernel_rfl
theorem notFN (v : Value) (w : World) : (Instr.typeAssert (.iface 90 v) 35 135 true).run Tryz.prog w = .ok (.tuple #[.pointer none, .bool false]) w := by kernel_rfl
theorem first_num (n : Int) (w : World) : Calls Tryz.prog 113 #[.iface 90 (.int .i64 n)] w fun r w' => r = .returned .nilIface ∧ w' = w := by
  have h1 := noSevN
  go_enter Tryz.func113, Tryz.ntmps113
  go_wp2
  go_ret
  exact ⟨rfl, rfl⟩
def Out (w : World) (p : Value) : List ByteArray → Prop
  | [] => p = .pointer none
  | op :: l => ∃ b u, p = .pointer (some ⟨b, 0, none⟩) ∧ Blk w b 138 #[.string op, u] ∧ ((u = .nilIface ∧ l = []) ∨ ∃ e, IsEr w u e ∧ e.ops = l)
set_option maxHeartbeats 4000000 in
theorem out_any {e : Er} {v : Value} {w0 w : World} (h : IsEr w0 v e) (_hu0 : Up w0 w) :
    Calls Tryz.prog 82 #[v] w fun r w' => ∃ p, r = .returned p ∧ Up w w' ∧ Out w0 p e.ops := by
  obtain ⟨l, hl⟩ : ∃ l, e.ops = l := ⟨_, rfl⟩
  have HL := hid hl
  rw [hl]
  clear hl
  go_enter_defers Tryz.func82, Tryz.ntmps82
  go_wp2_with fail
  go_loopg [0] (e.size + 1) (fun g tv wr => ((tv = .nilIface ∧ l = []) ∨ (∃ t u x, tv = .iface t u ∧ Er.size x + 1 ≤ g ∧ x.ops = l ∧ IsEr w0 (.iface t u) x)) ∧ Up w wr)
  case atStart =>
    obtain ⟨t, u, rfl⟩ := h.iface
    exact ⟨.inr ⟨t, u, e, rfl, Nat.le_refl _, HL.out, h⟩, Up.refl _⟩
  case round =>
    clear HL h
    obtain ⟨h1 | ⟨t, u, x, rfl, hx, hxl, hX⟩, hu⟩ := hrel
    · obtain ⟨rfl, rfl⟩ := h1
      go_wp2_with fail
      refine leaves_cons (f := 112) (args := #[]) (by simp) (by simp [go_sem]) ?_
      refine (idle_out _).mono ?_
      rintro e u' w'' ⟨rfl, rfl, rfl⟩
      exact ⟨_, results_tmp rfl _ _ _, _, rfl, hu, (by simp [Out])⟩
    · have hF := isF
      have hN := notFN
      cases x with
      | num n =>
        obtain ⟨rfl, rfl⟩ : t = _ ∧ u = _ := by simpa [IsEr] using hX
        have hnil : [] = l := hxl
        subst hnil
        go_wp2_with (first | (go_at_call 113; (with_reducible refine (first_num _ _).mono ?_); rintro r w' ⟨rfl, rfl⟩))
        go_roundg 0
        case measure => omega
        case rel => exact ⟨.inl (by simp), hu⟩
      | nilf op =>
        obtain ⟨b, hv, hB⟩ := hX
        obtain ⟨rfl, rfl⟩ : t = _ ∧ u = _ := by simpa using hv
        have hl : [op] = l := hxl
        have HL := hid hl
        clear hl hxl hv
        go_wp2_with fail
        refine leaves_cons (f := 112) (args := #[]) (by simp) (by simp [go_sem]) ?_
        refine (idle_out _).mono ?_
        rintro e u' w'' ⟨rfl, rfl, rfl⟩
        exact ⟨_, results_tmp rfl _ _ _, _, rfl, hu, HL.out ▸ ⟨b, .nilIface, rfl, hB, .inl ⟨rfl, rfl⟩⟩⟩
      | flt op y =>
        obtain ⟨b, uu, hv, hB, hY⟩ := hX
        obtain ⟨rfl, rfl⟩ : t = _ ∧ u = _ := by simpa using hv
        have hl : op :: y.ops = l := hxl
        have HL := hid hl
        have HY := hid hY
        clear hl hxl hv hY
        go_wp2_with fail
        refine leaves_cons (f := 112) (args := #[]) (by simp) (by simp [go_sem]) ?_
        refine (idle_out _).mono ?_
        rintro e u' w'' ⟨rfl, rfl, rfl⟩
        exact ⟨_, results_tmp rfl _ _ _, _, rfl, hu, HL.out ▸ ⟨b, uu, rfl, hB, .inr ⟨y, HY.out, rfl⟩⟩⟩
theorem out_nil (w : World) :
    Calls Tryz.prog 82 #[.nilIface] w fun r w' => r = .returned (.pointer none) ∧ Up w w' := by
  go_enter_defers Tryz.func82, Tryz.ntmps82
  go_wp2_with fail
  refine wp_loop_rounds 1 ?_
  rw [rounds_succ]
  go_wp2_with fail
  refine leaves_cons (f := 112) (args := #[]) (by simp) (by simp [go_sem]) ?_
  refine (idle_out _).mono ?_
  rintro e u' w'' ⟨rfl, rfl, rfl⟩
  exact ⟨_, results_tmp rfl _ _ _, rfl, Up.refl _⟩
theorem undSS : Tryz.prog.underlying 98 = some (.slice 9) := by kernel_rfl
theorem infoStr : (Tryz.prog.info? 9).map (fun i => (i.zero, i.size, i.bytes)) = some (some (.string { data := #[] }), 1, 16) := by kernel_rfl
theorem appSP {ops : Array Oper} {rest : List Oper} {Q : Exit → Act → World → Prop} {a : Act} {w : World} {d : Option Tmp} {s u : Tmp} {ty : TypeId} {pos : String} {af : Array Edge} {b n base : Nat} {v : Value} {xs : List Value} {op : ByteArray}
    (hs : a.eval (.tmp s) = v) (hu : a.eval (.tmp u) = .slice (some ⟨b, 0, none⟩) 1 1) (hB : w.cell? ⟨b, 0, none⟩ = some (.string op)) (hown : w.ownsRow base 9 1 v n xs) (hbase : base ≤ w.heap.size) (hn : n < 1000000)
    (h : ∀ v' w', w'.ownsRow base 9 1 v' (n + 1) (xs ++ [.string op]) → Below base w w' → wpList Tryz.prog ops Q rest (a.put d v') w') :
    wpList Tryz.prog ops Q ({ dst := d, op := .call { callee := .builtin .append, args := #[.tmp s, .tmp u], argTypes := #[98, 98] }, type := ty, pos := pos, after := af, guard := none } :: rest) a w := by
  obtain ⟨i0, hi0, he⟩ := Option.map_eq_some_iff.1 infoStr
  simp only [Prod.mk.injEq] at he
  have hlt := hown.lt
  refine wpList_append_own w rfl _ _ 98 rfl base 9 i0 (.string { data := #[] }) 1 16 undSS hi0 he.1 he.2.1 he.2.2 rfl (by decide) v n xs hs hown ⟨b, 0, none⟩ 1 1 [.string op] hu rfl ?_ ?_ (by unfold maxLen; omega) (by omega) hbase ?_
  · intro j x hj
    cases j with
    | zero => simp only [List.getElem?_cons_zero, Option.some.injEq] at hj; subst hj; exact hB
    | succ j => simp at hj
  · intro x hx; simp at hx; subst hx; rfl
  · intro v' w' h1 h2 _
    refine h v' w' h1 ⟨h2.os, h2.tape, h2.output, h2.size, fun k hk => h2.block k (by omega) ?_⟩
    intro e
    have := hlt k e.symm
    omega
theorem _root_.Go.World.ownsRow.up {w w' : World} {base : Nat} {e : TypeId} {size : Nat} {v : Value} {n : Nat} {xs : List Value} (h : w.ownsRow base e size v n xs) (hu : Up w w') : w'.ownsRow base e size v n xs := by
  refine ⟨h.1, ?_⟩
  rcases h.2 with h2 | ⟨g, cap, cur, h1, h2, h3, h4⟩
  · exact .inl h2
  · exact .inr ⟨g, cap, cur, h1, h2, hu.row h3, h4⟩
set_option maxHeartbeats 4000000 in
theorem ops_any {e : Er} {v : Value} {w : World} (h : IsEr w v e) (hn : e.ops.length < 1000000) :
    Calls Tryz.prog 48 #[v] w fun r w' => ∃ s, r = .returned s ∧ Up w w' ∧ w'.ownsRow w.heap.size 9 1 s e.ops.length (e.ops.map Value.string) := by
  have HO := hid (fun w' (hu : Up w w') => out_any h hu)
  obtain ⟨l, hl⟩ : ∃ l, e.ops = l := ⟨_, rfl⟩
  rw [hl] at HO hn ⊢
  clear h hl
  go_enter Tryz.func48, Tryz.ntmps48
  go_wp2_with (first | (go_at_call 82; (with_reducible refine (HO.out _ (Up.refl _)).mono ?_); rintro r wA ⟨p, rfl, huA, hA⟩))
  go_loopg [3, 4] l.length (fun k ts tp wr => ∃ d r : List ByteArray, d ++ r = l ∧ r.length ≤ k ∧ wr.ownsRow w.heap.size 9 1 ts d.length (d.map Value.string) ∧ Out w tp r ∧ Up w wr)
  case atStart => exact ⟨[], l, rfl, Nat.le_refl _, World.ownsRow_nil _ _ _ _, hA, huA⟩
  case round =>
    clear hA huA
    obtain ⟨d, r, hdr, hrk, hown, hO, hu⟩ := hrel
    cases r with
    | nil =>
      simp only [Out] at hO
      subst hO
      rw [List.append_nil] at hdr
      subst hdr
      have HW := hid hown
      clear hown
      go_wp2_with fail
      go_ret
      exact ⟨_, rfl, hu, HW.out⟩
    | cons op r =>
      obtain ⟨b, u, rfl, hB, h3⟩ := hO
      have hsz := hu.size
      have hc0 := (hB.up hu).cell 0 rfl
      have hdl : d.length + (r.length + 1) = l.length := by rw [← hdr]; simp
      have hr1 : r.length + 1 ≤ gk := hrk
      have HDR := hid (show (d ++ [op]) ++ r = l by rw [← hdr]; simp)
      clear hdr hrk
      rcases h3 with ⟨rfl, rfl⟩ | ⟨x, hx, rfl⟩
      · go_wp2_with (first | ((with_reducible apply appSP (op := op)); exact rfl; exact rfl; (focus (simp; done)); exact hown.alloc _; (focus (simp; omega)); omega; rintro v' w' h1 h2; have hu2 : Up w w' := Below.trans (hu.trans (Up.alloc _ _)) h2; have hc1 := (hB.up hu2).cell 1 rfl) | (go_at_call 82; (with_reducible refine (out_nil _).mono ?_); rintro r wB ⟨rfl, huB⟩))
        go_roundg 0
        case measure => omega
        case rel => exact ⟨d ++ [op], [], HDR.out, Nat.le_refl _, by simpa using h1.up huB, rfl, hu2.trans huB⟩
      · have HO2 := hid (fun w' (hu : Up w w') => out_any hx hu)
        go_wp2_with (first | ((with_reducible apply appSP (op := op)); exact rfl; exact rfl; (focus (simp; done)); exact hown.alloc _; (focus (simp; omega)); omega; rintro v' w' h1 h2; have hu2 : Up w w' := Below.trans (hu.trans (Up.alloc _ _)) h2; have hc1 := (hB.up hu2).cell 1 rfl) | (go_at_call 82; (with_reducible refine (HO2.out _ hu2).mono ?_); rintro r wB ⟨p, rfl, huB, hOB⟩))
        go_roundg x.ops.length
        case measure => omega
        case rel => exact ⟨d ++ [op], x.ops, HDR.out, Nat.le_refl _, by simpa using h1.up huB, hOB, hu2.trans huB⟩
theorem tri_def (n : Int) : tri n = n * (n + 1) / 2 := rfl
set_option maxHeartbeats 2000000 in
theorem rright_any {v : Value} {N : Int} {l : List Int} {w : World} (h : Sm w v N l) :
    Calls Tryz.prog 12 #[v] w fun e w' => e = .returned (.bool (rt N l)) ∧ Up w w' := by
  obtain ⟨s, rfl, ⟨p, cap, rfl, hcap, hc⟩, hN, hl, hlen⟩ := h
  unfold I64 at hN
  by_cases hb : 0 ≤ N ∧ N ≤ 8
  · obtain ⟨b1, b2⟩ := hb
    have d1 : decide (N < 0) = false := decide_eq_false (by omega)
    have d2 : decide (8 < N) = false := decide_eq_false (by omega)
    have ⟨m1, m2⟩ := tri_mul b1 b2
    obtain ⟨T2, hT2⟩ : ∃ p, N * (N + 1) = p := ⟨_, rfl⟩
    have hm : IntKind.i64.wrap (N * (N + 1)) = T2 := by rw [hT2]; rw [hT2] at m1 m2; exact IntWalk.i64_in _ (by omega)
    have htr := tri_def N
    rw [hT2] at m1 m2 htr
    by_cases hT : (l.length : Int) = T2 / 2
    · have hR := rt_yes ⟨b1, b2, by rw [htr]; exact hT⟩
      have d3 : ((l.length : Int) != T2 / 2) = false := by rw [hT]; simp
      have HL := hid hl
      have HC := hid (fun w' (hu : Up w w') (i : Nat) (hi : i < l.length) => (show ∃ a, p = some a ∧ w'.cell? (a.add i) = some (.int .i64 (zth l i)) from by obtain ⟨a, h1, h2⟩ := hc i hi; exact ⟨a, h1, hu.cellEq h2⟩))
      rw [hR]
      obtain ⟨n, hn⟩ : ∃ n, l.length = n := ⟨_, rfl⟩
      have HN := hid hn
      rw [hn] at d3 HC hlen ⊢
      clear hR hl hc hT hcap hn hT2 htr
      go_enter Tryz.func12, Tryz.ntmps12
      go_wp2_with fail
      go_loop [3] (fun ti => ∃ k : Nat, k ≤ n ∧ ti = .int .i64 (k : Nat) ∧ Hid (∀ j, j < k → fit (zth l j) = true)) (fun ti => n - (intOf ti).toNat)
      case atStart => exact ⟨0, Nat.zero_le _, rfl, hid (fun j hj => absurd hj (Nat.not_lt_zero _))⟩
      case round =>
        clear d1 d2 d3 hm
        obtain ⟨k, hk, rfl, HA⟩ := hrel
        by_cases hlt : k < n
        · have e1 : IntKind.i64.wrap ((k : Int) + 1) = (k : Int) + 1 := IntWalk.i64_in _ (by omega)
          obtain ⟨a, rfl, hcell⟩ := HC.out _ (Up.alloc w (.cells #[.int .i64 N, .slice p n cap] 24)) k hlt
          cases hf : fit (zth l k) with
          | true =>
            have Hf := hid hf
            have ⟨f1, f2⟩ := of_decide_eq_true hf
            have q1 : decide (1073741824 < zth l k) = false := decide_eq_false (by omega)
            have q2 : decide (zth l k < -1073741824) = false := decide_eq_false (by omega)
            clear hf f1 f2
            go_wp2_with fail
            go_round
            case measure => simp [intOf]; omega
            case rel => exact ⟨k + 1, by omega, by go_num, hid (fun j hj => by rcases Nat.lt_succ_iff_lt_or_eq.1 hj with h | h; exact HA.out j h; rw [h]; exact Hf.out)⟩
          | false =>
            have Hf := hid (all_no (by rw [HN.out]; exact hlt) hf)
            have f1 := of_decide_eq_false hf
            clear hf
            by_cases q : 1073741824 < zth l k
            · have q1 : decide (1073741824 < zth l k) = true := decide_eq_true q
              clear f1
              go_wp2_with fail
              go_ret
              exact ⟨by rw [Hf.out]; rfl, Up.alloc _ _⟩
            · have q1 : decide (1073741824 < zth l k) = false := decide_eq_false q
              have q2 : decide (zth l k < -1073741824) = true := decide_eq_true (by omega)
              clear f1
              go_wp2_with fail
              go_ret
              exact ⟨by rw [Hf.out]; rfl, Up.alloc _ _⟩
        · obtain rfl : k = n := by omega
          have HX := hid (all_yes (by rw [HN.out]; exact HA.out))
          clear hlt hk
          go_wp2_with fail
          go_ret
          exact ⟨by rw [HX.out]; rfl, Up.alloc _ _⟩
    · rw [rt_no (fun h => hT (by rw [← htr]; exact h.2.2))]
      have d3 : ((l.length : Int) != T2 / 2) = true := by simpa using hT
      clear hT hl hc htr hT2
      go_enter Tryz.func12, Tryz.ntmps12
      go_wp2_with fail
      go_ret
      exact ⟨rfl, Up.alloc _ _⟩
  · rw [rt_no (fun h => hb ⟨h.1, h.2.1⟩)]
    by_cases h0 : N < 0
    · have d1 : decide (N < 0) = true := decide_eq_true h0
      clear hb hl hc
      go_enter Tryz.func12, Tryz.ntmps12
      go_wp2_with fail
      go_ret
      exact ⟨rfl, Up.alloc _ _⟩
    · have d1 : decide (N < 0) = false := decide_eq_false h0
      have d2 : decide (8 < N) = true := decide_eq_true (by omega)
      clear hb hl hc
      go_enter Tryz.func12, Tryz.ntmps12
      go_wp2_with fail
      go_ret
      exact ⟨rfl, Up.alloc _ _⟩
theorem tri_ge {n : Int} (h0 : 0 ≤ n) (h8 : n ≤ 8) : n ≤ tri n := by
  rcases nine h0 h8 with rfl | rfl | rfl | rfl | rfl | rfl | rfl | rfl | rfl <;> decide
theorem tri_mono {m n : Int} (h0 : 0 ≤ m) (h : m ≤ n) (h8 : n ≤ 8) : tri m ≤ tri n := by
  rcases nine (by omega : 0 ≤ n) h8 with rfl | rfl | rfl | rfl | rfl | rfl | rfl | rfl | rfl <;> rcases nine h0 (by omega) with rfl | rfl | rfl | rfl | rfl | rfl | rfl | rfl | rfl <;> first | decide | omega
theorem idx_in {n i j : Int} (h8 : n ≤ 8) (i0 : 0 ≤ i) (i1 : i < n) (j0 : 0 ≤ j) (j1 : j < n) : 0 ≤ idx n i j ∧ idx n i j < tri n := by
  have a := tri_ge (n := n - min i j) (by omega) (by omega)
  have b := tri_mono (m := n - min i j) (n := n) (by omega) (by omega) h8
  unfold idx
  omega
theorem idx_at {n i : Int} (h8 : n ≤ 8) (i0 : 0 ≤ i) (i1 : i < n) : i * n - i * (i - 1) / 2 = tri n - tri (n - i) := by
  rcases nine (by omega : 0 ≤ n) h8 with rfl | rfl | rfl | rfl | rfl | rfl | rfl | rfl | rfl <;> rcases nine i0 (by omega) with rfl | rfl | rfl | rfl | rfl | rfl | rfl | rfl | rfl <;> first | decide | omega
theorem idx_any (n i j : Int) (h8 : n ≤ 8) (i0 : 0 ≤ i) (i1 : i < n) (j0 : 0 ≤ j) (j1 : j < n) (w : World) :
    Calls Tryz.prog 109 #[.int .i64 n, .int .i64 i, .int .i64 j] w fun e w' => e = .returned (.int .i64 (idx n i j)) ∧ w' = w := by
  have ⟨x1, x2⟩ := idx_in h8 i0 i1 j0 j1
  have ⟨t1, t2⟩ := tri_le (n := n) (by omega) h8
  have HE := hid (fun w => entries_any n (by omega) h8 w)
  by_cases hij : j < i
  · have ⟨t3, t4⟩ := tri_le (n := n - j) (by omega) (by omega)
    have HF := hid (fun w => entries_any (n - j) (by omega) (by omega) w)
    have e : idx n i j = tri n - tri (n - j) + i - j := by unfold idx; rw [show min i j = j by omega, show max i j = i by omega]
    rw [e]
    clear e x1 x2
    generalize tri n = T at *
    generalize tri (n - j) = T' at *
    go_enter Tryz.func109, Tryz.ntmps109
    go_wp2_with (first | (go_at_call 75; first | ((with_reducible refine (HE.out _).mono ?_); rintro e w' ⟨rfl, rfl⟩) | ((with_reducible refine (HF.out _).mono ?_); rintro e w' ⟨rfl, rfl⟩)))
    go_ret
    exact ⟨rfl, rfl⟩
  · have ⟨t3, t4⟩ := tri_le (n := n - i) (by omega) (by omega)
    have HF := hid (fun w => entries_any (n - i) (by omega) (by omega) w)
    have e : idx n i j = tri n - tri (n - i) + j - i := by unfold idx; rw [show min i j = i by omega, show max i j = j by omega]
    rw [e]
    clear e x1 x2
    generalize tri n = T at *
    generalize tri (n - i) = T' at *
    go_enter Tryz.func109, Tryz.ntmps109
    go_wp2_with (first | (go_at_call 75; first | ((with_reducible refine (HE.out _).mono ?_); rintro e w' ⟨rfl, rfl⟩) | ((with_reducible refine (HF.out _).mono ?_); rintro e w' ⟨rfl, rfl⟩)))
    go_ret
    exact ⟨rfl, rfl⟩
theorem at_pre {n i : Int} (h8 : n ≤ 8) (i0 : 0 ≤ i) (i1 : i < n) : 0 ≤ i * n ∧ i * n ≤ 64 ∧ 0 ≤ i * (i - 1) ∧ i * (i - 1) ≤ 64 := by
  rcases nine (by omega : 0 ≤ n) h8 with rfl | rfl | rfl | rfl | rfl | rfl | rfl | rfl | rfl <;> rcases nine i0 (by omega) with rfl | rfl | rfl | rfl | rfl | rfl | rfl | rfl | rfl <;> first | decide | omega
theorem rat_any (n i j : Int) (h8 : n ≤ 8) (i0 : 0 ≤ i) (i1 : i < n) (j0 : 0 ≤ j) (j1 : j < n) (w : World) :
    Calls Tryz.prog 57 #[.int .i64 n, .int .i64 i, .int .i64 j] w fun e w' => e = .returned (.int .i64 (idx n i j)) ∧ w' = w := by
  by_cases hij : j < i
  · have ⟨p1, p2, p3, p4⟩ := at_pre h8 j0 j1
    have e : idx n i j = j * n - j * (j - 1) / 2 + i - j := by unfold idx; rw [show min i j = j by omega, show max i j = i by omega, idx_at h8 j0 j1]
    rw [e]
    obtain ⟨P, hP⟩ : ∃ P, j * n = P := ⟨_, rfl⟩
    obtain ⟨R, hR⟩ : ∃ R, j * (j - 1) = R := ⟨_, rfl⟩
    have m1 : IntKind.i64.wrap (j * n) = P := by rw [hP]; rw [hP] at p1 p2; exact IntWalk.i64_in _ (by omega)
    have m2 : IntKind.i64.wrap (j * (j - 1)) = R := by rw [hR]; rw [hR] at p3 p4; exact IntWalk.i64_in _ (by omega)
    rw [hP, hR]
    rw [hP] at p1 p2; rw [hR] at p3 p4
    clear e hP hR
    go_enter Tryz.func57, Tryz.ntmps57
    go_wp2_with fail
    go_ret
    exact ⟨rfl, rfl⟩
  · have ⟨p1, p2, p3, p4⟩ := at_pre h8 i0 i1
    have e : idx n i j = i * n - i * (i - 1) / 2 + j - i := by unfold idx; rw [show min i j = i by omega, show max i j = j by omega, idx_at h8 i0 i1]
    rw [e]
    obtain ⟨P, hP⟩ : ∃ P, i * n = P := ⟨_, rfl⟩
    obtain ⟨R, hR⟩ : ∃ R, i * (i - 1) = R := ⟨_, rfl⟩
    have m1 : IntKind.i64.wrap (i * n) = P := by rw [hP]; rw [hP] at p1 p2; exact IntWalk.i64_in _ (by omega)
    have m2 : IntKind.i64.wrap (i * (i - 1)) = R := by rw [hR]; rw [hR] at p3 p4; exact IntWalk.i64_in _ (by omega)
    rw [hP, hR]
    rw [hP] at p1 p2; rw [hR] at p3 p4
    clear e hP hR
    go_enter Tryz.func57, Tryz.ntmps57
    go_wp2_with fail
    go_ret
    exact ⟨rfl, rfl⟩
def symB : ByteArray := { data := #[115, 121, 109] }
theorem wrong_any (n : Int) (w : World) :
    Calls Tryz.prog 107 #[.int .i64 n] w fun r w' => ∃ t u, r = .returned (.iface t u) ∧ Up w w' ∧ IsEr w' (.iface t u) (.flt symB (.num n)) := by
  have HW := hid (fun w => wrap_any (op := { data := #[115, 121, 109] }) (v := .iface 90 (.int .i64 n)) (e := .num n) (w := w) rfl)
  go_enter Tryz.func107, Tryz.ntmps107
  go_wp2_with (first | (go_at_call 77; (with_reducible refine (HW.out _).mono ?_); rintro r w1 ⟨u1, rfl, hu1, h1⟩))
  go_ret
  obtain ⟨t, u, rfl⟩ := h1.iface
  exact ⟨t, u, rfl, hu1, h1⟩
section
variable {P : Program} {o : Oper} {a : Act} {x y : Operand} {t u : TypeId}
theorem op_shr (ho : o.op = .binOp .shr t x y u) {X s : Nat} (hx : a.eval x = .int .u64 (X : Nat)) (hy : a.eval y = .int .u64 (s : Nat)) (hs : s ≤ 64) (w : World) :
    (execOp a.eval o).run P w = .ok (.value (.int .u64 ((X / 2 ^ s : Nat) : Int))) w := by
  unfold execOp
  simp only [ho, hx, hy, eqGuard, binOp, shift_shr .u64 .u64 (X : Int) (s : Int) (by omega) (show (s : Int) ≤ 64 by omega)]
  simp
theorem op_shl (ho : o.op = .binOp .shl t x y u) {X s : Nat} (hx : a.eval x = .int .u64 (X : Nat)) (hy : a.eval y = .int .u64 (s : Nat)) (hs : s ≤ 64) (w : World) :
    (execOp a.eval o).run P w = .ok (.value (.int .u64 ((X * 2 ^ s % 18446744073709551616 : Nat) : Int))) w := by
  unfold execOp
  simp only [ho, hx, hy, eqGuard, binOp, shift_shl .u64 .u64 (X : Int) (s : Int) (by omega) (show (s : Int) ≤ 64 by omega), IntKind.wrap_u64]
  simp
theorem op_or (ho : o.op = .binOp .or t x y u) {X Y : Nat} (hx : a.eval x = .int .u64 (X : Nat)) (hy : a.eval y = .int .u64 (Y : Nat)) (hX : X < 18446744073709551616) (hY : Y < 18446744073709551616) (w : World) :
    (execOp a.eval o).run P w = .ok (.value (.int .u64 ((X ||| Y : Nat) : Int))) w := by
  unfold execOp
  simp only [ho, hx, hy, eqGuard, binOp, intBits_or, bits_or_u64_nat X Y hX hY]
  simp
theorem op_sub (ho : o.op = .binOp .sub t x y u) {X Y : Nat} (hx : a.eval x = .int .u64 (X : Nat)) (hy : a.eval y = .int .u64 (Y : Nat)) (hX : X < 18446744073709551616) (hY : Y ≤ X) (w : World) :
    (execOp a.eval o).run P w = .ok (.value (.int .u64 ((X - Y : Nat) : Int))) w := by
  have e : IntKind.u64.wrap ((X : Int) - (Y : Int)) = ((X - Y : Nat) : Int) := by rw [IntKind.wrap_u64]; omega
  unfold execOp
  simp only [ho, hx, hy, eqGuard, binOp, Op.intArith, e]
  simp
end
theorem or_add {X Y s : Nat} (hY : Y < 2 ^ s) : (2 ^ s * X) ||| Y = 2 ^ s * X + Y := (Nat.two_pow_add_eq_or_of_lt hY X).symm
theorem shl_mod {x s : Nat} (hs : s ≤ 64) : x * 2 ^ s % 18446744073709551616 = 2 ^ s * (x % 2 ^ (64 - s)) := by
  have e : (18446744073709551616 : Nat) = 2 ^ s * 2 ^ (64 - s) := by rw [← Nat.pow_add, show s + (64 - s) = 64 by omega]
  rw [e, Nat.mul_comm x, Nat.mul_mod_mul_left]
theorem shr_low {x s : Nat} (hs : s ≤ 64) : x * 2 ^ s / 18446744073709551616 = x / 2 ^ (64 - s) := by
  have e : (18446744073709551616 : Nat) = 2 ^ s * 2 ^ (64 - s) := by rw [← Nat.pow_add, show s + (64 - s) = 64 by omega]
  rw [e, Nat.mul_comm x, Nat.mul_div_mul_left _ _ (Nat.two_pow_pos s)]
def rsh (f : Nat → Nat) (s i : Nat) : Nat := f i / 2 ^ s + 2 ^ (64 - s) * (f (i + 1) % 2 ^ s)
theorem rsh_or {x y s : Nat} (hs : s ≤ 64) (hx : x < 18446744073709551616) : x / 2 ^ s ||| y * 2 ^ (64 - s) % 18446744073709551616 = x / 2 ^ s + 2 ^ (64 - s) * (y % 2 ^ s) := by
  rw [shl_mod (show 64 - s ≤ 64 by omega), show 64 - (64 - s) = s by omega, Nat.or_comm, or_add, Nat.add_comm]
  rw [Nat.div_lt_iff_lt_mul (Nat.two_pow_pos s), ← Nat.pow_add, show 64 - s + s = 64 by omega]
  exact hx
theorem rsh_lt {f : Nat → Nat} {s i : Nat} (hs : s ≤ 64) (h : f i < 18446744073709551616) : rsh f s i < 18446744073709551616 := by
  have h1 : f i / 2 ^ s < 2 ^ (64 - s) := by
    rw [Nat.div_lt_iff_lt_mul (Nat.two_pow_pos s), ← Nat.pow_add, show 64 - s + s = 64 by omega]
    exact h
  have h2 := Nat.mod_lt (f (i + 1)) (Nat.two_pow_pos s)
  have h3 : 2 ^ (64 - s) * (f (i + 1) % 2 ^ s + 1) ≤ 2 ^ (64 - s) * 2 ^ s := Nat.mul_le_mul_left _ h2
  rw [← Nat.pow_add, show 64 - s + s = 64 by omega, Nat.mul_add] at h3
  unfold rsh
  omega
theorem rsh_sum (f : Nat → Nat) {s : Nat} (hs : s ≤ 64) (k : Nat) : 2 ^ s * sumL (rsh f s) k + f 0 % 2 ^ s = sumL f k + f k % 2 ^ s * bp k := by
  induction k with
  | zero => rw [sumL_zero, sumL_zero, bp_zero]; omega
  | succ k ih =>
    have e : 2 ^ s * 2 ^ (64 - s) = (18446744073709551616 : Nat) := by rw [← Nat.pow_add, show s + (64 - s) = 64 by omega]
    have h1 := Nat.div_add_mod (f k) (2 ^ s)
    rw [sumL_succ, sumL_succ, bp_succ]
    unfold rsh at *
    generalize f (k + 1) % 2 ^ s = t at *
    generalize f k / 2 ^ s = u at *
    generalize f k % 2 ^ s = v at *
    generalize f 0 % 2 ^ s = z at *
    generalize 2 ^ (64 - s) = q at *
    generalize 2 ^ s = p at *
    generalize sumL (fun i => _) k = S at *
    generalize sumL f k = F at *
    generalize bp k = b at *
    rw [← h1]
    grind
theorem rsh_num {f : Nat → Nat} {s : Nat} (hs : s ≤ 64) {n : Nat} (hf : ∀ i, i < n + 1 → f i < 18446744073709551616) : sumL (rsh f s) n = sumL f (n + 1) / 2 ^ s % bp n := by
  have h := rsh_sum f hs n
  have h1 := Nat.div_add_mod (f n) (2 ^ s)
  have h2 := Nat.mod_lt (f 0) (Nat.two_pow_pos s)
  have h3 := sumL_lt (f := rsh f s) (k := n) fun i hi => rsh_lt hs (hf i (by omega))
  have e : sumL f (n + 1) = f 0 % 2 ^ s + 2 ^ s * (sumL (rsh f s) n + f n / 2 ^ s * bp n) := by
    rw [sumL_succ]
    generalize f n / 2 ^ s = u at *
    generalize f n % 2 ^ s = v at *
    generalize f 0 % 2 ^ s = z at *
    generalize 2 ^ s = p at *
    rw [← h1]
    grind
  rw [e, Nat.add_mul_div_left _ _ (Nat.two_pow_pos s), Nat.div_eq_of_lt h2, Nat.zero_add, Nat.add_mul_mod_self_right, Nat.mod_eq_of_lt h3]
theorem undL : Tryz.prog.underlying 201 = some (.array 17 31) := by kernel_rfl
theorem infoL : (Tryz.prog.info? 201).map (·.size) = some 17 := by kernel_rfl
def longV (f : Nat → Nat) : Value := .agg (cells 17 f)
set_option maxHeartbeats 1000000 in
theorem right_any (f : Nat → Nat) (hf : ∀ i, i < 17 → f i < 18446744073709551616) (s : Nat) (hs : s < 64) (w : World) :
    Calls Tryz.prog 142 #[longV f, .int .u64 (s : Nat)] w fun e w' => e = .returned (wideV (sumL f 17 / 2 ^ s % bp 16)) ∧ Up w w' := by
  rw [← rsh_num (by omega) hf]
  have hrl : ∀ i, i < 16 → rsh f s i < 18446744073709551616 := fun i hi => rsh_lt (by omega) (hf i (by omega))
  rw [← wide_of hrl]
  unfold longV
  go_enter Tryz.func142, Tryz.ntmps142
  go_wp2
  go_loopw [7] (fun i wr => ∃ (k : Nat) (g : Nat → Nat), k ≤ 16 ∧ i = .int .i64 k ∧ (∀ i, i < k → g i = rsh f s i) ∧
      Row wr w.heap.size 201 17 f ∧ Row wr (w.heap.size + 1) 33 16 (fun _ => 0) ∧ Row wr (w.heap.size + 1 + 1) 33 16 g ∧ Below w.heap.size w wr)
    (fun i _ => 16 - (intOf i).toNat)
  case atStart => exact ⟨0, fun _ => 0, by omega, rfl, fun i h => by omega, row_alloc (row_alloc (row_newc _ 17 _ rfl)), gRow, gRow, gUp⟩
  case round =>
    obtain ⟨k, g, hk, rfl, hg, hX, hR, hM, hB⟩ := hrel
    have Hg := hid hg
    have Hf := hid hf
    have Hrl := hid hrl
    clear hg hf hrl
    by_cases hlt : k < 16
    · have hcx := hX.cell k (by omega)
      have hcy := hX.cell (k + 1) (by omega)
      have hf1 := Hf.out k (by omega)
      have hf2 := Hf.out (k + 1) (by omega)
      have hq : f k / 2 ^ s < 18446744073709551616 := Nat.lt_of_le_of_lt (Nat.div_le_self _ _) hf1
      have HO : Hid (f k / 2 ^ s ||| f (k + 1) * 2 ^ (64 - s) % 18446744073709551616 = rsh f s k) := hid (rsh_or (y := f (k + 1)) (show s ≤ 64 by omega) hf1)
      have hk1 : (k : Int) < 17 := by omega
      have hk2 : (k : Int) + 1 < 17 := by omega
      have hk3 : (0 : Int) ≤ (k : Int) + 1 := by omega
      have E1 : Hid (IntKind.i64.wrap ((k : Int) + 1) = (k : Int) + 1) := hid (IntWalk.i64_in _ (by omega))
      have E2 : Hid (((k : Int) + 1).toNat = k + 1) := hid (by omega)
      go_wp2
      refine wp_region_upS (S := (fun wq => Row wq w.heap.size 201 17 f ∧ Row wq (w.heap.size + 1) 33 16 (fun _ => 0) ∧ Row wq (w.heap.size + 1 + 1) 33 16 g ∧ wq.cell? ⟨w.heap.size, k, none⟩ = some (.int .u64 (f k : Nat)) ∧ wq.cell? ⟨w.heap.size, k + 1, none⟩ = some (.int .u64 (f (k + 1) : Nat)) ∧ Below w.heap.size w wq)) (req := (fun j => j != 15)) (by kernel_rfl) (fun _ _ h hu => ⟨(h.1).up hu, (h.2.1).up hu, (h.2.2.1).up hu, hu.cell (h.2.2.2.1), hu.cell (h.2.2.2.2.1), below_up (h.2.2.2.2.2) hu⟩) ⟨gRow, gRow, gRow, (by first | assumption | (apply Blk.cell; exact gBlk; exact rfl)), (by first | assumption | (apply Blk.cell; exact gBlk; exact rfl)), gUp⟩ (fun wS hSS => ?_)
      have ⟨hS1, hS2, hS3, hS4, hS5, hSB⟩ := hSS
      clear hcx hcy hX hR hM hB
      refine wpAnyU_pure (i := 0) (d := (some 10)) (v := ?_) rfl rfl (by kernel_rfl) (fun _ _ _ h => h) (fun _ _ h hu => ⟨(h.1).up hu, (h.2.1).up hu, (h.2.2.1).up hu, hu.cell (h.2.2.2.1), hu.cell (h.2.2.2.2.1), below_up (h.2.2.2.2.2) hu⟩) (Or.inl ⟨by rfl, fun w' _ => yu_value ?_⟩) ?_
      rotate_left
      · (go_simp; (try exact rfl))
      try simp only [Act.put, pu1, pu2, pu3]
      refine wpAnyU_pure (i := 1) (d := (some 11)) (v := ?_) rfl rfl (by kernel_rfl) (fun _ _ _ h => h) (fun _ _ h hu => ⟨(h.1).up hu, (h.2.1).up hu, (h.2.2.1).up hu, hu.cell (h.2.2.2.1), hu.cell (h.2.2.2.2.1), below_up (h.2.2.2.2.2) hu⟩) (Or.inl ⟨by rfl, fun w' _ => yu_value ?_⟩) ?_
      rotate_left
      · (go_simp; (try exact rfl))
      try simp only [Act.put, pu1, pu2, pu3]
      refine wpAnyU_pure (i := 2) (d := (some 12)) (v := ?_) rfl rfl (by kernel_rfl) (fun _ _ _ h => h) (fun _ _ h hu => ⟨(h.1).up hu, (h.2.1).up hu, (h.2.2.1).up hu, hu.cell (h.2.2.2.1), hu.cell (h.2.2.2.2.1), below_up (h.2.2.2.2.2) hu⟩) (Or.inl ⟨by rfl, fun w' _ => yu_value ?_⟩) ?_
      rotate_left
      · (go_simp; (try exact rfl))
      try simp only [Act.put, pu1, pu2, pu3]
      refine wpAnyU_take (i := 3) (d := (some 13)) (v := ?_) rfl rfl (by kernel_rfl) (fun _ _ _ h => h) (fun _ _ h hu => ⟨(h.1).up hu, (h.2.1).up hu, (h.2.2.1).up hu, hu.cell (h.2.2.2.1), hu.cell (h.2.2.2.2.1), below_up (h.2.2.2.2.2) hu⟩) hSS (Or.inl ⟨by rfl, fun w' hSw => yu_value ?_⟩) ?_
      rotate_left
      · ((try dsimp only at hSw); (try obtain ⟨_, _, _, _, _, _⟩ := hSw); go_simp; (try exact rfl))
      try simp only [Act.put, pu1, pu2, pu3]
      refine wpAnyU_pure (i := 4) (d := (some 14)) (v := ?_) rfl rfl (by kernel_rfl) (fun _ _ _ h => h) (fun _ _ h hu => ⟨(h.1).up hu, (h.2.1).up hu, (h.2.2.1).up hu, hu.cell (h.2.2.2.1), hu.cell (h.2.2.2.2.1), below_up (h.2.2.2.2.2) hu⟩) (Or.inl ⟨by rfl, fun w' _ => yu_value ?_⟩) ?_
      rotate_left
      · (go_simp; (try exact rfl))
      try simp only [Act.put, pu1, pu2, pu3]
      refine wpAnyU_take (i := 5) (d := (some 15)) (v := _) rfl rfl (by kernel_rfl) (fun _ _ _ h => h) (fun _ _ h hu => ⟨(h.1).up hu, (h.2.1).up hu, (h.2.2.1).up hu, hu.cell (h.2.2.2.1), hu.cell (h.2.2.2.2.1), below_up (h.2.2.2.2.2) hu⟩) hSS (Or.inl ⟨by rfl, fun w' hSw => yu_value (op_shr rfl rfl rfl (by omega) _)⟩) ?_
      try simp only [Act.put, pu1, pu2, pu3]
      refine wpAnyU_pure (i := 6) (d := (some 16)) (v := ?_) rfl rfl (by kernel_rfl) (fun _ _ _ h => h) (fun _ _ h hu => ⟨(h.1).up hu, (h.2.1).up hu, (h.2.2.1).up hu, hu.cell (h.2.2.2.1), hu.cell (h.2.2.2.2.1), below_up (h.2.2.2.2.2) hu⟩) (Or.inl ⟨by rfl, fun w' _ => yu_value ?_⟩) ?_
      rotate_left
      · (go_simp; (try exact rfl))
      try simp only [Act.put, pu1, pu2, pu3]
      refine wpAnyU_take (i := 7) (d := (some 17)) (v := ?_) rfl rfl (by kernel_rfl) (fun _ _ _ h => h) (fun _ _ h hu => ⟨(h.1).up hu, (h.2.1).up hu, (h.2.2.1).up hu, hu.cell (h.2.2.2.1), hu.cell (h.2.2.2.2.1), below_up (h.2.2.2.2.2) hu⟩) hSS (Or.inl ⟨by rfl, fun w' hSw => yu_value ?_⟩) ?_
      rotate_left
      · (have e1 := E1.out; go_simp; (try exact rfl))
      try simp only [Act.put, pu1, pu2, pu3]
      refine wpAnyU_take (i := 8) (d := (some 18)) (v := ?_) rfl rfl (by kernel_rfl) (fun _ _ _ h => h) (fun _ _ h hu => ⟨(h.1).up hu, (h.2.1).up hu, (h.2.2.1).up hu, hu.cell (h.2.2.2.1), hu.cell (h.2.2.2.2.1), below_up (h.2.2.2.2.2) hu⟩) hSS (Or.inl ⟨by rfl, fun w' hSw => yu_value ?_⟩) ?_
      rotate_left
      · (have e2 := E2.out; go_simp; (try exact rfl))
      try simp only [Act.put, pu1, pu2, pu3]
      refine wpAnyU_take (i := 9) (d := (some 19)) (v := ?_) rfl rfl (by kernel_rfl) (fun _ _ _ h => h) (fun _ _ h hu => ⟨(h.1).up hu, (h.2.1).up hu, (h.2.2.1).up hu, hu.cell (h.2.2.2.1), hu.cell (h.2.2.2.2.1), below_up (h.2.2.2.2.2) hu⟩) hSS (Or.inl ⟨by rfl, fun w' hSw => yu_value ?_⟩) ?_
      rotate_left
      · ((try dsimp only at hSw); (try obtain ⟨_, _, _, _, _, _⟩ := hSw); go_simp; (try exact rfl))
      try simp only [Act.put, pu1, pu2, pu3]
      refine wpAnyU_pure (i := 10) (d := (some 20)) (v := ?_) rfl rfl (by kernel_rfl) (fun _ _ _ h => h) (fun _ _ h hu => ⟨(h.1).up hu, (h.2.1).up hu, (h.2.2.1).up hu, hu.cell (h.2.2.2.1), hu.cell (h.2.2.2.2.1), below_up (h.2.2.2.2.2) hu⟩) (Or.inl ⟨by rfl, fun w' _ => yu_value ?_⟩) ?_
      rotate_left
      · (go_simp; (try exact rfl))
      try simp only [Act.put, pu1, pu2, pu3]
      refine wpAnyU_take (i := 11) (d := (some 21)) (v := _) rfl rfl (by kernel_rfl) (fun _ _ _ h => h) (fun _ _ h hu => ⟨(h.1).up hu, (h.2.1).up hu, (h.2.2.1).up hu, hu.cell (h.2.2.2.1), hu.cell (h.2.2.2.2.1), below_up (h.2.2.2.2.2) hu⟩) hSS (Or.inl ⟨by rfl, fun w' hSw => yu_value (op_sub (X := 64) rfl rfl rfl (by decide) (by omega) _)⟩) ?_
      try simp only [Act.put, pu1, pu2, pu3]
      refine wpAnyU_take (i := 12) (d := (some 22)) (v := _) rfl rfl (by kernel_rfl) (fun _ _ _ h => h) (fun _ _ h hu => ⟨(h.1).up hu, (h.2.1).up hu, (h.2.2.1).up hu, hu.cell (h.2.2.2.1), hu.cell (h.2.2.2.2.1), below_up (h.2.2.2.2.2) hu⟩) hSS (Or.inl ⟨by rfl, fun w' hSw => yu_value (op_shl rfl rfl rfl (by omega) _)⟩) ?_
      try simp only [Act.put, pu1, pu2, pu3]
      refine wpAnyU_take (i := 13) (d := (some 23)) (v := _) rfl rfl (by kernel_rfl) (fun _ _ _ h => h) (fun _ _ h hu => ⟨(h.1).up hu, (h.2.1).up hu, (h.2.2.1).up hu, hu.cell (h.2.2.2.1), hu.cell (h.2.2.2.2.1), below_up (h.2.2.2.2.2) hu⟩) hSS (Or.inl ⟨by rfl, fun w' hSw => yu_value (op_or rfl rfl rfl hq (Nat.mod_lt _ (by decide)) _)⟩) ?_
      try simp only [Act.put, pu1, pu2, pu3]
      rw [HO.out]
      refine wpAnyU_pure (i := 14) (d := (some 24)) (v := ?_) rfl rfl (by kernel_rfl) (fun _ _ _ h => h) (fun _ _ h hu => ⟨(h.1).up hu, (h.2.1).up hu, (h.2.2.1).up hu, hu.cell (h.2.2.2.1), hu.cell (h.2.2.2.2.1), below_up (h.2.2.2.2.2) hu⟩) (Or.inl ⟨by rfl, fun w' _ => yu_value ?_⟩) ?_
      rotate_left
      · (go_simp; (try exact rfl))
      try simp only [Act.put, pu1, pu2, pu3]
      refine wpAnyU_one (i := 15) rfl (by kernel_rfl) (by rfl) fun w1 hw1 => ?_
      have hcW := (hS3.up hw1).cell k (by omega)
      have hfW := (hS3.up hw1).frozen k
      go_simp
      clear hcW hfW
      refine wpAnyU_done (by kernel_rfl) (fun wF huE => ?_) _
      have hu := hw1
      have gX := (hS1.up hw1).other ⟨w.heap.size + 1 + 1, k, none⟩ (.int .u64 (rsh f s k : Nat)) (by simp; omega)
      have gR := (hS2.up hw1).other ⟨w.heap.size + 1 + 1, k, none⟩ (.int .u64 (rsh f s k : Nat)) (by simp)
      have gM := (hS3.up hw1).set k (rsh f s k)
      have gB := (below_up hSB hw1).setCell (p := ⟨w.heap.size + 1 + 1, k, none⟩) (by simp; omega) (.int .u64 (rsh f s k : Nat))
      replace gX := gX.up huE
      replace gR := gR.up huE
      replace gM := gM.up huE
      replace gB := below_up gB huE
      clear hS1 hS2 hS3 hS4 hS5 hSB hSS hw1 hu huE
      go_wp2
      go_roundw
      case rel =>
        refine ⟨k + 1, upd g k (rsh f s k), by omega, by go_num, fun i hi => ?_, gX, gR, gM, gB⟩
        by_cases e : i = k
        · rw [e, upd_same]
        · rw [upd_other _ _ _ e]; exact Hg.out i (by omega)
      case measure => simp [intOf] <;> omega
    · obtain rfl : k = 16 := by omega
      replace hM := hM.congr Hg.out
      go_wp2_with (first | ((with_reducible apply ld_rowP undW infoW); exact rfl; exact rfl; exact gRow) | ((with_reducible apply st_rowP infoW); exact rfl; exact rfl; exact gRow) | ((with_reducible apply st_rowZ infoW); exact rfl; exact rfl; exact gRow))
      exact bodyPost_ret (res1 rfl undW infoW _ _ rfl gRow) rfl ⟨rfl, gUp⟩
theorem shrP {P : Program} {t u : TypeId} {ops : Array Oper} {rest : List Oper} {Q : Exit → Act → World → Prop} {a : Act} {w : World} {d : Option Tmp} {p q : Tmp} {ty : TypeId} {pos : String} {af : Array Edge} {gd : Option (Nat × Bool)} {X Y : Nat}
    (hw : Region.wanted { dst := d, op := .binOp .shr t (.tmp p) (.tmp q) u, type := ty, pos := pos, after := af, guard := gd } (yielded ops a.tmps) = true) (hx : a.eval (.tmp p) = .int .u64 (X : Nat)) (hy : a.eval (.tmp q) = .int .u64 (Y : Nat)) (hs : Y ≤ 64)
    (h : wpList P ops Q rest (a.put d (.int .u64 ((X / 2 ^ Y : Nat) : Int))) w) : wpList P ops Q ({ dst := d, op := .binOp .shr t (.tmp p) (.tmp q) u, type := ty, pos := pos, after := af, guard := gd } :: rest) a w := wpList_run hw (op_shr rfl hx hy hs w) h
theorem sub64P {P : Program} {t u : TypeId} {ops : Array Oper} {rest : List Oper} {Q : Exit → Act → World → Prop} {a : Act} {w : World} {d : Option Tmp} {q : Tmp} {ty : TypeId} {pos : String} {af : Array Edge} {gd : Option (Nat × Bool)} {Y : Nat}
    (hw : Region.wanted { dst := d, op := .binOp .sub t (.const (.int .u64 64)) (.tmp q) u, type := ty, pos := pos, after := af, guard := gd } (yielded ops a.tmps) = true) (hy : a.eval (.tmp q) = .int .u64 (Y : Nat)) (hs : Y ≤ 64)
    (h : wpList P ops Q rest (a.put d (.int .u64 ((64 - Y : Nat) : Int))) w) : wpList P ops Q ({ dst := d, op := .binOp .sub t (.const (.int .u64 64)) (.tmp q) u, type := ty, pos := pos, after := af, guard := gd } :: rest) a w := wpList_run hw (op_sub (X := 64) rfl rfl hy (by decide) hs w) h
theorem lsh_step {x g s : Nat} (hs : s < 64) (hx : x < 18446744073709551616) (hg : g < 2 ^ s) :
    (g ||| x * 2 ^ s % 18446744073709551616) + x / 2 ^ (64 - s) * 18446744073709551616 = g + x * 2 ^ s ∧ x / 2 ^ (64 - s) < 2 ^ s ∧ (g ||| x * 2 ^ s % 18446744073709551616) < 18446744073709551616 := by
  have e : 2 ^ s * 2 ^ (64 - s) = (18446744073709551616 : Nat) := by rw [← Nat.pow_add, show s + (64 - s) = 64 by omega]
  have h1 : (g ||| x * 2 ^ s % 18446744073709551616) = g + x * 2 ^ s % 18446744073709551616 := by
    rw [shl_mod (by omega), Nat.or_comm, or_add hg, Nat.add_comm]
  have h2 := shr_low (x := x) (show s ≤ 64 by omega)
  have h3 := Nat.div_add_mod (x * 2 ^ s) 18446744073709551616
  have h4 : x / 2 ^ (64 - s) < 2 ^ s := by
    rw [Nat.div_lt_iff_lt_mul (Nat.two_pow_pos _), e]; exact hx
  refine ⟨by rw [h1, ← h2]; omega, h4, ?_⟩
  rw [h1, shl_mod (by omega)]
  have h5 := Nat.mod_lt x (Nat.two_pow_pos (64 - s))
  have h6 : 2 ^ s * (x % 2 ^ (64 - s) + 1) ≤ 2 ^ s * 2 ^ (64 - s) := Nat.mul_le_mul_left _ h5
  rw [e, Nat.mul_add] at h6
  omega
theorem long_of {f : Nat → Nat} (h : ∀ i, i < 17 → f i < 18446744073709551616) : Value.agg (cells 17 f) = longV (limb (sumL f 17)) := by
  unfold longV
  rw [cells_congr fun i hi => (limb_sumL h hi).symm]
theorem zeros17 : (#[.int .u64 0, .int .u64 0, .int .u64 0, .int .u64 0, .int .u64 0, .int .u64 0, .int .u64 0, .int .u64 0, .int .u64 0, .int .u64 0, .int .u64 0, .int .u64 0, .int .u64 0, .int .u64 0, .int .u64 0, .int .u64 0, .int .u64 0] : Array Value) = cells 17 (fun _ => 0) := by
  unfold cells; kernel_rfl
theorem row_newz17 {w : World} {b : Nat} (t : TypeId) (h : b = w.heap.size) : Row (w.alloc (.cells #[.int .u64 0, .int .u64 0, .int .u64 0, .int .u64 0, .int .u64 0, .int .u64 0, .int .u64 0, .int .u64 0, .int .u64 0, .int .u64 0, .int .u64 0, .int .u64 0, .int .u64 0, .int .u64 0, .int .u64 0, .int .u64 0, .int .u64 0] t)) b t 17 (fun _ => 0) :=
  row_new t 17 _ _ h zeros17
set_option maxHeartbeats 1000000 in
theorem left_any (x : Nat) (hx : x < bp 16) (s : Nat) (hs : s < 64) (w : World) :
    Calls Tryz.prog 145 #[wideV x, .int .u64 (s : Nat)] w fun e w' => e = .returned (longV (limb (x * 2 ^ s))) ∧ Up w w' := by
  unfold wideV
  go_enter Tryz.func145, Tryz.ntmps145
  go_wp2
  go_loopw [7] (fun i wr => ∃ (k : Nat) (g : Nat → Nat), k ≤ 16 ∧ i = .int .i64 k ∧ (∀ i, i < 17 → g i < 18446744073709551616) ∧ sumL g (k + 1) = sumL (limb x) k * 2 ^ s ∧ g k < 2 ^ s ∧ (∀ i, k < i → i < 17 → g i = 0) ∧
      Row wr w.heap.size 33 16 (limb x) ∧ Row wr (w.heap.size + 1) 201 17 (fun _ => 0) ∧ Row wr (w.heap.size + 1 + 1) 201 17 g ∧ Below w.heap.size w wr)
    (fun i _ => 16 - (intOf i).toNat)
  case atStart => exact ⟨0, fun _ => 0, by omega, rfl, fun i h => by simp, by simp [sumL_succ, sumL_zero], Nat.two_pow_pos s, fun _ _ _ => rfl, gRow, row_alloc (row_newz17 _ (by simp)), row_newz17 _ (by simp), gUp⟩
  case round =>
    obtain ⟨k, g, hk, rfl, hg, hsum, hgk, hg0, hX, hR, hM, hB⟩ := hrel
    have Hg := hid hg
    have Hg0 := hid hg0
    have Hsum := hid hsum
    clear hg hsum hg0
    by_cases hlt : k < 16
    · obtain ⟨r1, e1⟩ : ∃ r1, r1 = g k ||| limb x k * 2 ^ s % 18446744073709551616 := ⟨_, rfl⟩
      obtain ⟨r2, e2⟩ : ∃ r2, r2 = limb x k / 2 ^ (64 - s) := ⟨_, rfl⟩
      have hst := lsh_step hs (limb_lt x k) hgk
      rw [← e1, ← e2] at hst
      obtain ⟨hst1, hst2, hst3⟩ := hst
      have hr2 : r2 < 18446744073709551616 := by rw [e2]; exact Nat.lt_of_le_of_lt (Nat.div_le_self _ _) (limb_lt x k)
      have He1 := hid e1.symm
      have He2 := hid e2.symm
      have Hst1 := hid hst1
      clear e1 e2 hst1
      have hk1 : (k : Int) < 17 := by omega
      have hk2 : (k : Int) + 1 < 17 := by omega
      have hk3 : (0 : Int) ≤ (k : Int) + 1 := by omega
      have hgk64 := Hg.out k (by omega)
      have E1 : Hid (IntKind.i64.wrap ((k : Int) + 1) = (k : Int) + 1) := hid (IntWalk.i64_in _ (by omega))
      have E2 : Hid (((k : Int) + 1).toNat = k + 1) := hid (by omega)
      have hcx := hX.cell k (by omega)
      have hcy := hM.cell k (by omega)
      go_wp2
      refine wp_region_upS (S := (fun wq => Row wq w.heap.size 33 16 (limb x) ∧ Row wq (w.heap.size + 1) 201 17 (fun _ => 0) ∧ Row wq (w.heap.size + 1 + 1) 201 17 g ∧ wq.cell? ⟨w.heap.size, k, none⟩ = some (.int .u64 (limb x k : Nat)) ∧ wq.cell? ⟨w.heap.size + 1 + 1, k, none⟩ = some (.int .u64 (g k : Nat)) ∧ Below w.heap.size w wq)) (req := (fun j => j != 10)) (by kernel_rfl) (fun _ _ h hu => ⟨(h.1).up hu, (h.2.1).up hu, (h.2.2.1).up hu, hu.cell (h.2.2.2.1), hu.cell (h.2.2.2.2.1), below_up (h.2.2.2.2.2) hu⟩) ⟨gRow, gRow, gRow, (by first | assumption | (apply Blk.cell; exact gBlk; exact rfl)), (by first | assumption | (apply Blk.cell; exact gBlk; exact rfl)), gUp⟩ (fun wS hSS => ?_)
      have ⟨hS1, hS2, hS3, hS4, hS5, hSB⟩ := hSS
      clear hcx hcy hX hR hM hB
      refine wpAnyU_pure (i := 0) (d := (some 10)) (v := ?_) rfl rfl (by kernel_rfl) (fun _ _ _ h => h) (fun _ _ h hu => ⟨(h.1).up hu, (h.2.1).up hu, (h.2.2.1).up hu, hu.cell (h.2.2.2.1), hu.cell (h.2.2.2.2.1), below_up (h.2.2.2.2.2) hu⟩) (Or.inl ⟨by rfl, fun w' _ => yu_value ?_⟩) ?_
      rotate_left
      · (go_simp; (try exact rfl))
      try simp only [Act.put, pu1, pu2, pu3]
      refine wpAnyU_pure (i := 1) (d := (some 11)) (v := ?_) rfl rfl (by kernel_rfl) (fun _ _ _ h => h) (fun _ _ h hu => ⟨(h.1).up hu, (h.2.1).up hu, (h.2.2.1).up hu, hu.cell (h.2.2.2.1), hu.cell (h.2.2.2.2.1), below_up (h.2.2.2.2.2) hu⟩) (Or.inl ⟨by rfl, fun w' _ => yu_value ?_⟩) ?_
      rotate_left
      · (go_simp; (try exact rfl))
      try simp only [Act.put, pu1, pu2, pu3]
      refine wpAnyU_take (i := 2) (d := (some 12)) (v := ?_) rfl rfl (by kernel_rfl) (fun _ _ _ h => h) (fun _ _ h hu => ⟨(h.1).up hu, (h.2.1).up hu, (h.2.2.1).up hu, hu.cell (h.2.2.2.1), hu.cell (h.2.2.2.2.1), below_up (h.2.2.2.2.2) hu⟩) hSS (Or.inl ⟨by rfl, fun w' hSw => yu_value ?_⟩) ?_
      rotate_left
      · ((try dsimp only at hSw); (try obtain ⟨_, _, _, _, _, _⟩ := hSw); go_simp; (try exact rfl))
      try simp only [Act.put, pu1, pu2, pu3]
      refine wpAnyU_pure (i := 3) (d := (some 13)) (v := ?_) rfl rfl (by kernel_rfl) (fun _ _ _ h => h) (fun _ _ h hu => ⟨(h.1).up hu, (h.2.1).up hu, (h.2.2.1).up hu, hu.cell (h.2.2.2.1), hu.cell (h.2.2.2.2.1), below_up (h.2.2.2.2.2) hu⟩) (Or.inl ⟨by rfl, fun w' _ => yu_value ?_⟩) ?_
      rotate_left
      · (go_simp; (try exact rfl))
      try simp only [Act.put, pu1, pu2, pu3]
      refine wpAnyU_pure (i := 4) (d := (some 14)) (v := ?_) rfl rfl (by kernel_rfl) (fun _ _ _ h => h) (fun _ _ h hu => ⟨(h.1).up hu, (h.2.1).up hu, (h.2.2.1).up hu, hu.cell (h.2.2.2.1), hu.cell (h.2.2.2.2.1), below_up (h.2.2.2.2.2) hu⟩) (Or.inl ⟨by rfl, fun w' _ => yu_value ?_⟩) ?_
      rotate_left
      · (go_simp; (try exact rfl))
      try simp only [Act.put, pu1, pu2, pu3]
      refine wpAnyU_take (i := 5) (d := (some 15)) (v := ?_) rfl rfl (by kernel_rfl) (fun _ _ _ h => h) (fun _ _ h hu => ⟨(h.1).up hu, (h.2.1).up hu, (h.2.2.1).up hu, hu.cell (h.2.2.2.1), hu.cell (h.2.2.2.2.1), below_up (h.2.2.2.2.2) hu⟩) hSS (Or.inl ⟨by rfl, fun w' hSw => yu_value ?_⟩) ?_
      rotate_left
      · ((try dsimp only at hSw); (try obtain ⟨_, _, _, _, _, _⟩ := hSw); go_simp; (try exact rfl))
      try simp only [Act.put, pu1, pu2, pu3]
      refine wpAnyU_pure (i := 6) (d := (some 16)) (v := ?_) rfl rfl (by kernel_rfl) (fun _ _ _ h => h) (fun _ _ h hu => ⟨(h.1).up hu, (h.2.1).up hu, (h.2.2.1).up hu, hu.cell (h.2.2.2.1), hu.cell (h.2.2.2.2.1), below_up (h.2.2.2.2.2) hu⟩) (Or.inl ⟨by rfl, fun w' _ => yu_value ?_⟩) ?_
      rotate_left
      · (go_simp; (try exact rfl))
      try simp only [Act.put, pu1, pu2, pu3]
      refine wpAnyU_take (i := 7) (d := (some 17)) (v := _) rfl rfl (by kernel_rfl) (fun _ _ _ h => h) (fun _ _ h hu => ⟨(h.1).up hu, (h.2.1).up hu, (h.2.2.1).up hu, hu.cell (h.2.2.2.1), hu.cell (h.2.2.2.2.1), below_up (h.2.2.2.2.2) hu⟩) hSS (Or.inl ⟨by rfl, fun w' hSw => yu_value (op_shl rfl rfl rfl (Nat.le_of_lt hs) _)⟩) ?_
      try simp only [Act.put, pu1, pu2, pu3]
      refine wpAnyU_take (i := 8) (d := (some 18)) (v := _) rfl rfl (by kernel_rfl) (fun _ _ _ h => h) (fun _ _ h hu => ⟨(h.1).up hu, (h.2.1).up hu, (h.2.2.1).up hu, hu.cell (h.2.2.2.1), hu.cell (h.2.2.2.2.1), below_up (h.2.2.2.2.2) hu⟩) hSS (Or.inl ⟨by rfl, fun w' hSw => yu_value (op_or rfl rfl rfl hgk64 (Nat.mod_lt _ (by decide)) _)⟩) ?_
      try simp only [Act.put, pu1, pu2, pu3]
      rw [He1.out]
      refine wpAnyU_pure (i := 9) (d := (some 19)) (v := ?_) rfl rfl (by kernel_rfl) (fun _ _ _ h => h) (fun _ _ h hu => ⟨(h.1).up hu, (h.2.1).up hu, (h.2.2.1).up hu, hu.cell (h.2.2.2.1), hu.cell (h.2.2.2.2.1), below_up (h.2.2.2.2.2) hu⟩) (Or.inl ⟨by rfl, fun w' _ => yu_value ?_⟩) ?_
      rotate_left
      · (go_simp; (try exact rfl))
      try simp only [Act.put, pu1, pu2, pu3]
      refine wpAnyU_one (i := 10) rfl (by kernel_rfl) (by rfl) fun w1 hw1 => ?_
      have hcW := (hS3.up hw1).cell k (by omega)
      have hfW := (hS3.up hw1).frozen k
      go_simp
      clear hcW hfW
      refine wpAnyU_done (by kernel_rfl) (fun wF huE => ?_) _
      have gX := ((hS1.up hw1).other ⟨w.heap.size + 1 + 1, k, none⟩ (.int .u64 (r1 : Nat)) (by simp; omega)).up huE
      have gR := ((hS2.up hw1).other ⟨w.heap.size + 1 + 1, k, none⟩ (.int .u64 (r1 : Nat)) (by simp)).up huE
      have gM := ((hS3.up hw1).set k r1).up huE
      have gB := below_up ((below_up hSB hw1).setCell (p := ⟨w.heap.size + 1 + 1, k, none⟩) (by simp; omega) (.int .u64 (r1 : Nat))) huE
      clear hS1 hS2 hS3 hS4 hS5 hSB hSS hw1 huE
      have hcx := gX.cell k (by omega)
      have hcy := gM.cell (k + 1) (by omega)
      have hfy := gM.frozen (k + 1)
      have fX := gX.other ⟨w.heap.size + 1 + 1, k + 1, none⟩ (.int .u64 (r2 : Nat)) (by simp; omega)
      have fR := gR.other ⟨w.heap.size + 1 + 1, k + 1, none⟩ (.int .u64 (r2 : Nat)) (by simp)
      have fM := gM.set (k + 1) r2
      have fB := gB.setCell (p := ⟨w.heap.size + 1 + 1, k + 1, none⟩) (by simp; omega) (.int .u64 (r2 : Nat))
      have hs' := Nat.le_of_lt hs
      have hs64 : 64 - s ≤ 64 := Nat.sub_le _ _
      go_wp2_with (first | ((with_reducible apply sub64P); exact rfl; exact rfl; exact hs') | ((with_reducible apply shrP); exact rfl; exact rfl; exact rfl; exact hs64; rw [He2.out]))
      go_roundw
      case rel =>
        refine ⟨k + 1, upd (upd g k r1) (k + 1) r2, by omega, by go_num, upd_lt (upd_lt Hg.out hst3) hr2, ?_, by rw [upd_same]; exact hst2, fun i h1 h2 => by rw [upd_other _ _ _ (by omega), upd_other _ _ _ (by omega)]; exact Hg0.out i (by omega) h2, fX, fR, fM, fB⟩
        have h1 := Hsum.out
        have h2 := Hst1.out
        rw [sumL_succ] at h1
        rw [sumL_upd_succ, sumL_upd_succ, sumL_succ, Nat.add_mul, ← h1, bp_succ]
        have h3 : (r1 + r2 * 18446744073709551616) * bp k = (g k + limb x k * 2 ^ s) * bp k := by rw [h2]
        clear h1 h2 Hsum Hst1 He1 He2 hst2 hgk
        generalize limb x k = xk at *
        generalize g k = gk at *
        generalize bp k = b at *
        generalize 2 ^ s = p at *
        generalize sumL g k = S at *
        grind
      case measure => simp [intOf] <;> omega
    · obtain rfl : k = 16 := by omega
      have hfin := Hsum.out
      rw [sumL_limb, Nat.mod_eq_of_lt hx] at hfin
      have hfin2 := hid hfin
      clear hfin
      go_wp2_with (first | ((with_reducible apply ld_rowP undL infoL); exact rfl; exact rfl; exact hM) | ((with_reducible apply st_rowP infoL); exact rfl; exact rfl; exact hR))
      exact bodyPost_ret (res1 rfl undL infoL _ _ rfl (hR.setRow g)) rfl ⟨by rw [← hfin2.out, ← long_of Hg.out], gUp⟩
theorem sumL_upd (f : Nat → Nat) {k n : Nat} (v : Nat) (h : k < n) : sumL (upd f k v) n + f k * bp k = sumL f n + v * bp k := by
  induction n with
  | zero => omega
  | succ n ih =>
    rw [sumL_succ, sumL_succ]
    by_cases e : k = n
    · subst e
      rw [sumL_upd_above f (Nat.le_refl k), upd_same]
      omega
    · have := ih (by omega)
      rw [upd_other f k v (show n ≠ k by omega)]
      omega
theorem times_step {S P X sk yk r c c' b bi bk : Nat} {S' : Nat} (h : S + c * (bi * bk) = P + X * bi * b) (hu : S' + sk * (bi * bk) = S + r * (bi * bk)) (hr : r + c' * 18446744073709551616 = X * yk + sk + c) :
    S' + c' * (bi * bk * 18446744073709551616) = P + X * bi * (b + yk * bk) := by
  have h2 : (r + c' * 18446744073709551616) * (bi * bk) = (X * yk + sk + c) * (bi * bk) := by rw [hr]
  have h3 : S' + c' * (bi * bk * 18446744073709551616) + sk * (bi * bk) = P + X * bi * (b + yk * bk) + sk * (bi * bk) := by grind
  omega
theorem step_up (x y a b : Nat) (hx : x < 18446744073709551616) (hy : y < 18446744073709551616) (ha : a < 18446744073709551616) (hb' : b < 18446744073709551616) {r c : Nat} (hr : r = (x * y + a + b) % 18446744073709551616) (hc : c = (x * y + a + b) / 18446744073709551616) (w : World) :
    Calls Tryz.prog 141 #[.int .u64 x, .int .u64 y, .int .u64 a, .int .u64 b] w fun e w' => e = .returned (.tuple #[.int .u64 (r : Nat), .int .u64 (c : Nat)]) ∧ Up w w' := by
  refine (step_any x y a b hx hy ha hb' w).mono ?_
  rintro e w' ⟨rfl, rfl⟩
  exact ⟨by rw [hr, hc], Up.refl _⟩
theorem step_bound {x y a b r c : Nat} (hx : x < 18446744073709551616) (hy : y < 18446744073709551616) (ha : a < 18446744073709551616) (hb' : b < 18446744073709551616) (hr : r = (x * y + a + b) % 18446744073709551616) (hc : c = (x * y + a + b) / 18446744073709551616) :
    r < 18446744073709551616 ∧ c < 18446744073709551616 ∧ r + c * 18446744073709551616 = x * y + a + b := by
  have h1 : x * y ≤ 18446744073709551615 * 18446744073709551615 := Nat.mul_le_mul (by omega) (by omega)
  generalize x * y = p at *
  omega
theorem sumL_zeros (n : Nat) : sumL (fun _ => 0) n = 0 := by
  induction n with
  | zero => exact sumL_zero _
  | succ n ih => rw [sumL_succ, ih]; simp
def prodV (p : Nat) : Value := .tuple #[wideV (if p < bp 16 then p else 0), .bool (decide (p < bp 16))]
theorem limb_len (x : Nat) (hx : x < bp 16) : sumL (limb x) (lenL (limb x) 16) = x := by
  rw [lenL_sum, sumL_limb, Nat.mod_eq_of_lt hx]
theorem long_prod {x y : Nat} (hx : x < bp 16) (hy : y < bp 16) (h : 17 < lenL (limb x) 16 + lenL (limb y) 16) : ¬ x * y < bp 16 := by
  have h1 := lenL_le (limb x) 16
  have h2 := lenL_le (limb y) 16
  have h3 := bp_le_of_len (limb x) 16 (by omega)
  have h4 := bp_le_of_len (limb y) 16 (by omega)
  rw [sumL_limb, Nat.mod_eq_of_lt hx] at h3
  rw [sumL_limb, Nat.mod_eq_of_lt hy] at h4
  have h5 := Nat.mul_le_mul h3 h4
  rw [← bp_add] at h5
  have h6 := bp_mono (show 16 ≤ lenL (limb x) 16 - 1 + (lenL (limb y) 16 - 1) by omega)
  omega
theorem zeroW : wideV 0 = .agg (cells 16 (fun _ => 0)) := by
  unfold wideV
  rw [zero_limb, enc_zero]
set_option maxHeartbeats 2000000 in
theorem times_any (x y : Nat) (hx : x < bp 16) (hy : y < bp 16) (w : World) :
    Calls Tryz.prog 127 #[wideV x, wideV y] w fun e w' => e = .returned (prodV (x * y)) ∧ Up w w' := by
  have HLX := hid (length_any x)
  have HLY := hid (length_any y)
  have hlx := lenL_le (limb x) 16
  have hly := lenL_le (limb y) 16
  have HSX := hid (limb_len x hx)
  have HSY := hid (limb_len y hy)
  by_cases hnm : 17 < lenL (limb x) 16 + lenL (limb y) 16
  · have e : prodV (x * y) = .tuple #[.agg (cells 16 (fun _ => 0)), .bool false] := by
      have h := long_prod hx hy hnm
      unfold prodV
      rw [if_neg h, decide_eq_false h, zeroW]
    rw [e]
    clear e HSX HSY
    generalize lenL (limb x) 16 = n at *
    generalize lenL (limb y) 16 = m at *
    unfold wideV at *
    go_enter Tryz.func127, Tryz.ntmps127
    go_wp2
    refine wp_region_upS (S := (fun wq => Row wq w.heap.size 33 16 (limb x) ∧ Row wq (w.heap.size + 1) 33 16 (limb y) ∧ Row wq (w.heap.size + 1 + 1) 33 16 (fun _ => 0) ∧ Below w.heap.size w wq)) (req := (fun _ => true)) (by kernel_rfl) (fun _ _ h hu => ⟨(h.1).up hu, (h.2.1).up hu, (h.2.2.1).up hu, below_up (h.2.2.2) hu⟩) ⟨gRow, gRow, gRow, gUp⟩ (fun wS hSS => ?_)
    have ⟨hS1, hS2, hS3, hSB⟩ := hSS
    refine wpAnyU_take (i := 0) (d := (some 12)) (v := _) rfl rfl (by kernel_rfl) (fun _ _ _ h => h) (fun _ _ h hu => ⟨(h.1).up hu, (h.2.1).up hu, (h.2.2.1).up hu, below_up (h.2.2.2) hu⟩) hSS (Or.inl ⟨by rfl, fun w' hSw => yu_value (run_ld undW infoW _ rfl _ rfl hSw.1)⟩) ?_
    try simp only [Act.put, pu1, pu2, pu3]
    refine wpAnyU_take (i := 1) (d := (some 13)) (v := _) rfl rfl (by kernel_rfl) (fun _ _ _ h => h) (fun _ _ h hu => ⟨(h.1).up hu, (h.2.1).up hu, (h.2.2.1).up hu, below_up (h.2.2.2) hu⟩) hSS (Or.inl ⟨by rfl, fun w' hSw => yu_call ?_ (HLX.out _)⟩) ?_
    · go_simp
    try simp only [Act.put, pu1, pu2, pu3]
    refine wpAnyU_take (i := 2) (d := (some 14)) (v := _) rfl rfl (by kernel_rfl) (fun _ _ _ h => h) (fun _ _ h hu => ⟨(h.1).up hu, (h.2.1).up hu, (h.2.2.1).up hu, below_up (h.2.2.2) hu⟩) hSS (Or.inl ⟨by rfl, fun w' hSw => yu_value (run_ld undW infoW _ rfl _ rfl hSw.2.1)⟩) ?_
    try simp only [Act.put, pu1, pu2, pu3]
    refine wpAnyU_take (i := 3) (d := (some 15)) (v := _) rfl rfl (by kernel_rfl) (fun _ _ _ h => h) (fun _ _ h hu => ⟨(h.1).up hu, (h.2.1).up hu, (h.2.2.1).up hu, below_up (h.2.2.2) hu⟩) hSS (Or.inl ⟨by rfl, fun w' hSw => yu_call ?_ (HLY.out _)⟩) ?_
    · go_simp
    try simp only [Act.put, pu1, pu2, pu3]
    refine wpAnyU_pure (i := 4) (d := (some 6)) (v := ?_) rfl rfl (by kernel_rfl) (fun _ _ _ h => h) (fun _ _ h hu => ⟨(h.1).up hu, (h.2.1).up hu, (h.2.2.1).up hu, below_up (h.2.2.2) hu⟩) (Or.inl ⟨by rfl, fun w' _ => yu_value ?_⟩) ?_
    rotate_left
    · (go_simp; (try exact rfl))
    try simp only [Act.put, pu1, pu2, pu3]
    refine wpAnyU_pure (i := 5) (d := (some 7)) (v := ?_) rfl rfl (by kernel_rfl) (fun _ _ _ h => h) (fun _ _ h hu => ⟨(h.1).up hu, (h.2.1).up hu, (h.2.2.1).up hu, below_up (h.2.2.2) hu⟩) (Or.inl ⟨by rfl, fun w' _ => yu_value ?_⟩) ?_
    rotate_left
    · (go_simp; (try exact rfl))
    try simp only [Act.put, pu1, pu2, pu3]
    refine wpAnyU_done (by kernel_rfl) (fun wE huE => ?_) _
    have ⟨hS1, hS2, hS3, hSB⟩ := ((fun _ _ h hu => ⟨(h.1).up hu, (h.2.1).up hu, (h.2.2.1).up hu, below_up (h.2.2.2) hu⟩) : ∀ w1 w2 : World, (fun wq => Row wq w.heap.size 33 16 (limb x) ∧ Row wq (w.heap.size + 1) 33 16 (limb y) ∧ Row wq (w.heap.size + 1 + 1) 33 16 (fun _ => 0) ∧ Below w.heap.size w wq) w1 → Up w1 w2 → (fun wq => Row wq w.heap.size 33 16 (limb x) ∧ Row wq (w.heap.size + 1) 33 16 (limb y) ∧ Row wq (w.heap.size + 1 + 1) 33 16 (fun _ => 0) ∧ Below w.heap.size w wq) w2) _ _ hSS huE
    clear huE hSS
    go_wp2_with (first | ((with_reducible apply ld_rowP undW infoW); exact rfl; exact rfl; exact gRow) | ((with_reducible apply st_rowP infoW); exact rfl; exact rfl; exact gRow) | ((with_reducible apply st_rowZ infoW); exact rfl; exact rfl; exact gRow))
    exact bodyPost_ret (res2 rfl undW infoW _ _ rfl gRow) rfl ⟨rfl, gUp⟩
  · generalize lenL (limb x) 16 = n at *
    generalize lenL (limb y) 16 = m at *
    have hlb := bp16
    have h19 : decide (17 < (n : Int) + (m : Int)) = false := decide_eq_false (by omega)
    unfold wideV at *
    go_enter Tryz.func127, Tryz.ntmps127
    go_wp2
    refine wp_region_upS (S := (fun wq => Row wq w.heap.size 33 16 (limb x) ∧ Row wq (w.heap.size + 1) 33 16 (limb y) ∧ Row wq (w.heap.size + 1 + 1) 33 16 (fun _ => 0) ∧ Below w.heap.size w wq)) (req := (fun _ => true)) (by kernel_rfl) (fun _ _ h hu => ⟨(h.1).up hu, (h.2.1).up hu, (h.2.2.1).up hu, below_up (h.2.2.2) hu⟩) ⟨gRow, gRow, gRow, gUp⟩ (fun wS hSS => ?_)
    have ⟨hS1, hS2, hS3, hSB⟩ := hSS
    refine wpAnyU_take (i := 0) (d := (some 12)) (v := _) rfl rfl (by kernel_rfl) (fun _ _ _ h => h) (fun _ _ h hu => ⟨(h.1).up hu, (h.2.1).up hu, (h.2.2.1).up hu, below_up (h.2.2.2) hu⟩) hSS (Or.inl ⟨by rfl, fun w' hSw => yu_value (run_ld undW infoW _ rfl _ rfl hSw.1)⟩) ?_
    try simp only [Act.put, pu1, pu2, pu3]
    refine wpAnyU_take (i := 1) (d := (some 13)) (v := _) rfl rfl (by kernel_rfl) (fun _ _ _ h => h) (fun _ _ h hu => ⟨(h.1).up hu, (h.2.1).up hu, (h.2.2.1).up hu, below_up (h.2.2.2) hu⟩) hSS (Or.inl ⟨by rfl, fun w' hSw => yu_call ?_ (HLX.out _)⟩) ?_
    · go_simp
    try simp only [Act.put, pu1, pu2, pu3]
    refine wpAnyU_take (i := 2) (d := (some 14)) (v := _) rfl rfl (by kernel_rfl) (fun _ _ _ h => h) (fun _ _ h hu => ⟨(h.1).up hu, (h.2.1).up hu, (h.2.2.1).up hu, below_up (h.2.2.2) hu⟩) hSS (Or.inl ⟨by rfl, fun w' hSw => yu_value (run_ld undW infoW _ rfl _ rfl hSw.2.1)⟩) ?_
    try simp only [Act.put, pu1, pu2, pu3]
    refine wpAnyU_take (i := 3) (d := (some 15)) (v := _) rfl rfl (by kernel_rfl) (fun _ _ _ h => h) (fun _ _ h hu => ⟨(h.1).up hu, (h.2.1).up hu, (h.2.2.1).up hu, below_up (h.2.2.2) hu⟩) hSS (Or.inl ⟨by rfl, fun w' hSw => yu_call ?_ (HLY.out _)⟩) ?_
    · go_simp
    try simp only [Act.put, pu1, pu2, pu3]
    refine wpAnyU_pure (i := 4) (d := (some 6)) (v := ?_) rfl rfl (by kernel_rfl) (fun _ _ _ h => h) (fun _ _ h hu => ⟨(h.1).up hu, (h.2.1).up hu, (h.2.2.1).up hu, below_up (h.2.2.2) hu⟩) (Or.inl ⟨by rfl, fun w' _ => yu_value ?_⟩) ?_
    rotate_left
    · (go_simp; (try exact rfl))
    try simp only [Act.put, pu1, pu2, pu3]
    refine wpAnyU_pure (i := 5) (d := (some 7)) (v := ?_) rfl rfl (by kernel_rfl) (fun _ _ _ h => h) (fun _ _ h hu => ⟨(h.1).up hu, (h.2.1).up hu, (h.2.2.1).up hu, below_up (h.2.2.2) hu⟩) (Or.inl ⟨by rfl, fun w' _ => yu_value ?_⟩) ?_
    rotate_left
    · (go_simp; (try exact rfl))
    try simp only [Act.put, pu1, pu2, pu3]
    refine wpAnyU_done (by kernel_rfl) (fun wE huE => ?_) _
    have ⟨hS1, hS2, hS3, hSB⟩ := ((fun _ _ h hu => ⟨(h.1).up hu, (h.2.1).up hu, (h.2.2.1).up hu, below_up (h.2.2.2) hu⟩) : ∀ w1 w2 : World, (fun wq => Row wq w.heap.size 33 16 (limb x) ∧ Row wq (w.heap.size + 1) 33 16 (limb y) ∧ Row wq (w.heap.size + 1 + 1) 33 16 (fun _ => 0) ∧ Below w.heap.size w wq) w1 → Up w1 w2 → (fun wq => Row wq w.heap.size 33 16 (limb x) ∧ Row wq (w.heap.size + 1) 33 16 (limb y) ∧ Row wq (w.heap.size + 1 + 1) 33 16 (fun _ => 0) ∧ Below w.heap.size w wq) w2) _ _ hSS huE
    clear huE hSS
    have hsz := hS3.lt
    go_wp2_with (first | ((with_reducible apply ld_rowP undW infoW); exact rfl; exact rfl; exact gRow) | ((with_reducible apply st_rowP infoW); exact rfl; exact rfl; exact gRow) | ((with_reducible apply st_rowZ infoW); exact rfl; exact rfl; exact gRow))
    go_loopw [22] (fun t wr => ∃ (i : Nat) (S : Nat → Nat), i ≤ n ∧ t = .int .i64 i ∧ (∀ j, j < 17 → S j < 18446744073709551616) ∧ sumL S 17 = sumL (limb x) i * sumL (limb y) m ∧ (∀ j, i + m ≤ j → j < 17 → S j = 0) ∧
        Row wr w.heap.size 33 16 (limb x) ∧ Row wr (w.heap.size + 1) 33 16 (limb y) ∧ Row wr (w.heap.size + 1 + 1) 33 16 (fun _ => 0) ∧ Row wr wE.heap.size 201 17 S ∧ Below w.heap.size w wr)
      (fun t _ => n - (intOf t).toNat)
    case atStart => exact ⟨0, fun _ => 0, by omega, rfl, fun i h => by simp, by rw [sumL_zero, Nat.zero_mul]; exact sumL_zeros 17, fun _ _ _ => rfl, gRow, gRow, gRow, row_newz17 _ rfl, bl_alloc (by omega) hSB⟩
    case round =>
      obtain ⟨i, S, hi, rfl, hSb, hsum, hz, hX, hY, hR, hM, hB⟩ := hrel
      have HSb := hid hSb
      have Hsum := hid hsum
      have Hz := hid hz
      clear hSb hsum hz hS1 hS2 hS3 hSB
      obtain ⟨wo, rfl⟩ : ∃ wo : World, wo = wr := ⟨_, rfl⟩
      by_cases hlt : i < n
      · have hi16 : (i : Int) < 16 := by omega
        go_wp2
        go_loopw [10, 26] (fun tc t wi => ∃ (k c : Nat) (S' : Nat → Nat), k ≤ m ∧ t = .int .i64 k ∧ tc = .int .u64 c ∧ c < 18446744073709551616 ∧ (∀ j, j < 17 → S' j < 18446744073709551616) ∧
            sumL S' 17 + c * (bp i * bp k) = sumL (limb x) i * sumL (limb y) m + limb x i * bp i * sumL (limb y) k ∧ (∀ j, i + m ≤ j → j < 17 → S' j = 0) ∧
            Row wi w.heap.size 33 16 (limb x) ∧ Row wi (w.heap.size + 1) 33 16 (limb y) ∧ Row wi (w.heap.size + 1 + 1) 33 16 (fun _ => 0) ∧ Row wi wE.heap.size 201 17 S' ∧ Below w.heap.size w wi)
          (fun _ t _ => m - (intOf t).toNat)
        case atStart => exact ⟨0, 0, S, by omega, rfl, rfl, by omega, HSb.out, by rw [sumL_zero, Hsum.out]; omega, Hz.out, hX, hY, hR, hM, hB⟩
        case round =>
          clear hX hY hR hM hB HSb Hsum Hz
          obtain ⟨k, c, S', hk, rfl, rfl, hc, hSb, hsum, hz, hX, hY, hR, hM, hB⟩ := hrel
          have HSb := hid hSb
          have Hsum := hid hsum
          have Hz := hid hz
          clear hSb hsum hz
          by_cases hkt : k < m
          · obtain ⟨r, er⟩ : ∃ r, r = (limb x i * limb y k + S' (i + k) + c) % 18446744073709551616 := ⟨_, rfl⟩
            obtain ⟨c', ec⟩ : ∃ c', c' = (limb x i * limb y k + S' (i + k) + c) / 18446744073709551616 := ⟨_, rfl⟩
            have hlx' := limb_lt x i
            have hly' := limb_lt y k
            have hsk := HSb.out (i + k) (by omega)
            have HC := hid (fun w => step_up _ _ _ _ hlx' hly' hsk hc er ec w)
            obtain ⟨hr, hc', hrc⟩ := step_bound hlx' hly' hsk hc er ec
            have Hrc := hid hrc
            clear er ec hrc
            have hk16 : (k : Int) < 16 := by omega
            have hik : (i : Int) + (k : Int) < 17 := by omega
            have hik0 : (0 : Int) ≤ (i : Int) + (k : Int) := by omega
            have E1 : Hid (IntKind.i64.wrap ((i : Int) + (k : Int)) = (i : Int) + (k : Int)) := hid (IntWalk.i64_in _ (by omega))
            have E2 : Hid (((i : Int) + (k : Int)).toNat = i + k) := hid (by omega)
            have hcx := hX.cell i (by omega)
            have hcy := hY.cell k (by omega)
            have hcs := hM.cell (i + k) (by omega)
            go_wp2
            refine wp_region_upS (S := (fun wq => Row wq w.heap.size 33 16 (limb x) ∧ Row wq (w.heap.size + 1) 33 16 (limb y) ∧ Row wq (w.heap.size + 1 + 1) 33 16 (fun _ => 0) ∧ Row wq wE.heap.size 201 17 S' ∧ wq.cell? ⟨w.heap.size, i, none⟩ = some (.int .u64 (limb x i : Nat)) ∧ wq.cell? ⟨w.heap.size + 1, k, none⟩ = some (.int .u64 (limb y k : Nat)) ∧ wq.cell? ⟨wE.heap.size, i + k, none⟩ = some (.int .u64 (S' (i + k) : Nat)) ∧ Below w.heap.size w wq)) (req := (fun j => j != 20)) (by kernel_rfl) (fun _ _ h hu => ⟨(h.1).up hu, (h.2.1).up hu, (h.2.2.1).up hu, (h.2.2.2.1).up hu, hu.cell (h.2.2.2.2.1), hu.cell (h.2.2.2.2.2.1), hu.cell (h.2.2.2.2.2.2.1), below_up (h.2.2.2.2.2.2.2) hu⟩) ⟨gRow, gRow, gRow, gRow, (by first | assumption | (apply Blk.cell; exact gBlk; exact rfl)), (by first | assumption | (apply Blk.cell; exact gBlk; exact rfl)), (by first | assumption | (apply Blk.cell; exact gBlk; exact rfl)), gUp⟩ (fun wS hSS => ?_)
            have ⟨hS1, hS2, hS3, hS4, hS5, hS6, hS7, hSB⟩ := hSS
            clear hcx hcy hcs hX hY hR hM hB
            refine wpAnyU_pure (i := 0) (d := (some 30)) (v := ?_) rfl rfl (by kernel_rfl) (fun _ _ _ h => h) (fun _ _ h hu => ⟨(h.1).up hu, (h.2.1).up hu, (h.2.2.1).up hu, (h.2.2.2.1).up hu, hu.cell (h.2.2.2.2.1), hu.cell (h.2.2.2.2.2.1), hu.cell (h.2.2.2.2.2.2.1), below_up (h.2.2.2.2.2.2.2) hu⟩) (Or.inl ⟨by rfl, fun w' _ => yu_value ?_⟩) ?_
            rotate_left
            · (go_simp; (try exact rfl))
            try simp only [Act.put, pu1, pu2, pu3]
            refine wpAnyU_pure (i := 1) (d := (some 31)) (v := ?_) rfl rfl (by kernel_rfl) (fun _ _ _ h => h) (fun _ _ h hu => ⟨(h.1).up hu, (h.2.1).up hu, (h.2.2.1).up hu, (h.2.2.2.1).up hu, hu.cell (h.2.2.2.2.1), hu.cell (h.2.2.2.2.2.1), hu.cell (h.2.2.2.2.2.2.1), below_up (h.2.2.2.2.2.2.2) hu⟩) (Or.inl ⟨by rfl, fun w' _ => yu_value ?_⟩) ?_
            rotate_left
            · (go_simp; (try exact rfl))
            try simp only [Act.put, pu1, pu2, pu3]
            refine wpAnyU_take (i := 2) (d := (some 32)) (v := ?_) rfl rfl (by kernel_rfl) (fun _ _ _ h => h) (fun _ _ h hu => ⟨(h.1).up hu, (h.2.1).up hu, (h.2.2.1).up hu, (h.2.2.2.1).up hu, hu.cell (h.2.2.2.2.1), hu.cell (h.2.2.2.2.2.1), hu.cell (h.2.2.2.2.2.2.1), below_up (h.2.2.2.2.2.2.2) hu⟩) hSS (Or.inl ⟨by rfl, fun w' hSw => yu_value ?_⟩) ?_
            rotate_left
            · (have e1 := E1.out; go_simp; (try exact rfl))
            try simp only [Act.put, pu1, pu2, pu3]
            refine wpAnyU_pure (i := 3) (d := (some 33)) (v := ?_) rfl rfl (by kernel_rfl) (fun _ _ _ h => h) (fun _ _ h hu => ⟨(h.1).up hu, (h.2.1).up hu, (h.2.2.1).up hu, (h.2.2.2.1).up hu, hu.cell (h.2.2.2.2.1), hu.cell (h.2.2.2.2.2.1), hu.cell (h.2.2.2.2.2.2.1), below_up (h.2.2.2.2.2.2.2) hu⟩) (Or.inl ⟨by rfl, fun w' _ => yu_value ?_⟩) ?_
            rotate_left
            · (go_simp; (try exact rfl))
            try simp only [Act.put, pu1, pu2, pu3]
            refine wpAnyU_pure (i := 4) (d := (some 34)) (v := ?_) rfl rfl (by kernel_rfl) (fun _ _ _ h => h) (fun _ _ h hu => ⟨(h.1).up hu, (h.2.1).up hu, (h.2.2.1).up hu, (h.2.2.2.1).up hu, hu.cell (h.2.2.2.2.1), hu.cell (h.2.2.2.2.2.1), hu.cell (h.2.2.2.2.2.2.1), below_up (h.2.2.2.2.2.2.2) hu⟩) (Or.inl ⟨by rfl, fun w' _ => yu_value ?_⟩) ?_
            rotate_left
            · (go_simp; (try exact rfl))
            try simp only [Act.put, pu1, pu2, pu3]
            refine wpAnyU_take (i := 5) (d := (some 35)) (v := ?_) rfl rfl (by kernel_rfl) (fun _ _ _ h => h) (fun _ _ h hu => ⟨(h.1).up hu, (h.2.1).up hu, (h.2.2.1).up hu, (h.2.2.2.1).up hu, hu.cell (h.2.2.2.2.1), hu.cell (h.2.2.2.2.2.1), hu.cell (h.2.2.2.2.2.2.1), below_up (h.2.2.2.2.2.2.2) hu⟩) hSS (Or.inl ⟨by rfl, fun w' hSw => yu_value ?_⟩) ?_
            rotate_left
            · ((try dsimp only at hSw); (try obtain ⟨_, _, _, _, _, _, _, _⟩ := hSw); go_simp; (try exact rfl))
            try simp only [Act.put, pu1, pu2, pu3]
            refine wpAnyU_pure (i := 6) (d := (some 36)) (v := ?_) rfl rfl (by kernel_rfl) (fun _ _ _ h => h) (fun _ _ h hu => ⟨(h.1).up hu, (h.2.1).up hu, (h.2.2.1).up hu, (h.2.2.2.1).up hu, hu.cell (h.2.2.2.2.1), hu.cell (h.2.2.2.2.2.1), hu.cell (h.2.2.2.2.2.2.1), below_up (h.2.2.2.2.2.2.2) hu⟩) (Or.inl ⟨by rfl, fun w' _ => yu_value ?_⟩) ?_
            rotate_left
            · (go_simp; (try exact rfl))
            try simp only [Act.put, pu1, pu2, pu3]
            refine wpAnyU_pure (i := 7) (d := (some 37)) (v := ?_) rfl rfl (by kernel_rfl) (fun _ _ _ h => h) (fun _ _ h hu => ⟨(h.1).up hu, (h.2.1).up hu, (h.2.2.1).up hu, (h.2.2.2.1).up hu, hu.cell (h.2.2.2.2.1), hu.cell (h.2.2.2.2.2.1), hu.cell (h.2.2.2.2.2.2.1), below_up (h.2.2.2.2.2.2.2) hu⟩) (Or.inl ⟨by rfl, fun w' _ => yu_value ?_⟩) ?_
            rotate_left
            · (go_simp; (try exact rfl))
            try simp only [Act.put, pu1, pu2, pu3]
            refine wpAnyU_take (i := 8) (d := (some 38)) (v := ?_) rfl rfl (by kernel_rfl) (fun _ _ _ h => h) (fun _ _ h hu => ⟨(h.1).up hu, (h.2.1).up hu, (h.2.2.1).up hu, (h.2.2.2.1).up hu, hu.cell (h.2.2.2.2.1), hu.cell (h.2.2.2.2.2.1), hu.cell (h.2.2.2.2.2.2.1), below_up (h.2.2.2.2.2.2.2) hu⟩) hSS (Or.inl ⟨by rfl, fun w' hSw => yu_value ?_⟩) ?_
            rotate_left
            · ((try dsimp only at hSw); (try obtain ⟨_, _, _, _, _, _, _, _⟩ := hSw); go_simp; (try exact rfl))
            try simp only [Act.put, pu1, pu2, pu3]
            refine wpAnyU_pure (i := 9) (d := (some 39)) (v := ?_) rfl rfl (by kernel_rfl) (fun _ _ _ h => h) (fun _ _ h hu => ⟨(h.1).up hu, (h.2.1).up hu, (h.2.2.1).up hu, (h.2.2.2.1).up hu, hu.cell (h.2.2.2.2.1), hu.cell (h.2.2.2.2.2.1), hu.cell (h.2.2.2.2.2.2.1), below_up (h.2.2.2.2.2.2.2) hu⟩) (Or.inl ⟨by rfl, fun w' _ => yu_value ?_⟩) ?_
            rotate_left
            · (go_simp; (try exact rfl))
            try simp only [Act.put, pu1, pu2, pu3]
            refine wpAnyU_pure (i := 10) (d := (some 40)) (v := ?_) rfl rfl (by kernel_rfl) (fun _ _ _ h => h) (fun _ _ h hu => ⟨(h.1).up hu, (h.2.1).up hu, (h.2.2.1).up hu, (h.2.2.2.1).up hu, hu.cell (h.2.2.2.2.1), hu.cell (h.2.2.2.2.2.1), hu.cell (h.2.2.2.2.2.2.1), below_up (h.2.2.2.2.2.2.2) hu⟩) (Or.inl ⟨by rfl, fun w' _ => yu_value ?_⟩) ?_
            rotate_left
            · (go_simp; (try exact rfl))
            try simp only [Act.put, pu1, pu2, pu3]
            refine wpAnyU_take (i := 11) (d := (some 41)) (v := ?_) rfl rfl (by kernel_rfl) (fun _ _ _ h => h) (fun _ _ h hu => ⟨(h.1).up hu, (h.2.1).up hu, (h.2.2.1).up hu, (h.2.2.2.1).up hu, hu.cell (h.2.2.2.2.1), hu.cell (h.2.2.2.2.2.1), hu.cell (h.2.2.2.2.2.2.1), below_up (h.2.2.2.2.2.2.2) hu⟩) hSS (Or.inl ⟨by rfl, fun w' hSw => yu_value ?_⟩) ?_
            rotate_left
            · (have e1 := E1.out; go_simp; (try exact rfl))
            try simp only [Act.put, pu1, pu2, pu3]
            refine wpAnyU_take (i := 12) (d := (some 42)) (v := ?_) rfl rfl (by kernel_rfl) (fun _ _ _ h => h) (fun _ _ h hu => ⟨(h.1).up hu, (h.2.1).up hu, (h.2.2.1).up hu, (h.2.2.2.1).up hu, hu.cell (h.2.2.2.2.1), hu.cell (h.2.2.2.2.2.1), hu.cell (h.2.2.2.2.2.2.1), below_up (h.2.2.2.2.2.2.2) hu⟩) hSS (Or.inl ⟨by rfl, fun w' hSw => yu_value ?_⟩) ?_
            rotate_left
            · (have e2 := E2.out; go_simp; (try exact rfl))
            try simp only [Act.put, pu1, pu2, pu3]
            refine wpAnyU_take (i := 13) (d := (some 43)) (v := ?_) rfl rfl (by kernel_rfl) (fun _ _ _ h => h) (fun _ _ h hu => ⟨(h.1).up hu, (h.2.1).up hu, (h.2.2.1).up hu, (h.2.2.2.1).up hu, hu.cell (h.2.2.2.2.1), hu.cell (h.2.2.2.2.2.1), hu.cell (h.2.2.2.2.2.2.1), below_up (h.2.2.2.2.2.2.2) hu⟩) hSS (Or.inl ⟨by rfl, fun w' hSw => yu_value ?_⟩) ?_
            rotate_left
            · ((try dsimp only at hSw); (try obtain ⟨_, _, _, _, _, _, _, _⟩ := hSw); go_simp; (try exact rfl))
            try simp only [Act.put, pu1, pu2, pu3]
            refine wpAnyU_pure (i := 14) (d := (some 44)) (v := ?_) rfl rfl (by kernel_rfl) (fun _ _ _ h => h) (fun _ _ h hu => ⟨(h.1).up hu, (h.2.1).up hu, (h.2.2.1).up hu, (h.2.2.2.1).up hu, hu.cell (h.2.2.2.2.1), hu.cell (h.2.2.2.2.2.1), hu.cell (h.2.2.2.2.2.2.1), below_up (h.2.2.2.2.2.2.2) hu⟩) (Or.inl ⟨by rfl, fun w' _ => yu_value ?_⟩) ?_
            rotate_left
            · (go_simp; (try exact rfl))
            try simp only [Act.put, pu1, pu2, pu3]
            refine wpAnyU_take (i := 15) (d := (some 45)) (v := _) rfl rfl (by kernel_rfl) (fun _ _ _ h => h) (fun _ _ h hu => ⟨(h.1).up hu, (h.2.1).up hu, (h.2.2.1).up hu, (h.2.2.2.1).up hu, hu.cell (h.2.2.2.2.1), hu.cell (h.2.2.2.2.2.1), hu.cell (h.2.2.2.2.2.2.1), below_up (h.2.2.2.2.2.2.2) hu⟩) hSS (Or.inl ⟨by rfl, fun w' hSw => yu_call ?_ (HC.out _)⟩) ?_
            · go_simp
            try simp only [Act.put, pu1, pu2, pu3]
            refine wpAnyU_pure (i := 16) (d := (some 29)) (v := ?_) rfl rfl (by kernel_rfl) (fun _ _ _ h => h) (fun _ _ h hu => ⟨(h.1).up hu, (h.2.1).up hu, (h.2.2.1).up hu, (h.2.2.2.1).up hu, hu.cell (h.2.2.2.2.1), hu.cell (h.2.2.2.2.2.1), hu.cell (h.2.2.2.2.2.2.1), below_up (h.2.2.2.2.2.2.2) hu⟩) (Or.inl ⟨by rfl, fun w' _ => yu_value ?_⟩) ?_
            rotate_left
            · (go_simp; (try exact rfl))
            try simp only [Act.put, pu1, pu2, pu3]
            refine wpAnyU_pure (i := 17) (d := (some 46)) (v := ?_) rfl rfl (by kernel_rfl) (fun _ _ _ h => h) (fun _ _ h hu => ⟨(h.1).up hu, (h.2.1).up hu, (h.2.2.1).up hu, (h.2.2.2.1).up hu, hu.cell (h.2.2.2.2.1), hu.cell (h.2.2.2.2.2.1), hu.cell (h.2.2.2.2.2.2.1), below_up (h.2.2.2.2.2.2.2) hu⟩) (Or.inl ⟨by rfl, fun w' _ => yu_value ?_⟩) ?_
            rotate_left
            · (go_simp; (try exact rfl))
            try simp only [Act.put, pu1, pu2, pu3]
            refine wpAnyU_pure (i := 18) (d := (some 47)) (v := ?_) rfl rfl (by kernel_rfl) (fun _ _ _ h => h) (fun _ _ h hu => ⟨(h.1).up hu, (h.2.1).up hu, (h.2.2.1).up hu, (h.2.2.2.1).up hu, hu.cell (h.2.2.2.2.1), hu.cell (h.2.2.2.2.2.1), hu.cell (h.2.2.2.2.2.2.1), below_up (h.2.2.2.2.2.2.2) hu⟩) (Or.inl ⟨by rfl, fun w' _ => yu_value ?_⟩) ?_
            rotate_left
            · (go_simp; (try exact rfl))
            try simp only [Act.put, pu1, pu2, pu3]
            refine wpAnyU_take (i := 19) (d := (some 48)) (v := ?_) rfl rfl (by kernel_rfl) (fun _ _ _ h => h) (fun _ _ h hu => ⟨(h.1).up hu, (h.2.1).up hu, (h.2.2.1).up hu, (h.2.2.2.1).up hu, hu.cell (h.2.2.2.2.1), hu.cell (h.2.2.2.2.2.1), hu.cell (h.2.2.2.2.2.2.1), below_up (h.2.2.2.2.2.2.2) hu⟩) hSS (Or.inl ⟨by rfl, fun w' hSw => yu_value ?_⟩) ?_
            rotate_left
            · (have e2 := E2.out; go_simp; (try exact rfl))
            try simp only [Act.put, pu1, pu2, pu3]
            refine wpAnyU_one (i := 20) rfl (by kernel_rfl) (by rfl) fun w1 hw1 => ?_
            have hcW := (hS4.up hw1).cell (i+k) (by omega)
            have hfW := (hS4.up hw1).frozen (i+k)
            go_simp
            clear hcW hfW
            refine wpAnyU_pure (i := 21) (d := (some 10)) (v := ?_) rfl rfl (by kernel_rfl) (fun _ _ _ h => h) (fun _ _ h hu => ⟨(h.1).up hu, (h.2.1).up hu, (h.2.2.1).up hu, (h.2.2.2.1).up hu, hu.cell (h.2.2.2.2.1), hu.cell (h.2.2.2.2.2.1), hu.cell (h.2.2.2.2.2.2.1), below_up (h.2.2.2.2.2.2.2) hu⟩) (Or.inl ⟨by rfl, fun w' _ => yu_value ?_⟩) ?_
            rotate_left
            · (go_simp; (try exact rfl))
            try simp only [Act.put, pu1, pu2, pu3]
            refine wpAnyU_done (by kernel_rfl) (fun wF huE => ?_) _
            have hne := hS4.lt
            have gX := ((hS1.up hw1).other ⟨wE.heap.size, i + k, none⟩ (.int .u64 (r : Nat)) (by simp; omega)).up huE
            have gY := ((hS2.up hw1).other ⟨wE.heap.size, i + k, none⟩ (.int .u64 (r : Nat)) (by simp; omega)).up huE
            have gR := ((hS3.up hw1).other ⟨wE.heap.size, i + k, none⟩ (.int .u64 (r : Nat)) (by simp; omega)).up huE
            have gM := ((hS4.up hw1).set (i + k) r).up huE
            have gB := below_up ((below_up hSB hw1).setCell (p := ⟨wE.heap.size, i + k, none⟩) (by simp; omega) (.int .u64 (r : Nat))) huE
            clear hS1 hS2 hS3 hS4 hS5 hS6 hS7 hSB hSS hw1 huE hne
            go_wp2
            go_roundw
            case rel =>
              refine ⟨k + 1, c', upd S' (i + k) r, by omega, by go_num, rfl, hc', upd_lt HSb.out hr, ?_, fun j h1 h2 => by rw [upd_other _ _ _ (by omega)]; exact Hz.out j h1 h2, gX, gY, gR, gM, gB⟩
              have h2 := sumL_upd S' r (show i + k < 17 by omega)
              rw [bp_add] at h2
              rw [bp_succ, sumL_succ (limb y) k, ← Nat.mul_assoc (bp i)]
              exact times_step Hsum.out h2 Hrc.out
            case measure => simp [intOf] <;> omega
          · obtain rfl : k = m := by omega
            have him : (i : Int) + (k : Int) < 17 := by omega
            have him0 : (0 : Int) ≤ (i : Int) + (k : Int) := by omega
            have E2 : ((i : Int) + (k : Int)).toNat = i + k := by omega
            have hcs := hM.cell (i + k) (by omega)
            have hfs := hM.frozen (i + k)
            have gX := hX.other ⟨wE.heap.size, i + k, none⟩ (.int .u64 (c : Nat)) (by simp; omega)
            have gY := hY.other ⟨wE.heap.size, i + k, none⟩ (.int .u64 (c : Nat)) (by simp; omega)
            have gR := hR.other ⟨wE.heap.size, i + k, none⟩ (.int .u64 (c : Nat)) (by simp; omega)
            have gM := hM.set (i + k) c
            have gB := hB.setCell (p := ⟨wE.heap.size, i + k, none⟩) (by simp; omega) (.int .u64 (c : Nat))
            clear hX hY hR hM hB
            go_wp2
            go_roundw
            case rel =>
              refine ⟨i + 1, upd S' (i + k) c, by omega, by go_num, upd_lt HSb.out hc, ?_, fun j h1 h2 => by rw [upd_other _ _ _ (by omega)]; exact Hz.out j (by omega) h2, gX, gY, gR, gM, gB⟩
              have h2 := sumL_upd S' c (show i + k < 17 by omega)
              have h3 := Hz.out (i + k) (Nat.le_refl _) (by omega)
              have h4 := Hsum.out
              rw [bp_add, h3, Nat.zero_mul, Nat.add_zero] at h2
              rw [h2, sumL_succ (limb x) i, Nat.add_mul]
              exact h4
            case measure => simp [intOf] <;> omega
      · obtain rfl : i = n := by omega
        have hprod := Hsum.out
        rw [HSX.out, HSY.out, sumL_succ] at hprod
        have hlt16 := sumL_lt (f := S) (k := 16) fun j hj => HSb.out j (by omega)
        have hfull : sumL S 17 = x * y := by rw [sumL_succ]; exact hprod
        have hcs := hM.cell 16 (by omega)
        have hRA := right_any S HSb.out 0 (by decide)
        rw [hfull, Nat.pow_zero, Nat.div_one] at hRA
        by_cases h0 : S 16 = 0
        · have hp : x * y < bp 16 := by rw [← hprod, h0]; omega
          have e : prodV (x * y) = .tuple #[wideV (x * y), .bool true] := by
            unfold prodV; rw [if_pos hp, decide_eq_true hp]
          have He := hid e
          rw [Nat.mod_eq_of_lt hp] at hRA
          unfold longV at hRA
          have HRA := hid hRA
          rw [h0] at hcs
          clear hfull hlt16 hprod h0 hRA e HSX HSY Hz Hsum
          go_wp2_with (first | ((with_reducible apply ld_rowP undL infoL); exact rfl; exact rfl; exact hM) | ((with_reducible apply st_rowP infoW); exact rfl; exact rfl; exact gRow) | ((with_reducible apply st_rowZ infoW); exact rfl; exact rfl; exact gRow) | (go_at_call 142; refine (HRA.out _).mono ?_; rintro e w' ⟨rfl, hu⟩))
          exact bodyPost_ret (res2 rfl undW infoW _ _ rfl gRow) rfl ⟨by rw [He.out]; rfl, gUp⟩
        · have hp : ¬ x * y < bp 16 := by
            have : 1 * bp 16 ≤ S 16 * bp 16 := Nat.mul_le_mul_right _ (by omega)
            rw [← hprod]; omega
          have e : prodV (x * y) = .tuple #[.agg (cells 16 (fun _ => 0)), .bool false] := by
            unfold prodV
            rw [if_neg hp, decide_eq_false hp, zeroW]
          have He := hid e
          have hb16 : ((S 16 : Int) != 0) = true := by simp; omega
          clear hfull hlt16 hprod hRA e HSX HSY Hz Hsum h0
          generalize S 16 = top at *
          go_wp2_with (first | ((with_reducible apply st_rowP infoW); exact rfl; exact rfl; exact gRow) | ((with_reducible apply st_rowZ infoW); exact rfl; exact rfl; exact gRow))
          exact bodyPost_ret (res2 rfl undW infoW _ _ rfl gRow) rfl ⟨by rw [He.out]; rfl, gUp⟩
theorem wp_st_rowN {P : Program} {t : TypeId} {n : Nat} {o : Oper} {a : Act} {w : World} {K : Act → World → Prop} {Q : Exit → Act → World → Prop} (hi : (P.info? t).map (·.size) = some n) (hd : o.dst = none) (x y : Operand) (ho : o.op = .store t x y) (g : Nat)
    (hx : a.eval x = .pointer (some ⟨g, 0, none⟩)) {f v : Nat → Nat} (hy : a.eval y = .agg (cells n v)) (hC : Row w g t n f) (h : K a (w.setRow g (cells n v))) : o.wp P a w K Q :=
  wp_st_row hi x y ho g hx hy hC (by rw [hd]; exact h)
theorem run_allocW {o : Oper} {a : Act} (ho : o.op = .alloc 33) (w : World) :
    (execOp a.eval o).run Tryz.prog w = .ok (.value (.pointer (some ⟨w.heap.size, 0, none⟩))) (w.alloc (.cells (cells 16 (fun _ => 0)) 33)) := by
  rw [← zeros16]
  unfold execOp
  rw [ho]
  dsimp only
  go_simp
theorem wpAnyU_allocW {ops : Array Oper} {Q : Exit → Act → World → Prop} {md : Region.Mode} {S : World → Prop} {req : Nat → Bool} {i : Nat} {o : Oper} {d : Option Tmp} {fuel : Nat} {listed : Array Bool} {a : Act} {w : World}
    (hi : ops[i]? = some o) (hd : o.dst = d) (hr : Region.ready md ops listed = [i]) (hw : Region.wanted o (yielded ops a.tmps) = true) (ho : o.op = .alloc 33) (hSup : ∀ w w', S w → Up w w' → S w')
    (h : ∀ w1, Up w w1 → wpAnyU Tryz.prog md ops Q S req fuel (listed.setIfInBounds i true) (a.put d (.pointer (some ⟨w1.heap.size, 0, none⟩))) (w1.alloc (.cells (cells 16 (fun _ => 0)) 33))) : wpAnyU Tryz.prog md ops Q S req (fuel + 1) listed a w := by
  subst hd
  refine wpAnyU_one hi hr hw fun w1 hw1 => ?_
  unfold Oper.wp
  rw [run_allocW ho w1]
  exact ⟨fun _ hS => hSup _ _ hS (Up.alloc _ _), h w1 hw1⟩
theorem pm_mul (a b : Int) {sa sb : Bool} (ha : sa = decide (a < 0)) (hb' : sb = decide (b < 0)) : pm (sa != sb) (a.natAbs * b.natAbs) = a * b := by
  subst ha; subst hb'
  by_cases h1 : a < 0
  · obtain ⟨n, e⟩ : ∃ n : Nat, a = -(n : Int) := ⟨a.natAbs, by omega⟩
    by_cases h2 : b < 0
    · obtain ⟨m, f⟩ : ∃ m : Nat, b = -(m : Int) := ⟨b.natAbs, by omega⟩
      rw [decide_eq_true h1, decide_eq_true h2, e, f, Int.natAbs_neg, Int.natAbs_neg, Int.neg_mul_neg]
      rfl
    · obtain ⟨m, f⟩ : ∃ m : Nat, b = (m : Int) := ⟨b.natAbs, by omega⟩
      rw [decide_eq_true h1, decide_eq_false h2, e, f, Int.natAbs_neg, Int.neg_mul]
      rfl
  · obtain ⟨n, e⟩ : ∃ n : Nat, a = (n : Int) := ⟨a.natAbs, by omega⟩
    by_cases h2 : b < 0
    · obtain ⟨m, f⟩ : ∃ m : Nat, b = -(m : Int) := ⟨b.natAbs, by omega⟩
      rw [decide_eq_false h1, decide_eq_true h2, e, f, Int.natAbs_neg, Int.mul_neg]
      rfl
    · obtain ⟨m, f⟩ : ∃ m : Nat, b = (m : Int) := ⟨b.natAbs, by omega⟩
      rw [decide_eq_false h1, decide_eq_false h2, e, f]
      rfl
theorem mul_not {a b : Int} (h : ¬ a.natAbs * b.natAbs < bp 16) : ¬ InR (a * b) := fun hr => by
  have h1 := enc_natAbs hr
  rw [Int.natAbs_mul] at h1
  exact h h1.2
set_option maxHeartbeats 2000000 in
theorem mul_z {a b : Int} (ha : InR a) (hb' : InR b) (w : World) :
    Calls Tryz.prog 104 #[wideV (enc a), wideV (enc b)] w fun e w' => e = .returned (opt (a * b)) ∧ Up w w' := by
  have HA := hid (fun w => amount_z ha w)
  have HB := hid (fun w => amount_z hb' w)
  have hT := fun w => times_any _ _ (enc_natAbs ha).2 (enc_natAbs hb').2 w
  have hMA := fun w => minus_z ha w
  have hMB := fun w => minus_z hb' w
  obtain ⟨sa, ea⟩ : ∃ sa, sa = decide (a < 0) := ⟨_, rfl⟩
  obtain ⟨sb, eb⟩ : ∃ sb, sb = decide (b < 0) := ⟨_, rfl⟩
  rw [← ea] at hMA
  rw [← eb] at hMB
  have HMA := hid hMA
  have HMB := hid hMB
  clear hMA hMB
  by_cases hp : a.natAbs * b.natAbs < bp 16
  · have hv : prodV (a.natAbs * b.natAbs) = .tuple #[wideV (a.natAbs * b.natAbs), .bool true] := by
      unfold prodV; rw [if_pos hp, decide_eq_true hp]
    rw [hv] at hT
    have HT := hid hT
    have hS := fun w => signed_any hp (!(sa == sb)) w
    have epm := pm_mul a b ea eb
    change pm (!(sa == sb)) _ = _ at epm
    rw [epm] at hS
    have HS := hid hS
    clear hT hS hv ea eb epm
    generalize a.natAbs * b.natAbs = p at *
    generalize a.natAbs = m at *
    generalize b.natAbs = n at *
    obtain ⟨v, ok, ho⟩ : ∃ v ok, opt (a * b) = .tuple #[.agg (cells 16 (limb v)), .bool ok] := ⟨_, _, rfl⟩
    rw [ho] at HS ⊢
    clear ho
    unfold wideV at *
    go_enter Tryz.func104, Tryz.ntmps104
    go_wp2
    refine wp_region_upS (S := (fun wq => Row wq w.heap.size 33 16 (limb (enc a)) ∧ Row wq (w.heap.size + 1) 33 16 (limb (enc b)) ∧ Row wq (w.heap.size + 1 + 1) 33 16 (fun _ => 0) ∧ Below w.heap.size w wq)) (req := (fun j => j != 9)) (by kernel_rfl) (fun _ _ h hu => ⟨(h.1).up hu, (h.2.1).up hu, (h.2.2.1).up hu, below_up (h.2.2.2) hu⟩) ⟨gRow, gRow, gRow, gUp⟩ (fun wS hSS => ?_)
    have ⟨hS1, hS2, hS3, hSB⟩ := hSS
    refine wpAnyU_take (i := 0) (d := (some 9)) (v := _) rfl rfl (by kernel_rfl) (fun _ _ _ h => h) (fun _ _ h hu => ⟨(h.1).up hu, (h.2.1).up hu, (h.2.2.1).up hu, below_up (h.2.2.2) hu⟩) hSS (Or.inl ⟨by rfl, fun w' hSw => yu_value (run_ld undW infoW _ rfl _ rfl hSw.1)⟩) ?_
    try simp only [Act.put, pu1, pu2, pu3]
    refine wpAnyU_take (i := 1) (d := (some 10)) (v := _) rfl rfl (by kernel_rfl) (fun _ _ _ h => h) (fun _ _ h hu => ⟨(h.1).up hu, (h.2.1).up hu, (h.2.2.1).up hu, below_up (h.2.2.2) hu⟩) hSS (Or.inl ⟨by rfl, fun w' hSw => yu_call ?_ (HA.out _)⟩) ?_
    · go_simp
    try simp only [Act.put, pu1, pu2, pu3]
    refine wpAnyU_take (i := 2) (d := (some 11)) (v := _) rfl rfl (by kernel_rfl) (fun _ _ _ h => h) (fun _ _ h hu => ⟨(h.1).up hu, (h.2.1).up hu, (h.2.2.1).up hu, below_up (h.2.2.2) hu⟩) hSS (Or.inl ⟨by rfl, fun w' hSw => yu_value (run_ld undW infoW _ rfl _ rfl hSw.2.1)⟩) ?_
    try simp only [Act.put, pu1, pu2, pu3]
    refine wpAnyU_take (i := 3) (d := (some 12)) (v := _) rfl rfl (by kernel_rfl) (fun _ _ _ h => h) (fun _ _ h hu => ⟨(h.1).up hu, (h.2.1).up hu, (h.2.2.1).up hu, below_up (h.2.2.2) hu⟩) hSS (Or.inl ⟨by rfl, fun w' hSw => yu_call ?_ (HB.out _)⟩) ?_
    · go_simp
    try simp only [Act.put, pu1, pu2, pu3]
    refine wpAnyU_take (i := 4) (d := (some 13)) (v := _) rfl rfl (by kernel_rfl) (fun _ _ _ h => h) (fun _ _ h hu => ⟨(h.1).up hu, (h.2.1).up hu, (h.2.2.1).up hu, below_up (h.2.2.2) hu⟩) hSS (Or.inl ⟨by rfl, fun w' hSw => yu_call ?_ (HT.out _)⟩) ?_
    · go_simp
    try simp only [Act.put, pu1, pu2, pu3]
    refine wpAnyU_pure (i := 5) (d := (some 8)) (v := ?_) rfl rfl (by kernel_rfl) (fun _ _ _ h => h) (fun _ _ h hu => ⟨(h.1).up hu, (h.2.1).up hu, (h.2.2.1).up hu, below_up (h.2.2.2) hu⟩) (Or.inl ⟨by rfl, fun w' _ => yu_value ?_⟩) ?_
    rotate_left
    · (go_simp; (try exact rfl))
    try simp only [Act.put, pu1, pu2, pu3]
    refine wpAnyU_pure (i := 6) (d := (some 14)) (v := ?_) rfl rfl (by kernel_rfl) (fun _ _ _ h => h) (fun _ _ h hu => ⟨(h.1).up hu, (h.2.1).up hu, (h.2.2.1).up hu, below_up (h.2.2.2) hu⟩) (Or.inl ⟨by rfl, fun w' _ => yu_value ?_⟩) ?_
    rotate_left
    · (go_simp; (try exact rfl))
    try simp only [Act.put, pu1, pu2, pu3]
    refine wpAnyU_pure (i := 7) (d := (some 15)) (v := ?_) rfl rfl (by kernel_rfl) (fun _ _ _ h => h) (fun _ _ h hu => ⟨(h.1).up hu, (h.2.1).up hu, (h.2.2.1).up hu, below_up (h.2.2.2) hu⟩) (Or.inl ⟨by rfl, fun w' _ => yu_value ?_⟩) ?_
    rotate_left
    · (go_simp; (try exact rfl))
    try simp only [Act.put, pu1, pu2, pu3]
    refine wpAnyU_allocW (i := 8) (d := (some 6)) rfl rfl (by kernel_rfl) (by rfl) rfl (fun _ _ h hu => ⟨(h.1).up hu, (h.2.1).up hu, (h.2.2.1).up hu, below_up (h.2.2.2) hu⟩) fun w1 hw1 => ?_
    try simp only [Act.put, pu1, pu2, pu3]
    refine wpAnyU_one (i := 9) rfl (by kernel_rfl) (by rfl) fun w2 hw2 => ?_
    refine wp_st_rowN infoW rfl _ _ rfl _ rfl rfl ((Row.up (row_newc _ 16 _ rfl) hw2)) ?_
    refine ⟨fun h => by simp at h, ?_⟩
    try simp only [Act.put, pu1, pu2, pu3]
    refine wpAnyU_pure (i := 10) (d := (some 7)) (v := ?_) rfl rfl (by kernel_rfl) (fun _ _ _ h => h) (fun _ _ h hu => ⟨(h.1).up hu, (h.2.1).up hu, (h.2.2.1).up hu, below_up (h.2.2.2) hu⟩) (Or.inl ⟨by rfl, fun w' _ => yu_value ?_⟩) ?_
    rotate_left
    · (go_simp; (try exact rfl))
    try simp only [Act.put, pu1, pu2, pu3]
    refine wpAnyU_done (by kernel_rfl) (fun wF huE => ?_) _
    have gX := ((((hS1.up hw1).up (Up.alloc _ _)).up hw2).row_other (cells 16 (limb p)) (show w.heap.size ≠ w1.heap.size by have := (hS1.up hw1).lt; omega)).up huE
    have gY := ((((hS2.up hw1).up (Up.alloc _ _)).up hw2).row_other (cells 16 (limb p)) (show w.heap.size + 1 ≠ w1.heap.size by have := (hS2.up hw1).lt; omega)).up huE
    have gR := ((((hS3.up hw1).up (Up.alloc _ _)).up hw2).row_other (cells 16 (limb p)) (show w.heap.size + 1 + 1 ≠ w1.heap.size by have := (hS3.up hw1).lt; omega)).up huE
    have gP := ((Row.up (row_newc 33 16 (fun _ => 0) (rfl : w1.heap.size = w1.heap.size)) hw2).setRow (limb p)).up huE
    have gB : Below w.heap.size w wF := below_up (below_setRow (below_up ((below_up hSB hw1).alloc (by have := (hS3.up hw1).lt; omega) _) hw2) (by have := (hS3.up hw1).lt; omega) _) huE
    have hne := (hS3.up hw1).lt
    clear hS1 hS2 hS3 hSB hSS hw1 hw2 huE
    generalize w1.heap.size = pb at *
    go_wp2
    refine wp_region_upS (S := (fun wq => Row wq w.heap.size 33 16 (limb (enc a)) ∧ Row wq (w.heap.size + 1) 33 16 (limb (enc b)) ∧ Row wq (w.heap.size + 1 + 1) 33 16 (fun _ => 0) ∧ Row wq pb 33 16 (limb p) ∧ Below w.heap.size w wq)) (req := (fun j => j != 9)) (by kernel_rfl) (fun _ _ h hu => ⟨(h.1).up hu, (h.2.1).up hu, (h.2.2.1).up hu, (h.2.2.2.1).up hu, below_up (h.2.2.2.2) hu⟩) ⟨gRow, gRow, gRow, gRow, gUp⟩ (fun wS hSS => ?_)
    have ⟨hS1, hS2, hS3, hS4, hSB⟩ := hSS
    clear gX gY gR gP gB
    refine wpAnyU_take (i := 0) (d := (some 19)) (v := _) rfl rfl (by kernel_rfl) (fun _ _ _ h => h) (fun _ _ h hu => ⟨(h.1).up hu, (h.2.1).up hu, (h.2.2.1).up hu, (h.2.2.2.1).up hu, below_up (h.2.2.2.2) hu⟩) hSS (Or.inl ⟨by rfl, fun w' hSw => yu_value (run_ld undW infoW _ rfl _ rfl hSw.2.2.2.1)⟩) ?_
    try simp only [Act.put, pu1, pu2, pu3]
    refine wpAnyU_take (i := 1) (d := (some 20)) (v := _) rfl rfl (by kernel_rfl) (fun _ _ _ h => h) (fun _ _ h hu => ⟨(h.1).up hu, (h.2.1).up hu, (h.2.2.1).up hu, (h.2.2.2.1).up hu, below_up (h.2.2.2.2) hu⟩) hSS (Or.inl ⟨by rfl, fun w' hSw => yu_value (run_ld undW infoW _ rfl _ rfl hSw.1)⟩) ?_
    try simp only [Act.put, pu1, pu2, pu3]
    refine wpAnyU_take (i := 2) (d := (some 21)) (v := _) rfl rfl (by kernel_rfl) (fun _ _ _ h => h) (fun _ _ h hu => ⟨(h.1).up hu, (h.2.1).up hu, (h.2.2.1).up hu, (h.2.2.2.1).up hu, below_up (h.2.2.2.2) hu⟩) hSS (Or.inl ⟨by rfl, fun w' hSw => yu_call ?_ (HMA.out _)⟩) ?_
    · go_simp
    try simp only [Act.put, pu1, pu2, pu3]
    refine wpAnyU_take (i := 3) (d := (some 22)) (v := _) rfl rfl (by kernel_rfl) (fun _ _ _ h => h) (fun _ _ h hu => ⟨(h.1).up hu, (h.2.1).up hu, (h.2.2.1).up hu, (h.2.2.2.1).up hu, below_up (h.2.2.2.2) hu⟩) hSS (Or.inl ⟨by rfl, fun w' hSw => yu_value (run_ld undW infoW _ rfl _ rfl hSw.2.1)⟩) ?_
    try simp only [Act.put, pu1, pu2, pu3]
    refine wpAnyU_take (i := 4) (d := (some 23)) (v := _) rfl rfl (by kernel_rfl) (fun _ _ _ h => h) (fun _ _ h hu => ⟨(h.1).up hu, (h.2.1).up hu, (h.2.2.1).up hu, (h.2.2.2.1).up hu, below_up (h.2.2.2.2) hu⟩) hSS (Or.inl ⟨by rfl, fun w' hSw => yu_call ?_ (HMB.out _)⟩) ?_
    · go_simp
    try simp only [Act.put, pu1, pu2, pu3]
    refine wpAnyU_pure (i := 5) (d := (some 24)) (v := ?_) rfl rfl (by kernel_rfl) (fun _ _ _ h => h) (fun _ _ h hu => ⟨(h.1).up hu, (h.2.1).up hu, (h.2.2.1).up hu, (h.2.2.2.1).up hu, below_up (h.2.2.2.2) hu⟩) (Or.inl ⟨by rfl, fun w' _ => yu_value ?_⟩) ?_
    rotate_left
    · (go_simp; (try exact rfl))
    try simp only [Act.put, pu1, pu2, pu3]
    refine wpAnyU_take (i := 6) (d := (some 25)) (v := _) rfl rfl (by kernel_rfl) (fun _ _ _ h => h) (fun _ _ h hu => ⟨(h.1).up hu, (h.2.1).up hu, (h.2.2.1).up hu, (h.2.2.2.1).up hu, below_up (h.2.2.2.2) hu⟩) hSS (Or.inl ⟨by rfl, fun w' hSw => yu_call ?_ (HS.out _)⟩) ?_
    · go_simp
    try simp only [Act.put, pu1, pu2, pu3]
    refine wpAnyU_pure (i := 7) (d := (some 26)) (v := ?_) rfl rfl (by kernel_rfl) (fun _ _ _ h => h) (fun _ _ h hu => ⟨(h.1).up hu, (h.2.1).up hu, (h.2.2.1).up hu, (h.2.2.2.1).up hu, below_up (h.2.2.2.2) hu⟩) (Or.inl ⟨by rfl, fun w' _ => yu_value ?_⟩) ?_
    rotate_left
    · (go_simp; (try exact rfl))
    try simp only [Act.put, pu1, pu2, pu3]
    refine wpAnyU_pure (i := 8) (d := (some 27)) (v := ?_) rfl rfl (by kernel_rfl) (fun _ _ _ h => h) (fun _ _ h hu => ⟨(h.1).up hu, (h.2.1).up hu, (h.2.2.1).up hu, (h.2.2.2.1).up hu, below_up (h.2.2.2.2) hu⟩) (Or.inl ⟨by rfl, fun w' _ => yu_value ?_⟩) ?_
    rotate_left
    · (go_simp; (try exact rfl))
    try simp only [Act.put, pu1, pu2, pu3]
    refine wpAnyU_one (i := 9) rfl (by kernel_rfl) (by rfl) fun w4 hw4 => ?_
    refine wp_st_rowN infoW rfl _ _ rfl _ rfl rfl ((hS3.up hw4)) ?_
    refine ⟨fun h => by simp at h, ?_⟩
    try simp only [Act.put, pu1, pu2, pu3]
    refine wpAnyU_pure (i := 10) (d := (some 5)) (v := ?_) rfl rfl (by kernel_rfl) (fun _ _ _ h => h) (fun _ _ h hu => ⟨(h.1).up hu, (h.2.1).up hu, (h.2.2.1).up hu, (h.2.2.2.1).up hu, below_up (h.2.2.2.2) hu⟩) (Or.inl ⟨by rfl, fun w' _ => yu_value ?_⟩) ?_
    rotate_left
    · (go_simp; (try exact rfl))
    try simp only [Act.put, pu1, pu2, pu3]
    refine wpAnyU_done (by kernel_rfl) (fun wF huE => ?_) _
    have gR := ((hS3.up hw4).setRow (limb v)).up huE
    have gB := below_up (below_setRow (below_up hSB hw4) (by omega) _) huE
    clear hS1 hS2 hS3 hS4 hSB hSS hw4 huE
    go_wp2
    exact bodyPost_ret (res2 rfl undW infoW _ _ rfl gR) rfl ⟨rfl, gB⟩
  · have hv : prodV (a.natAbs * b.natAbs) = .tuple #[.agg (cells 16 (fun _ => 0)), .bool false] := by
      unfold prodV
      rw [if_neg hp, decide_eq_false hp, zeroW]
    rw [hv] at hT
    have HT := hid hT
    have ho := opt_no (mul_not hp)
    rw [ho]
    clear hT hv ea eb ho hp
    generalize a.natAbs = m at *
    generalize b.natAbs = n at *
    unfold wideV at *
    go_enter Tryz.func104, Tryz.ntmps104
    go_wp2
    refine wp_region_upS (S := (fun wq => Row wq w.heap.size 33 16 (limb (enc a)) ∧ Row wq (w.heap.size + 1) 33 16 (limb (enc b)) ∧ Row wq (w.heap.size + 1 + 1) 33 16 (fun _ => 0) ∧ Below w.heap.size w wq)) (req := (fun j => j != 9)) (by kernel_rfl) (fun _ _ h hu => ⟨(h.1).up hu, (h.2.1).up hu, (h.2.2.1).up hu, below_up (h.2.2.2) hu⟩) ⟨gRow, gRow, gRow, gUp⟩ (fun wS hSS => ?_)
    have ⟨hS1, hS2, hS3, hSB⟩ := hSS
    refine wpAnyU_take (i := 0) (d := (some 9)) (v := _) rfl rfl (by kernel_rfl) (fun _ _ _ h => h) (fun _ _ h hu => ⟨(h.1).up hu, (h.2.1).up hu, (h.2.2.1).up hu, below_up (h.2.2.2) hu⟩) hSS (Or.inl ⟨by rfl, fun w' hSw => yu_value (run_ld undW infoW _ rfl _ rfl hSw.1)⟩) ?_
    try simp only [Act.put, pu1, pu2, pu3]
    refine wpAnyU_take (i := 1) (d := (some 10)) (v := _) rfl rfl (by kernel_rfl) (fun _ _ _ h => h) (fun _ _ h hu => ⟨(h.1).up hu, (h.2.1).up hu, (h.2.2.1).up hu, below_up (h.2.2.2) hu⟩) hSS (Or.inl ⟨by rfl, fun w' hSw => yu_call ?_ (HA.out _)⟩) ?_
    · go_simp
    try simp only [Act.put, pu1, pu2, pu3]
    refine wpAnyU_take (i := 2) (d := (some 11)) (v := _) rfl rfl (by kernel_rfl) (fun _ _ _ h => h) (fun _ _ h hu => ⟨(h.1).up hu, (h.2.1).up hu, (h.2.2.1).up hu, below_up (h.2.2.2) hu⟩) hSS (Or.inl ⟨by rfl, fun w' hSw => yu_value (run_ld undW infoW _ rfl _ rfl hSw.2.1)⟩) ?_
    try simp only [Act.put, pu1, pu2, pu3]
    refine wpAnyU_take (i := 3) (d := (some 12)) (v := _) rfl rfl (by kernel_rfl) (fun _ _ _ h => h) (fun _ _ h hu => ⟨(h.1).up hu, (h.2.1).up hu, (h.2.2.1).up hu, below_up (h.2.2.2) hu⟩) hSS (Or.inl ⟨by rfl, fun w' hSw => yu_call ?_ (HB.out _)⟩) ?_
    · go_simp
    try simp only [Act.put, pu1, pu2, pu3]
    refine wpAnyU_take (i := 4) (d := (some 13)) (v := _) rfl rfl (by kernel_rfl) (fun _ _ _ h => h) (fun _ _ h hu => ⟨(h.1).up hu, (h.2.1).up hu, (h.2.2.1).up hu, below_up (h.2.2.2) hu⟩) hSS (Or.inl ⟨by rfl, fun w' hSw => yu_call ?_ (HT.out _)⟩) ?_
    · go_simp
    try simp only [Act.put, pu1, pu2, pu3]
    refine wpAnyU_pure (i := 5) (d := (some 8)) (v := ?_) rfl rfl (by kernel_rfl) (fun _ _ _ h => h) (fun _ _ h hu => ⟨(h.1).up hu, (h.2.1).up hu, (h.2.2.1).up hu, below_up (h.2.2.2) hu⟩) (Or.inl ⟨by rfl, fun w' _ => yu_value ?_⟩) ?_
    rotate_left
    · (go_simp; (try exact rfl))
    try simp only [Act.put, pu1, pu2, pu3]
    refine wpAnyU_pure (i := 6) (d := (some 14)) (v := ?_) rfl rfl (by kernel_rfl) (fun _ _ _ h => h) (fun _ _ h hu => ⟨(h.1).up hu, (h.2.1).up hu, (h.2.2.1).up hu, below_up (h.2.2.2) hu⟩) (Or.inl ⟨by rfl, fun w' _ => yu_value ?_⟩) ?_
    rotate_left
    · (go_simp; (try exact rfl))
    try simp only [Act.put, pu1, pu2, pu3]
    refine wpAnyU_pure (i := 7) (d := (some 15)) (v := ?_) rfl rfl (by kernel_rfl) (fun _ _ _ h => h) (fun _ _ h hu => ⟨(h.1).up hu, (h.2.1).up hu, (h.2.2.1).up hu, below_up (h.2.2.2) hu⟩) (Or.inl ⟨by rfl, fun w' _ => yu_value ?_⟩) ?_
    rotate_left
    · (go_simp; (try exact rfl))
    try simp only [Act.put, pu1, pu2, pu3]
    refine wpAnyU_allocW (i := 8) (d := (some 6)) rfl rfl (by kernel_rfl) (by rfl) rfl (fun _ _ h hu => ⟨(h.1).up hu, (h.2.1).up hu, (h.2.2.1).up hu, below_up (h.2.2.2) hu⟩) fun w1 hw1 => ?_
    try simp only [Act.put, pu1, pu2, pu3]
    refine wpAnyU_one (i := 9) rfl (by kernel_rfl) (by rfl) fun w2 hw2 => ?_
    refine wp_st_rowN infoW rfl _ _ rfl _ rfl rfl ((Row.up (row_newc _ 16 _ rfl) hw2)) ?_
    refine ⟨fun h => by simp at h, ?_⟩
    try simp only [Act.put, pu1, pu2, pu3]
    refine wpAnyU_pure (i := 10) (d := (some 7)) (v := ?_) rfl rfl (by kernel_rfl) (fun _ _ _ h => h) (fun _ _ h hu => ⟨(h.1).up hu, (h.2.1).up hu, (h.2.2.1).up hu, below_up (h.2.2.2) hu⟩) (Or.inl ⟨by rfl, fun w' _ => yu_value ?_⟩) ?_
    rotate_left
    · (go_simp; (try exact rfl))
    try simp only [Act.put, pu1, pu2, pu3]
    refine wpAnyU_done (by kernel_rfl) (fun wF huE => ?_) _
    have gR := ((((hS3.up hw1).up (Up.alloc _ _)).up hw2).row_other (cells 16 (fun _ => 0)) (show w.heap.size + 1 + 1 ≠ w1.heap.size by have := (hS3.up hw1).lt; omega)).up huE
    have gB : Below w.heap.size w wF := below_up (below_setRow (below_up ((below_up hSB hw1).alloc (by have := (hS3.up hw1).lt; omega) _) hw2) (by have := (hS3.up hw1).lt; omega) _) huE
    clear hS1 hS2 hS3 hSB hSS hw1 hw2 huE
    go_wp2_with (first | ((with_reducible apply st_rowP infoW); exact rfl; exact rfl; exact gRow) | ((with_reducible apply st_rowZ infoW); exact rfl; exact rfl; exact gRow))
    exact bodyPost_ret (res2 rfl undW infoW _ _ rfl gRow) rfl ⟨rfl, gUp⟩
structure IsP (p : Prop) (b : Bool) : Prop where
  out : b = true ↔ p
theorem IsP.yes {p : Prop} (h : p) : IsP p true := ⟨by simp [h]⟩
theorem IsP.no {p : Prop} (h : ¬ p) : IsP p false := ⟨by simp [h]⟩
theorem IsP.dec {p : Prop} {b : Bool} [Decidable p] (h : IsP p b) : decide p = b := by
  rw [Bool.eq_iff_iff, decide_eq_true_iff]; exact h.out.symm
theorem op_addN {P : Program} {o : Oper} {a : Act} {x y : Operand} {t u : TypeId} {X Y : Nat} (ho : o.op = .binOp .add t x y u) (hx : a.eval x = .int .u64 (X : Nat)) (hy : a.eval y = .int .u64 (Y : Nat))  (w : World) :
    (execOp a.eval o).run P w = .ok (.value (.int .u64 (((X + Y) % 18446744073709551616 : Nat) : Int))) w := by
  have e : IntKind.u64.wrap ((X : Int) + (Y : Int)) = (((X + Y) % 18446744073709551616 : Nat) : Int) := by rw [IntKind.wrap_u64]; omega
  unfold execOp
  simp only [ho, hx, hy, eqGuard, binOp, Op.intArith, e]
  simp
theorem addNP {P : Program} {t u : TypeId} {ops : Array Oper} {rest : List Oper} {Q : Exit → Act → World → Prop} {a : Act} {w : World} {d : Option Tmp} {x y : Operand} {ty : TypeId} {pos : String} {af : Array Edge} {gd : Option (Nat × Bool)} {X Y : Nat}
    (hw : Region.wanted { dst := d, op := .binOp .add t x y u, type := ty, pos := pos, after := af, guard := gd } (yielded ops a.tmps) = true) (hx : a.eval x = .int .u64 (X : Nat)) (hy : a.eval y = .int .u64 (Y : Nat)) 
    (h : wpList P ops Q rest (a.put d (.int .u64 (((X + Y) % 18446744073709551616 : Nat) : Int))) w) : wpList P ops Q ({ dst := d, op := .binOp .add t x y u, type := ty, pos := pos, after := af, guard := gd } :: rest) a w := wpList_run hw (op_addN rfl hx hy  w) h
theorem op_mulN {P : Program} {o : Oper} {a : Act} {x y : Operand} {t u : TypeId} {X Y : Nat} (ho : o.op = .binOp .mul t x y u) (hx : a.eval x = .int .u64 (X : Nat)) (hy : a.eval y = .int .u64 (Y : Nat))  (w : World) :
    (execOp a.eval o).run P w = .ok (.value (.int .u64 ((X * Y % 18446744073709551616 : Nat) : Int))) w := by
  have e : IntKind.u64.wrap ((X : Int) * (Y : Int)) = ((X * Y % 18446744073709551616 : Nat) : Int) := by rw [IntKind.wrap_u64, ← Int.natCast_mul]; omega
  unfold execOp
  simp only [ho, hx, hy, eqGuard, binOp, Op.intArith, e]
  simp
theorem mulNP {P : Program} {t u : TypeId} {ops : Array Oper} {rest : List Oper} {Q : Exit → Act → World → Prop} {a : Act} {w : World} {d : Option Tmp} {x y : Operand} {ty : TypeId} {pos : String} {af : Array Edge} {gd : Option (Nat × Bool)} {X Y : Nat}
    (hw : Region.wanted { dst := d, op := .binOp .mul t x y u, type := ty, pos := pos, after := af, guard := gd } (yielded ops a.tmps) = true) (hx : a.eval x = .int .u64 (X : Nat)) (hy : a.eval y = .int .u64 (Y : Nat)) 
    (h : wpList P ops Q rest (a.put d (.int .u64 ((X * Y % 18446744073709551616 : Nat) : Int))) w) : wpList P ops Q ({ dst := d, op := .binOp .mul t x y u, type := ty, pos := pos, after := af, guard := gd } :: rest) a w := wpList_run hw (op_mulN rfl hx hy  w) h
theorem op_subN {P : Program} {o : Oper} {a : Act} {x y : Operand} {t u : TypeId} {X Y : Nat} (ho : o.op = .binOp .sub t x y u) (hx : a.eval x = .int .u64 (X : Nat)) (hy : a.eval y = .int .u64 (Y : Nat)) (hY : Y < 18446744073709551616) (w : World) :
    (execOp a.eval o).run P w = .ok (.value (.int .u64 (((X + 18446744073709551616 - Y) % 18446744073709551616 : Nat) : Int))) w := by
  have e : IntKind.u64.wrap ((X : Int) - (Y : Int)) = (((X + 18446744073709551616 - Y) % 18446744073709551616 : Nat) : Int) := by rw [IntKind.wrap_u64]; omega
  unfold execOp
  simp only [ho, hx, hy, eqGuard, binOp, Op.intArith, e]
  simp
theorem subNP {P : Program} {t u : TypeId} {ops : Array Oper} {rest : List Oper} {Q : Exit → Act → World → Prop} {a : Act} {w : World} {d : Option Tmp} {x y : Operand} {ty : TypeId} {pos : String} {af : Array Edge} {gd : Option (Nat × Bool)} {X Y : Nat}
    (hw : Region.wanted { dst := d, op := .binOp .sub t x y u, type := ty, pos := pos, after := af, guard := gd } (yielded ops a.tmps) = true) (hx : a.eval x = .int .u64 (X : Nat)) (hy : a.eval y = .int .u64 (Y : Nat)) (hY : Y < 18446744073709551616)
    (h : wpList P ops Q rest (a.put d (.int .u64 (((X + 18446744073709551616 - Y) % 18446744073709551616 : Nat) : Int))) w) : wpList P ops Q ({ dst := d, op := .binOp .sub t x y u, type := ty, pos := pos, after := af, guard := gd } :: rest) a w := wpList_run hw (op_subN rfl hx hy hY w) h
theorem op_quoN {P : Program} {o : Oper} {a : Act} {x y : Operand} {t u : TypeId} {X Y : Nat} (ho : o.op = .binOp .quo t x y u) (hx : a.eval x = .int .u64 (X : Nat)) (hy : a.eval y = .int .u64 (Y : Nat)) (hX : X < 18446744073709551616) (hY : 0 < Y) (w : World) :
    (execOp a.eval o).run P w = .ok (.value (.int .u64 ((X / Y : Nat) : Int))) w := by
  have hd : X / Y < 18446744073709551616 := Nat.lt_of_le_of_lt (Nat.div_le_self _ _) hX
  have e : IntKind.u64.wrap ((X : Int).tdiv (Y : Int)) = ((X / Y : Nat) : Int) := by rw [← Int.ofNat_tdiv, IntKind.wrap_u64]; generalize X / Y = q at *; omega
  have h0 : ((Y : Int) = 0) = False := by simp; omega
  unfold execOp
  simp only [ho, hx, hy, eqGuard, binOp, Op.intDiv, e, h0]
  simp
theorem quoNP {P : Program} {t u : TypeId} {ops : Array Oper} {rest : List Oper} {Q : Exit → Act → World → Prop} {a : Act} {w : World} {d : Option Tmp} {x y : Operand} {ty : TypeId} {pos : String} {af : Array Edge} {gd : Option (Nat × Bool)} {X Y : Nat}
    (hw : Region.wanted { dst := d, op := .binOp .quo t x y u, type := ty, pos := pos, after := af, guard := gd } (yielded ops a.tmps) = true) (hx : a.eval x = .int .u64 (X : Nat)) (hy : a.eval y = .int .u64 (Y : Nat)) (hX : X < 18446744073709551616) (hY : 0 < Y)
    (h : wpList P ops Q rest (a.put d (.int .u64 ((X / Y : Nat) : Int))) w) : wpList P ops Q ({ dst := d, op := .binOp .quo t x y u, type := ty, pos := pos, after := af, guard := gd } :: rest) a w := wpList_run hw (op_quoN rfl hx hy hX hY w) h
theorem op_remN {P : Program} {o : Oper} {a : Act} {x y : Operand} {t u : TypeId} {X Y : Nat} (ho : o.op = .binOp .rem t x y u) (hx : a.eval x = .int .u64 (X : Nat)) (hy : a.eval y = .int .u64 (Y : Nat)) (_ : X < 18446744073709551616) (hY : 0 < Y) (w : World) :
    (execOp a.eval o).run P w = .ok (.value (.int .u64 ((X % Y : Nat) : Int))) w := by
  have h0 : ((Y : Int) = 0) = False := by simp; omega
  have e : (X : Int).tmod (Y : Int) = ((X % Y : Nat) : Int) := by rw [← Int.ofNat_tmod]
  unfold execOp
  simp only [ho, hx, hy, eqGuard, binOp, Op.intDiv, e, h0]
  simp
theorem op_andN {P : Program} {o : Oper} {a : Act} {x y : Operand} {t u : TypeId} {X Y : Nat} (ho : o.op = .binOp .and t x y u) (hx : a.eval x = .int .u64 (X : Nat)) (hy : a.eval y = .int .u64 (Y : Nat)) (hX : X < 18446744073709551616) (hY : Y < 18446744073709551616) (w : World) :
    (execOp a.eval o).run P w = .ok (.value (.int .u64 ((X &&& Y : Nat) : Int))) w := by
  unfold execOp
  simp only [ho, hx, hy, eqGuard, binOp, intBits_and, bits_and_u64_nat X Y hX hY]
  simp
theorem andNP {P : Program} {t u : TypeId} {ops : Array Oper} {rest : List Oper} {Q : Exit → Act → World → Prop} {a : Act} {w : World} {d : Option Tmp} {x y : Operand} {ty : TypeId} {pos : String} {af : Array Edge} {gd : Option (Nat × Bool)} {X Y : Nat}
    (hw : Region.wanted { dst := d, op := .binOp .and t x y u, type := ty, pos := pos, after := af, guard := gd } (yielded ops a.tmps) = true) (hx : a.eval x = .int .u64 (X : Nat)) (hy : a.eval y = .int .u64 (Y : Nat)) (hX : X < 18446744073709551616) (hY : Y < 18446744073709551616)
    (h : wpList P ops Q rest (a.put d (.int .u64 ((X &&& Y : Nat) : Int))) w) : wpList P ops Q ({ dst := d, op := .binOp .and t x y u, type := ty, pos := pos, after := af, guard := gd } :: rest) a w := wpList_run hw (op_andN rfl hx hy hX hY w) h
theorem op_shrN {P : Program} {o : Oper} {a : Act} {x y : Operand} {t u : TypeId} {X Y : Nat} (ho : o.op = .binOp .shr t x y u) (hx : a.eval x = .int .u64 (X : Nat)) (hy : a.eval y = .int .u64 (Y : Nat)) (hs : Y ≤ 64) (w : World) :
    (execOp a.eval o).run P w = .ok (.value (.int .u64 ((X / 2 ^ Y : Nat) : Int))) w := by
  exact op_shr ho hx hy hs w
theorem shrNP {P : Program} {t u : TypeId} {ops : Array Oper} {rest : List Oper} {Q : Exit → Act → World → Prop} {a : Act} {w : World} {d : Option Tmp} {x y : Operand} {ty : TypeId} {pos : String} {af : Array Edge} {gd : Option (Nat × Bool)} {X Y : Nat}
    (hw : Region.wanted { dst := d, op := .binOp .shr t x y u, type := ty, pos := pos, after := af, guard := gd } (yielded ops a.tmps) = true) (hx : a.eval x = .int .u64 (X : Nat)) (hy : a.eval y = .int .u64 (Y : Nat)) (hs : Y ≤ 64)
    (h : wpList P ops Q rest (a.put d (.int .u64 ((X / 2 ^ Y : Nat) : Int))) w) : wpList P ops Q ({ dst := d, op := .binOp .shr t x y u, type := ty, pos := pos, after := af, guard := gd } :: rest) a w := wpList_run hw (op_shrN rfl hx hy hs w) h
theorem op_shlN {P : Program} {o : Oper} {a : Act} {x y : Operand} {t u : TypeId} {X Y : Nat} (ho : o.op = .binOp .shl t x y u) (hx : a.eval x = .int .u64 (X : Nat)) (hy : a.eval y = .int .u64 (Y : Nat)) (hs : Y ≤ 64) (w : World) :
    (execOp a.eval o).run P w = .ok (.value (.int .u64 ((X * 2 ^ Y % 18446744073709551616 : Nat) : Int))) w := by
  exact op_shl ho hx hy hs w
theorem shlNP {P : Program} {t u : TypeId} {ops : Array Oper} {rest : List Oper} {Q : Exit → Act → World → Prop} {a : Act} {w : World} {d : Option Tmp} {x y : Operand} {ty : TypeId} {pos : String} {af : Array Edge} {gd : Option (Nat × Bool)} {X Y : Nat}
    (hw : Region.wanted { dst := d, op := .binOp .shl t x y u, type := ty, pos := pos, after := af, guard := gd } (yielded ops a.tmps) = true) (hx : a.eval x = .int .u64 (X : Nat)) (hy : a.eval y = .int .u64 (Y : Nat)) (hs : Y ≤ 64)
    (h : wpList P ops Q rest (a.put d (.int .u64 ((X * 2 ^ Y % 18446744073709551616 : Nat) : Int))) w) : wpList P ops Q ({ dst := d, op := .binOp .shl t x y u, type := ty, pos := pos, after := af, guard := gd } :: rest) a w := wpList_run hw (op_shlN rfl hx hy hs w) h
theorem op_orN {P : Program} {o : Oper} {a : Act} {x y : Operand} {t u : TypeId} {X Y : Nat} (ho : o.op = .binOp .or t x y u) (hx : a.eval x = .int .u64 (X : Nat)) (hy : a.eval y = .int .u64 (Y : Nat)) (hX : X < 18446744073709551616) (hY : Y < 18446744073709551616) (w : World) :
    (execOp a.eval o).run P w = .ok (.value (.int .u64 ((X ||| Y : Nat) : Int))) w := by
  exact op_or ho hx hy hX hY w
theorem orNP {P : Program} {t u : TypeId} {ops : Array Oper} {rest : List Oper} {Q : Exit → Act → World → Prop} {a : Act} {w : World} {d : Option Tmp} {x y : Operand} {ty : TypeId} {pos : String} {af : Array Edge} {gd : Option (Nat × Bool)} {X Y : Nat}
    (hw : Region.wanted { dst := d, op := .binOp .or t x y u, type := ty, pos := pos, after := af, guard := gd } (yielded ops a.tmps) = true) (hx : a.eval x = .int .u64 (X : Nat)) (hy : a.eval y = .int .u64 (Y : Nat)) (hX : X < 18446744073709551616) (hY : Y < 18446744073709551616)
    (h : wpList P ops Q rest (a.put d (.int .u64 ((X ||| Y : Nat) : Int))) w) : wpList P ops Q ({ dst := d, op := .binOp .or t x y u, type := ty, pos := pos, after := af, guard := gd } :: rest) a w := wpList_run hw (op_orN rfl hx hy hX hY w) h
theorem op_geqB {P : Program} {o : Oper} {a : Act} {x y : Operand} {t u : TypeId} {X Y : Nat} (ho : o.op = .binOp .geq t x y u) (hx : a.eval x = .int .u64 (X : Nat)) (hy : a.eval y = .int .u64 (Y : Nat)) {b : Bool} (hb' : IsP (Y ≤ X) b) (w : World) :
    (execOp a.eval o).run P w = .ok (.value (.bool b)) w := by
  rw [← show decide (Y ≤ X) = b from hb'.dec]
  unfold execOp
  simp only [ho, hx, hy]
  go_simp
  try (rw [Bool.eq_iff_iff]; simp; try omega)
theorem geqBP {P : Program} {t u : TypeId} {ops : Array Oper} {rest : List Oper} {Q : Exit → Act → World → Prop} {a : Act} {w : World} {d : Option Tmp} {x y : Operand} {ty : TypeId} {pos : String} {af : Array Edge} {gd : Option (Nat × Bool)} {X Y : Nat}
    (hw : Region.wanted { dst := d, op := .binOp .geq t x y u, type := ty, pos := pos, after := af, guard := gd } (yielded ops a.tmps) = true) (hx : a.eval x = .int .u64 (X : Nat)) (hy : a.eval y = .int .u64 (Y : Nat)) {b : Bool} (hb' : IsP (Y ≤ X) b)
    (h : wpList P ops Q rest (a.put d (.bool b)) w) : wpList P ops Q ({ dst := d, op := .binOp .geq t x y u, type := ty, pos := pos, after := af, guard := gd } :: rest) a w := wpList_run hw (op_geqB rfl hx hy hb' w) h
theorem op_gtrB {P : Program} {o : Oper} {a : Act} {x y : Operand} {t u : TypeId} {X Y : Nat} (ho : o.op = .binOp .gtr t x y u) (hx : a.eval x = .int .u64 (X : Nat)) (hy : a.eval y = .int .u64 (Y : Nat)) {b : Bool} (hb' : IsP (Y < X) b) (w : World) :
    (execOp a.eval o).run P w = .ok (.value (.bool b)) w := by
  rw [← show decide (Y < X) = b from hb'.dec]
  unfold execOp
  simp only [ho, hx, hy]
  go_simp
  try (rw [Bool.eq_iff_iff]; simp; try omega)
theorem gtrBP {P : Program} {t u : TypeId} {ops : Array Oper} {rest : List Oper} {Q : Exit → Act → World → Prop} {a : Act} {w : World} {d : Option Tmp} {x y : Operand} {ty : TypeId} {pos : String} {af : Array Edge} {gd : Option (Nat × Bool)} {X Y : Nat}
    (hw : Region.wanted { dst := d, op := .binOp .gtr t x y u, type := ty, pos := pos, after := af, guard := gd } (yielded ops a.tmps) = true) (hx : a.eval x = .int .u64 (X : Nat)) (hy : a.eval y = .int .u64 (Y : Nat)) {b : Bool} (hb' : IsP (Y < X) b)
    (h : wpList P ops Q rest (a.put d (.bool b)) w) : wpList P ops Q ({ dst := d, op := .binOp .gtr t x y u, type := ty, pos := pos, after := af, guard := gd } :: rest) a w := wpList_run hw (op_gtrB rfl hx hy hb' w) h
theorem op_leqB {P : Program} {o : Oper} {a : Act} {x y : Operand} {t u : TypeId} {X Y : Nat} (ho : o.op = .binOp .leq t x y u) (hx : a.eval x = .int .u64 (X : Nat)) (hy : a.eval y = .int .u64 (Y : Nat)) {b : Bool} (hb' : IsP (X ≤ Y) b) (w : World) :
    (execOp a.eval o).run P w = .ok (.value (.bool b)) w := by
  rw [← show decide (X ≤ Y) = b from hb'.dec]
  unfold execOp
  simp only [ho, hx, hy]
  go_simp
  try (rw [Bool.eq_iff_iff]; simp; try omega)
theorem leqBP {P : Program} {t u : TypeId} {ops : Array Oper} {rest : List Oper} {Q : Exit → Act → World → Prop} {a : Act} {w : World} {d : Option Tmp} {x y : Operand} {ty : TypeId} {pos : String} {af : Array Edge} {gd : Option (Nat × Bool)} {X Y : Nat}
    (hw : Region.wanted { dst := d, op := .binOp .leq t x y u, type := ty, pos := pos, after := af, guard := gd } (yielded ops a.tmps) = true) (hx : a.eval x = .int .u64 (X : Nat)) (hy : a.eval y = .int .u64 (Y : Nat)) {b : Bool} (hb' : IsP (X ≤ Y) b)
    (h : wpList P ops Q rest (a.put d (.bool b)) w) : wpList P ops Q ({ dst := d, op := .binOp .leq t x y u, type := ty, pos := pos, after := af, guard := gd } :: rest) a w := wpList_run hw (op_leqB rfl hx hy hb' w) h
theorem op_eqlB {P : Program} {o : Oper} {a : Act} {x y : Operand} {t u : TypeId} {X Y : Nat} (ho : o.op = .binOp .eql t x y u) (hx : a.eval x = .int .u64 (X : Nat)) (hy : a.eval y = .int .u64 (Y : Nat)) {b : Bool} (hb' : IsP (X = Y) b) (w : World) :
    (execOp a.eval o).run P w = .ok (.value (.bool b)) w := by
  rw [← show decide (X = Y) = b from hb'.dec]
  unfold execOp
  simp only [ho, hx, hy]
  go_simp
  try (rw [Bool.eq_iff_iff]; simp; try omega)
theorem eqlBP {P : Program} {t u : TypeId} {ops : Array Oper} {rest : List Oper} {Q : Exit → Act → World → Prop} {a : Act} {w : World} {d : Option Tmp} {x y : Operand} {ty : TypeId} {pos : String} {af : Array Edge} {gd : Option (Nat × Bool)} {X Y : Nat}
    (hw : Region.wanted { dst := d, op := .binOp .eql t x y u, type := ty, pos := pos, after := af, guard := gd } (yielded ops a.tmps) = true) (hx : a.eval x = .int .u64 (X : Nat)) (hy : a.eval y = .int .u64 (Y : Nat)) {b : Bool} (hb' : IsP (X = Y) b)
    (h : wpList P ops Q rest (a.put d (.bool b)) w) : wpList P ops Q ({ dst := d, op := .binOp .eql t x y u, type := ty, pos := pos, after := af, guard := gd } :: rest) a w := wpList_run hw (op_eqlB rfl hx hy hb' w) h
end Go.Proofs.YtnpaodlhhcnbgaaGreatDoor
namespace Go.Proofs.YtnpaodlhhcnbgaaGreatDoor
def hq (u v n1 : Nat) : Nat := (4294967296 * u + n1) / v
structure Half (u v1 v0 n1 q r : Nat) : Prop where
  eq : q * v1 + r = u
  ge : hq u (4294967296 * v1 + v0) n1 ≤ q
  le : q ≤ 4294967297
  lt : r < 4294967296
theorem hq_lt {u v n1 : Nat} (hu : u < v) (h1 : n1 < 4294967296) : hq u v n1 < 4294967296 := by
  unfold hq
  rw [Nat.div_lt_iff_lt_mul (by omega)]
  omega
theorem half_start {u v1 v0 n1 : Nat} (hv1 : 2147483648 ≤ v1) (hv2 : v1 < 4294967296) (hv0 : v0 < 4294967296) (hn : n1 < 4294967296) (hu : u < 4294967296 * v1 + v0) : Half u v1 v0 n1 (u / v1) (u % v1) := by
  refine ⟨by rw [Nat.mul_comm]; exact Nat.div_add_mod u v1, ?_, ?_, Nat.lt_trans (Nat.mod_lt _ (by omega)) hv2⟩
  · rw [Nat.le_div_iff_mul_le (by omega)]
    have h1 : hq u (4294967296 * v1 + v0) n1 * (4294967296 * v1 + v0) ≤ 4294967296 * u + n1 := Nat.div_mul_le_self _ _
    generalize hq u (4294967296 * v1 + v0) n1 = q at *
    rw [Nat.mul_add, Nat.mul_left_comm] at h1
    generalize q * v1 = p at *
    generalize q * v0 = p0 at *
    omega
  · have : u / v1 < 4294967298 := by
      rw [Nat.div_lt_iff_lt_mul (by omega)]
      omega
    omega
theorem half_gt {u n1 p p0 r : Nat} (h : p + r = u) (hc : 4294967296 * r + n1 < p0) : 4294967296 * u + n1 < 4294967296 * p + p0 := by omega
theorem half_more {u v1 v0 n1 q r : Nat} (h : Half u v1 v0 n1 q r) (hu : u < 4294967296 * v1 + v0) (hn : n1 < 4294967296) (_ : 0 < v1) (hc : 4294967296 ≤ q ∨ 4294967296 * r + n1 < q * v0) :
    1 ≤ q ∧ (q - 1) * v1 + (r + v1) = u ∧ hq u (4294967296 * v1 + v0) n1 ≤ q - 1 ∧ q - 1 ≤ 4294967296 := by
  have h1 : hq u (4294967296 * v1 + v0) n1 < q := by
    rcases hc with hc | hc
    · exact Nat.lt_of_lt_of_le (hq_lt hu hn) hc
    · unfold hq
      rw [Nat.div_lt_iff_lt_mul (by omega), Nat.mul_add, Nat.mul_left_comm]
      exact half_gt h.eq hc
  obtain ⟨k, rfl⟩ : ∃ k, q = k + 1 := ⟨q - 1, by omega⟩
  have h2 := h.eq
  have h3 := h.le
  rw [Nat.add_mul] at h2
  simp only [Nat.add_sub_cancel]
  exact ⟨by omega, by omega, by omega, by omega⟩
theorem half_next {u v1 v0 n1 q r : Nat} (h : Half u v1 v0 n1 q r) (hu : u < 4294967296 * v1 + v0) (hn : n1 < 4294967296) (hv : 0 < v1) (hc : 4294967296 ≤ q ∨ 4294967296 * r + n1 < q * v0) (hr : r + v1 < 4294967296) : Half u v1 v0 n1 (q - 1) (r + v1) := by
  obtain ⟨_, h2, h3, h4⟩ := half_more h hu hn hv hc
  exact ⟨h2, h3, by omega, hr⟩
theorem half_end {u v1 v0 n1 q r : Nat} (h1 : q * v1 + r = u) (h2 : hq u (4294967296 * v1 + v0) n1 ≤ q) (hv : 0 < v1) (hc : q * v0 ≤ 4294967296 * r + n1) : q = hq u (4294967296 * v1 + v0) n1 := by
  have h3 : q ≤ hq u (4294967296 * v1 + v0) n1 := by
    unfold hq
    rw [Nat.le_div_iff_mul_le (by omega), Nat.mul_add, Nat.mul_left_comm]
    generalize q * v1 = p at *
    generalize q * v0 = p0 at *
    omega
  omega
theorem half_break {u v1 v0 n1 q r : Nat} (h : Half u v1 v0 n1 q r) (hu : u < 4294967296 * v1 + v0) (hn : n1 < 4294967296) (hv : 0 < v1) (hv0 : v0 < 4294967296) (hc : 4294967296 ≤ q ∨ 4294967296 * r + n1 < q * v0) (hr : 4294967296 ≤ r + v1) :
    q - 1 = hq u (4294967296 * v1 + v0) n1 := by
  obtain ⟨_, h2, h3, h4⟩ := half_more h hu hn hv hc
  refine half_end h2 h3 hv ?_
  have h5 : (q - 1) * v0 ≤ 4294967296 * 4294967295 := Nat.mul_le_mul h4 (by omega)
  omega
theorem half_stop {u v1 v0 n1 q r : Nat} (h : Half u v1 v0 n1 q r) (hv : 0 < v1) (hc : q * v0 ≤ 4294967296 * r + n1) : q = hq u (4294967296 * v1 + v0) n1 := half_end h.eq h.ge hv hc
theorem half_rest_aux {u v n1 p r : Nat} (hv : v < 18446744073709551616) (h2 : r < v) (h1 : p + r = 4294967296 * u + n1) :
    ((4294967296 * u % 18446744073709551616 + n1) % 18446744073709551616 + 18446744073709551616 - p % 18446744073709551616) % 18446744073709551616 = r := by omega
theorem half_rest {u v n1 : Nat} (hv : v < 18446744073709551616) (hv0 : 0 < v) :
    ((4294967296 * u % 18446744073709551616 + n1) % 18446744073709551616 + 18446744073709551616 - hq u v n1 * v % 18446744073709551616) % 18446744073709551616 = (4294967296 * u + n1) % v := by
  refine half_rest_aux hv (Nat.mod_lt _ hv0) ?_
  unfold hq
  rw [Nat.mul_comm]
  exact Nat.div_add_mod _ _
theorem half_both_aux {t v n0 q r : Nat} (hv0 : 0 < v) (h1 : v * q + r = t) : 4294967296 * q + (4294967296 * r + n0) / v = (4294967296 * t + n0) / v ∧ (4294967296 * r + n0) % v = (4294967296 * t + n0) % v := by
  have e : 4294967296 * t + n0 = (4294967296 * r + n0) + v * (4294967296 * q) := by rw [← h1]; grind
  rw [e]
  constructor
  · rw [Nat.add_mul_div_left _ _ hv0]; omega
  · rw [Nat.add_mul_mod_self_left]
theorem half_both {u v n1 n0 : Nat} (hv0 : 0 < v) :
    4294967296 * hq u v n1 + hq ((4294967296 * u + n1) % v) v n0 = (4294967296 * (4294967296 * u + n1) + n0) / v ∧
    (4294967296 * ((4294967296 * u + n1) % v) + n0) % v = (4294967296 * (4294967296 * u + n1) + n0) % v :=
  half_both_aux hv0 (Nat.div_add_mod _ _)
end Go.Proofs.YtnpaodlhhcnbgaaGreatDoor
