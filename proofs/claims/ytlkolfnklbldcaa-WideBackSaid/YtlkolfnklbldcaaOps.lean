/-
  Some operations on whole numbers, each by itself.
-/
import Derived.Test.YtlkolfnklbldcaaNum
namespace Go.Proofs.Ytlkolfnklbldcaa
open Go Go.RowKit
set_option maxRecDepth 100000

theorem op_lssI {P : Program} {o : Oper} {a : Act} {x y : Operand} {t u : TypeId} {X Y : Int} (ho : o.op = .binOp .lss t x y u) (hx : a.eval x = .int .i64 X) (hy : a.eval y = .int .i64 Y) {b : Bool} (hb' : IsP (X < Y) b) (w : World) :
    (execOp a.eval o).run P w = .ok (.value (.bool b)) w := by
  rw [← show decide (X < Y) = b from hb'.dec]
  unfold execOp
  simp only [ho, hx, hy]
  go_simp
  try (rw [Bool.eq_iff_iff]; simp; try omega)
theorem lssIP {P : Program} {t u : TypeId} {ops : Array Oper} {rest : List Oper} {Q : Exit → Act → World → Prop} {a : Act} {w : World} {d : Option Tmp} {x y : Operand} {ty : TypeId} {pos : String} {af : Array Edge} {gd : Option (Nat × Bool)} {X Y : Int}
    (hw : Region.wanted { dst := d, op := .binOp .lss t x y u, type := ty, pos := pos, after := af, guard := gd } (yielded ops a.tmps) = true) (hx : a.eval x = .int .i64 X) (hy : a.eval y = .int .i64 Y) {b : Bool} (hb' : IsP (X < Y) b)
    (h : wpList P ops Q rest (a.put d (.bool b)) w) : wpList P ops Q ({ dst := d, op := .binOp .lss t x y u, type := ty, pos := pos, after := af, guard := gd } :: rest) a w := wpList_run hw (op_lssI rfl hx hy hb' w) h
theorem op_quo64 {P : Program} {o : Oper} {a : Act} {x y : Operand} {t u : TypeId} (ho : o.op = .binOp .quo t x y u) {X q : Nat} (hx : a.eval x = .int .i64 (X : Nat)) (hy : a.eval y = .int .i64 64) (hX : X < 1023) (hq : X / 64 = q) (w : World) :
    (execOp a.eval o).run P w = .ok (.value (.int .i64 (q : Nat))) w := by
  have e : IntKind.i64.wrap ((X : Int).tdiv 64) = ((q : Nat) : Int) := by
    rw [show (64 : Int) = ((64 : Nat) : Int) from rfl, ← Int.ofNat_tdiv, hq]
    exact IntWalk.i64_in _ (by omega)
  have h0 : ((64 : Int) = 0) = False := by simp
  unfold execOp
  simp only [ho, hx, hy, eqGuard, binOp, Op.intDiv, e, h0]
  simp
theorem op_rem64 {P : Program} {o : Oper} {a : Act} {x y : Operand} {t u : TypeId} (ho : o.op = .binOp .rem t x y u) {X r : Nat} (hx : a.eval x = .int .i64 (X : Nat)) (hy : a.eval y = .int .i64 64) (hr : X % 64 = r) (w : World) :
    (execOp a.eval o).run P w = .ok (.value (.int .i64 (r : Nat))) w := by
  have e : (X : Int).tmod 64 = ((r : Nat) : Int) := by
    rw [show (64 : Int) = ((64 : Nat) : Int) from rfl, ← Int.ofNat_tmod, hr]
  have h0 : ((64 : Int) = 0) = False := by simp
  unfold execOp
  simp only [ho, hx, hy, eqGuard, binOp, Op.intDiv, e, h0]
  simp
theorem op_shl1 {P : Program} {o : Oper} {a : Act} {x y : Operand} {t u : TypeId} (ho : o.op = .binOp .shl t x y u) {s : Nat} (hx : a.eval x = .int .u64 1) (hy : a.eval y = .int .i64 (s : Nat)) (hs : s < 64) (w : World) :
    (execOp a.eval o).run P w = .ok (.value (.int .u64 ((2 ^ s : Nat) : Int))) w := by
  have h1 : 2 ^ s < 2 ^ 64 := Nat.pow_lt_pow_right (by decide) hs
  have e : IntKind.u64.wrap ((1 : Int) * 2 ^ s) = ((2 ^ s : Nat) : Int) := by
    rw [IntKind.wrap_u64, Int.one_mul, show (2 : Int) ^ s = ((2 ^ s : Nat) : Int) by simp]
    generalize 2 ^ s = q at *
    omega
  unfold execOp
  simp only [ho, hx, hy, eqGuard, binOp, shift_shl .u64 .i64 (1 : Int) (s : Int) (by omega) (show (s : Int) ≤ 64 by omega)]
  simpa using e
theorem shl1P {P : Program} {t u : TypeId} {ops : Array Oper} {rest : List Oper} {Q : Exit → Act → World → Prop} {a : Act} {w : World} {d : Option Tmp} {x y : Operand} {ty : TypeId} {pos : String} {af : Array Edge} {gd : Option (Nat × Bool)} {s : Nat}
    (hw : Region.wanted { dst := d, op := .binOp .shl t x y u, type := ty, pos := pos, after := af, guard := gd } (yielded ops a.tmps) = true) (hx : a.eval x = .int .u64 1) (hy : a.eval y = .int .i64 (s : Nat)) (hs : s < 64)
    (h : wpList P ops Q rest (a.put d (.int .u64 ((2 ^ s : Nat) : Int))) w) : wpList P ops Q ({ dst := d, op := .binOp .shl t x y u, type := ty, pos := pos, after := af, guard := gd } :: rest) a w := wpList_run hw (op_shl1 rfl hx hy hs w) h
/-- A root's beginning, bit by bit from above. -/
structure RootUp (N m r : Nat) : Prop where
  out : (∃ t, r = 2 ^ m * t) ∧ r + 2 ^ m ≤ 18446744073709551616 ∧ r * r ≤ N ∧ N < (r + 2 ^ m) * (r + 2 ^ m)
theorem op_sub1 {P : Program} {o : Oper} {a : Act} {x y : Operand} {t u : TypeId} (ho : o.op = .binOp .sub t x y u) {s : Nat} (hx : a.eval x = .int .u64 ((2 ^ s : Nat) : Int)) (hy : a.eval y = .int .u64 1) (hs : s < 64) (w : World) :
    (execOp a.eval o).run P w = .ok (.value (.int .u64 ((2 ^ s - 1 : Nat) : Int))) w := by
  have h1 : 2 ^ s < 2 ^ 64 := Nat.pow_lt_pow_right (by decide) hs
  have h2 : 0 < 2 ^ s := Nat.two_pow_pos s
  have e : IntKind.u64.wrap (((2 ^ s : Nat) : Int) - 1) = ((2 ^ s - 1 : Nat) : Int) := by
    rw [IntKind.wrap_u64]
    generalize 2 ^ s = q at *
    omega
  unfold execOp
  simp only [ho, hx, hy, eqGuard, binOp, Op.intArith, e]
  simp
theorem op_andM {P : Program} {o : Oper} {a : Act} {x y : Operand} {t u : TypeId} (ho : o.op = .binOp .and t x y u) {X s : Nat} (hx : a.eval x = .int .u64 (X : Nat)) (hy : a.eval y = .int .u64 ((2 ^ s - 1 : Nat) : Int)) (hX : X < 18446744073709551616) (hs : s < 64) (w : World) :
    (execOp a.eval o).run P w = .ok (.value (.int .u64 ((X % 2 ^ s : Nat) : Int))) w := by
  have h1 : 2 ^ s < 2 ^ 64 := Nat.pow_lt_pow_right (by decide) hs
  rw [← Nat.and_two_pow_sub_one_eq_mod]
  exact op_andN ho hx hy hX (by omega) w
end Go.Proofs.Ytlkolfnklbldcaa
