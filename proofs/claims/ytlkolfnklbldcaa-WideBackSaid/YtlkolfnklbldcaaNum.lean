/-
  Operations on unsigned 64-bit numbers, told as natural numbers: their run, and their step in a list of operations.
-/
import Derived.Test.YtlkolfnklbldcaaShift
namespace Go.Proofs.Ytlkolfnklbldcaa
open Go Go.RowKit
set_option maxRecDepth 100000

/-- What a test of two numbers is known to tell. -/
structure IsP (p : Prop) (b : Bool) : Prop where
  out : b = true ↔ p
theorem IsP.yes {p : Prop} (h : p) : IsP p true := ⟨by simp [h]⟩
theorem IsP.no {p : Prop} (h : ¬ p) : IsP p false := ⟨by simp [h]⟩
theorem IsP.dec {p : Prop} {b : Bool} [Decidable p] (h : IsP p b) : decide p = b := by
  rw [Bool.eq_iff_iff, decide_eq_true_iff]; exact h.out.symm
theorem op_addN {P : Program} {o : Oper} {a : Act} {x y : Operand} {t u : TypeId} {X Y : Nat} (ho : o.op = .binOp .add t x y u) (hx : a.eval x = .int .u64 (X : Nat)) (hy : a.eval y = .int .u64 (Y : Nat))  (w : World) :
    (execOp a.eval o).run P w = .ok (.value (.int .u64 (((X + Y) % 18446744073709551616 : Nat) : Int))) w := by
  have e : IntKind.u64.wrap ((X : Int) + (Y : Int)) = (((X + Y) % 18446744073709551616 : Nat) : Int) := by rw [IntKind.wrap_u64]; omega
  unfold execOp
  simp only [ho, hx, hy, eqGuard, binOp, Op.intArith, e]
  simp
theorem addNP {P : Program} {t u : TypeId} {ops : Array Oper} {rest : List Oper} {Q : Exit → Act → World → Prop} {a : Act} {w : World} {d : Option Tmp} {x y : Operand} {ty : TypeId} {pos : String} {af : Array Edge} {gd : Option (Nat × Bool)} {X Y : Nat}
    (hw : Region.wanted { dst := d, op := .binOp .add t x y u, type := ty, pos := pos, after := af, guard := gd } (yielded ops a.tmps) = true) (hx : a.eval x = .int .u64 (X : Nat)) (hy : a.eval y = .int .u64 (Y : Nat)) 
    (h : wpList P ops Q rest (a.put d (.int .u64 (((X + Y) % 18446744073709551616 : Nat) : Int))) w) : wpList P ops Q ({ dst := d, op := .binOp .add t x y u, type := ty, pos := pos, after := af, guard := gd } :: rest) a w := wpList_run hw (op_addN rfl hx hy  w) h
theorem op_mulN {P : Program} {o : Oper} {a : Act} {x y : Operand} {t u : TypeId} {X Y : Nat} (ho : o.op = .binOp .mul t x y u) (hx : a.eval x = .int .u64 (X : Nat)) (hy : a.eval y = .int .u64 (Y : Nat))  (w : World) :
    (execOp a.eval o).run P w = .ok (.value (.int .u64 ((X * Y % 18446744073709551616 : Nat) : Int))) w := by
  have e : IntKind.u64.wrap ((X : Int) * (Y : Int)) = ((X * Y % 18446744073709551616 : Nat) : Int) := by rw [IntKind.wrap_u64, ← Int.natCast_mul]; omega
  unfold execOp
  simp only [ho, hx, hy, eqGuard, binOp, Op.intArith, e]
  simp
theorem mulNP {P : Program} {t u : TypeId} {ops : Array Oper} {rest : List Oper} {Q : Exit → Act → World → Prop} {a : Act} {w : World} {d : Option Tmp} {x y : Operand} {ty : TypeId} {pos : String} {af : Array Edge} {gd : Option (Nat × Bool)} {X Y : Nat}
    (hw : Region.wanted { dst := d, op := .binOp .mul t x y u, type := ty, pos := pos, after := af, guard := gd } (yielded ops a.tmps) = true) (hx : a.eval x = .int .u64 (X : Nat)) (hy : a.eval y = .int .u64 (Y : Nat)) 
    (h : wpList P ops Q rest (a.put d (.int .u64 ((X * Y % 18446744073709551616 : Nat) : Int))) w) : wpList P ops Q ({ dst := d, op := .binOp .mul t x y u, type := ty, pos := pos, after := af, guard := gd } :: rest) a w := wpList_run hw (op_mulN rfl hx hy  w) h
theorem op_subN {P : Program} {o : Oper} {a : Act} {x y : Operand} {t u : TypeId} {X Y : Nat} (ho : o.op = .binOp .sub t x y u) (hx : a.eval x = .int .u64 (X : Nat)) (hy : a.eval y = .int .u64 (Y : Nat)) (hY : Y < 18446744073709551616) (w : World) :
    (execOp a.eval o).run P w = .ok (.value (.int .u64 (((X + 18446744073709551616 - Y) % 18446744073709551616 : Nat) : Int))) w := by
  have e : IntKind.u64.wrap ((X : Int) - (Y : Int)) = (((X + 18446744073709551616 - Y) % 18446744073709551616 : Nat) : Int) := by rw [IntKind.wrap_u64]; omega
  unfold execOp
  simp only [ho, hx, hy, eqGuard, binOp, Op.intArith, e]
  simp
theorem subNP {P : Program} {t u : TypeId} {ops : Array Oper} {rest : List Oper} {Q : Exit → Act → World → Prop} {a : Act} {w : World} {d : Option Tmp} {x y : Operand} {ty : TypeId} {pos : String} {af : Array Edge} {gd : Option (Nat × Bool)} {X Y : Nat}
    (hw : Region.wanted { dst := d, op := .binOp .sub t x y u, type := ty, pos := pos, after := af, guard := gd } (yielded ops a.tmps) = true) (hx : a.eval x = .int .u64 (X : Nat)) (hy : a.eval y = .int .u64 (Y : Nat)) (hY : Y < 18446744073709551616)
    (h : wpList P ops Q rest (a.put d (.int .u64 (((X + 18446744073709551616 - Y) % 18446744073709551616 : Nat) : Int))) w) : wpList P ops Q ({ dst := d, op := .binOp .sub t x y u, type := ty, pos := pos, after := af, guard := gd } :: rest) a w := wpList_run hw (op_subN rfl hx hy hY w) h
theorem op_quoN {P : Program} {o : Oper} {a : Act} {x y : Operand} {t u : TypeId} {X Y : Nat} (ho : o.op = .binOp .quo t x y u) (hx : a.eval x = .int .u64 (X : Nat)) (hy : a.eval y = .int .u64 (Y : Nat)) (hX : X < 18446744073709551616) (hY : 0 < Y) (w : World) :
    (execOp a.eval o).run P w = .ok (.value (.int .u64 ((X / Y : Nat) : Int))) w := by
  have hd : X / Y < 18446744073709551616 := Nat.lt_of_le_of_lt (Nat.div_le_self _ _) hX
  have e : IntKind.u64.wrap ((X : Int).tdiv (Y : Int)) = ((X / Y : Nat) : Int) := by rw [← Int.ofNat_tdiv, IntKind.wrap_u64]; generalize X / Y = q at *; omega
  have h0 : ((Y : Int) = 0) = False := by simp; omega
  unfold execOp
  simp only [ho, hx, hy, eqGuard, binOp, Op.intDiv, e, h0]
  simp
theorem quoNP {P : Program} {t u : TypeId} {ops : Array Oper} {rest : List Oper} {Q : Exit → Act → World → Prop} {a : Act} {w : World} {d : Option Tmp} {x y : Operand} {ty : TypeId} {pos : String} {af : Array Edge} {gd : Option (Nat × Bool)} {X Y : Nat}
    (hw : Region.wanted { dst := d, op := .binOp .quo t x y u, type := ty, pos := pos, after := af, guard := gd } (yielded ops a.tmps) = true) (hx : a.eval x = .int .u64 (X : Nat)) (hy : a.eval y = .int .u64 (Y : Nat)) (hX : X < 18446744073709551616) (hY : 0 < Y)
    (h : wpList P ops Q rest (a.put d (.int .u64 ((X / Y : Nat) : Int))) w) : wpList P ops Q ({ dst := d, op := .binOp .quo t x y u, type := ty, pos := pos, after := af, guard := gd } :: rest) a w := wpList_run hw (op_quoN rfl hx hy hX hY w) h
theorem op_remN {P : Program} {o : Oper} {a : Act} {x y : Operand} {t u : TypeId} {X Y : Nat} (ho : o.op = .binOp .rem t x y u) (hx : a.eval x = .int .u64 (X : Nat)) (hy : a.eval y = .int .u64 (Y : Nat)) (_ : X < 18446744073709551616) (hY : 0 < Y) (w : World) :
    (execOp a.eval o).run P w = .ok (.value (.int .u64 ((X % Y : Nat) : Int))) w := by
  have h0 : ((Y : Int) = 0) = False := by simp; omega
  have e : (X : Int).tmod (Y : Int) = ((X % Y : Nat) : Int) := by rw [← Int.ofNat_tmod]
  unfold execOp
  simp only [ho, hx, hy, eqGuard, binOp, Op.intDiv, e, h0]
  simp
theorem remNP {P : Program} {t u : TypeId} {ops : Array Oper} {rest : List Oper} {Q : Exit → Act → World → Prop} {a : Act} {w : World} {d : Option Tmp} {x y : Operand} {ty : TypeId} {pos : String} {af : Array Edge} {gd : Option (Nat × Bool)} {X Y : Nat}
    (hw : Region.wanted { dst := d, op := .binOp .rem t x y u, type := ty, pos := pos, after := af, guard := gd } (yielded ops a.tmps) = true) (hx : a.eval x = .int .u64 (X : Nat)) (hy : a.eval y = .int .u64 (Y : Nat)) (hX : X < 18446744073709551616) (hY : 0 < Y)
    (h : wpList P ops Q rest (a.put d (.int .u64 ((X % Y : Nat) : Int))) w) : wpList P ops Q ({ dst := d, op := .binOp .rem t x y u, type := ty, pos := pos, after := af, guard := gd } :: rest) a w := wpList_run hw (op_remN rfl hx hy hX hY w) h
theorem op_andN {P : Program} {o : Oper} {a : Act} {x y : Operand} {t u : TypeId} {X Y : Nat} (ho : o.op = .binOp .and t x y u) (hx : a.eval x = .int .u64 (X : Nat)) (hy : a.eval y = .int .u64 (Y : Nat)) (hX : X < 18446744073709551616) (hY : Y < 18446744073709551616) (w : World) :
    (execOp a.eval o).run P w = .ok (.value (.int .u64 ((X &&& Y : Nat) : Int))) w := by
  unfold execOp
  simp only [ho, hx, hy, eqGuard, binOp, intBits_and, bits_and_u64_nat X Y hX hY]
  simp
theorem andNP {P : Program} {t u : TypeId} {ops : Array Oper} {rest : List Oper} {Q : Exit → Act → World → Prop} {a : Act} {w : World} {d : Option Tmp} {x y : Operand} {ty : TypeId} {pos : String} {af : Array Edge} {gd : Option (Nat × Bool)} {X Y : Nat}
    (hw : Region.wanted { dst := d, op := .binOp .and t x y u, type := ty, pos := pos, after := af, guard := gd } (yielded ops a.tmps) = true) (hx : a.eval x = .int .u64 (X : Nat)) (hy : a.eval y = .int .u64 (Y : Nat)) (hX : X < 18446744073709551616) (hY : Y < 18446744073709551616)
    (h : wpList P ops Q rest (a.put d (.int .u64 ((X &&& Y : Nat) : Int))) w) : wpList P ops Q ({ dst := d, op := .binOp .and t x y u, type := ty, pos := pos, after := af, guard := gd } :: rest) a w := wpList_run hw (op_andN rfl hx hy hX hY w) h
theorem op_shrN {P : Program} {o : Oper} {a : Act} {x y : Operand} {t u : TypeId} {X Y : Nat} (ho : o.op = .binOp .shr t x y u) (hx : a.eval x = .int .u64 (X : Nat)) (hy : a.eval y = .int .u64 (Y : Nat)) (hs : Y ≤ 64) (w : World) :
    (execOp a.eval o).run P w = .ok (.value (.int .u64 ((X / 2 ^ Y : Nat) : Int))) w := by
  exact op_shr ho hx hy hs w
theorem shrNP {P : Program} {t u : TypeId} {ops : Array Oper} {rest : List Oper} {Q : Exit → Act → World → Prop} {a : Act} {w : World} {d : Option Tmp} {x y : Operand} {ty : TypeId} {pos : String} {af : Array Edge} {gd : Option (Nat × Bool)} {X Y : Nat}
    (hw : Region.wanted { dst := d, op := .binOp .shr t x y u, type := ty, pos := pos, after := af, guard := gd } (yielded ops a.tmps) = true) (hx : a.eval x = .int .u64 (X : Nat)) (hy : a.eval y = .int .u64 (Y : Nat)) (hs : Y ≤ 64)
    (h : wpList P ops Q rest (a.put d (.int .u64 ((X / 2 ^ Y : Nat) : Int))) w) : wpList P ops Q ({ dst := d, op := .binOp .shr t x y u, type := ty, pos := pos, after := af, guard := gd } :: rest) a w := wpList_run hw (op_shrN rfl hx hy hs w) h
theorem op_shlN {P : Program} {o : Oper} {a : Act} {x y : Operand} {t u : TypeId} {X Y : Nat} (ho : o.op = .binOp .shl t x y u) (hx : a.eval x = .int .u64 (X : Nat)) (hy : a.eval y = .int .u64 (Y : Nat)) (hs : Y ≤ 64) (w : World) :
    (execOp a.eval o).run P w = .ok (.value (.int .u64 ((X * 2 ^ Y % 18446744073709551616 : Nat) : Int))) w := by
  exact op_shl ho hx hy hs w
theorem shlNP {P : Program} {t u : TypeId} {ops : Array Oper} {rest : List Oper} {Q : Exit → Act → World → Prop} {a : Act} {w : World} {d : Option Tmp} {x y : Operand} {ty : TypeId} {pos : String} {af : Array Edge} {gd : Option (Nat × Bool)} {X Y : Nat}
    (hw : Region.wanted { dst := d, op := .binOp .shl t x y u, type := ty, pos := pos, after := af, guard := gd } (yielded ops a.tmps) = true) (hx : a.eval x = .int .u64 (X : Nat)) (hy : a.eval y = .int .u64 (Y : Nat)) (hs : Y ≤ 64)
    (h : wpList P ops Q rest (a.put d (.int .u64 ((X * 2 ^ Y % 18446744073709551616 : Nat) : Int))) w) : wpList P ops Q ({ dst := d, op := .binOp .shl t x y u, type := ty, pos := pos, after := af, guard := gd } :: rest) a w := wpList_run hw (op_shlN rfl hx hy hs w) h
theorem op_orN {P : Program} {o : Oper} {a : Act} {x y : Operand} {t u : TypeId} {X Y : Nat} (ho : o.op = .binOp .or t x y u) (hx : a.eval x = .int .u64 (X : Nat)) (hy : a.eval y = .int .u64 (Y : Nat)) (hX : X < 18446744073709551616) (hY : Y < 18446744073709551616) (w : World) :
    (execOp a.eval o).run P w = .ok (.value (.int .u64 ((X ||| Y : Nat) : Int))) w := by
  exact op_or ho hx hy hX hY w
theorem orNP {P : Program} {t u : TypeId} {ops : Array Oper} {rest : List Oper} {Q : Exit → Act → World → Prop} {a : Act} {w : World} {d : Option Tmp} {x y : Operand} {ty : TypeId} {pos : String} {af : Array Edge} {gd : Option (Nat × Bool)} {X Y : Nat}
    (hw : Region.wanted { dst := d, op := .binOp .or t x y u, type := ty, pos := pos, after := af, guard := gd } (yielded ops a.tmps) = true) (hx : a.eval x = .int .u64 (X : Nat)) (hy : a.eval y = .int .u64 (Y : Nat)) (hX : X < 18446744073709551616) (hY : Y < 18446744073709551616)
    (h : wpList P ops Q rest (a.put d (.int .u64 ((X ||| Y : Nat) : Int))) w) : wpList P ops Q ({ dst := d, op := .binOp .or t x y u, type := ty, pos := pos, after := af, guard := gd } :: rest) a w := wpList_run hw (op_orN rfl hx hy hX hY w) h
theorem op_geqB {P : Program} {o : Oper} {a : Act} {x y : Operand} {t u : TypeId} {X Y : Nat} (ho : o.op = .binOp .geq t x y u) (hx : a.eval x = .int .u64 (X : Nat)) (hy : a.eval y = .int .u64 (Y : Nat)) {b : Bool} (hb' : IsP (Y ≤ X) b) (w : World) :
    (execOp a.eval o).run P w = .ok (.value (.bool b)) w := by
  rw [← show decide (Y ≤ X) = b from hb'.dec]
  unfold execOp
  simp only [ho, hx, hy]
  go_simp
  try (rw [Bool.eq_iff_iff]; simp; try omega)
theorem geqBP {P : Program} {t u : TypeId} {ops : Array Oper} {rest : List Oper} {Q : Exit → Act → World → Prop} {a : Act} {w : World} {d : Option Tmp} {x y : Operand} {ty : TypeId} {pos : String} {af : Array Edge} {gd : Option (Nat × Bool)} {X Y : Nat}
    (hw : Region.wanted { dst := d, op := .binOp .geq t x y u, type := ty, pos := pos, after := af, guard := gd } (yielded ops a.tmps) = true) (hx : a.eval x = .int .u64 (X : Nat)) (hy : a.eval y = .int .u64 (Y : Nat)) {b : Bool} (hb' : IsP (Y ≤ X) b)
    (h : wpList P ops Q rest (a.put d (.bool b)) w) : wpList P ops Q ({ dst := d, op := .binOp .geq t x y u, type := ty, pos := pos, after := af, guard := gd } :: rest) a w := wpList_run hw (op_geqB rfl hx hy hb' w) h
theorem op_gtrB {P : Program} {o : Oper} {a : Act} {x y : Operand} {t u : TypeId} {X Y : Nat} (ho : o.op = .binOp .gtr t x y u) (hx : a.eval x = .int .u64 (X : Nat)) (hy : a.eval y = .int .u64 (Y : Nat)) {b : Bool} (hb' : IsP (Y < X) b) (w : World) :
    (execOp a.eval o).run P w = .ok (.value (.bool b)) w := by
  rw [← show decide (Y < X) = b from hb'.dec]
  unfold execOp
  simp only [ho, hx, hy]
  go_simp
  try (rw [Bool.eq_iff_iff]; simp; try omega)
theorem gtrBP {P : Program} {t u : TypeId} {ops : Array Oper} {rest : List Oper} {Q : Exit → Act → World → Prop} {a : Act} {w : World} {d : Option Tmp} {x y : Operand} {ty : TypeId} {pos : String} {af : Array Edge} {gd : Option (Nat × Bool)} {X Y : Nat}
    (hw : Region.wanted { dst := d, op := .binOp .gtr t x y u, type := ty, pos := pos, after := af, guard := gd } (yielded ops a.tmps) = true) (hx : a.eval x = .int .u64 (X : Nat)) (hy : a.eval y = .int .u64 (Y : Nat)) {b : Bool} (hb' : IsP (Y < X) b)
    (h : wpList P ops Q rest (a.put d (.bool b)) w) : wpList P ops Q ({ dst := d, op := .binOp .gtr t x y u, type := ty, pos := pos, after := af, guard := gd } :: rest) a w := wpList_run hw (op_gtrB rfl hx hy hb' w) h
theorem op_lssB {P : Program} {o : Oper} {a : Act} {x y : Operand} {t u : TypeId} {X Y : Nat} (ho : o.op = .binOp .lss t x y u) (hx : a.eval x = .int .u64 (X : Nat)) (hy : a.eval y = .int .u64 (Y : Nat)) {b : Bool} (hb' : IsP (X < Y) b) (w : World) :
    (execOp a.eval o).run P w = .ok (.value (.bool b)) w := by
  rw [← show decide (X < Y) = b from hb'.dec]
  unfold execOp
  simp only [ho, hx, hy]
  go_simp
  try (rw [Bool.eq_iff_iff]; simp; try omega)
theorem lssBP {P : Program} {t u : TypeId} {ops : Array Oper} {rest : List Oper} {Q : Exit → Act → World → Prop} {a : Act} {w : World} {d : Option Tmp} {x y : Operand} {ty : TypeId} {pos : String} {af : Array Edge} {gd : Option (Nat × Bool)} {X Y : Nat}
    (hw : Region.wanted { dst := d, op := .binOp .lss t x y u, type := ty, pos := pos, after := af, guard := gd } (yielded ops a.tmps) = true) (hx : a.eval x = .int .u64 (X : Nat)) (hy : a.eval y = .int .u64 (Y : Nat)) {b : Bool} (hb' : IsP (X < Y) b)
    (h : wpList P ops Q rest (a.put d (.bool b)) w) : wpList P ops Q ({ dst := d, op := .binOp .lss t x y u, type := ty, pos := pos, after := af, guard := gd } :: rest) a w := wpList_run hw (op_lssB rfl hx hy hb' w) h
theorem op_leqB {P : Program} {o : Oper} {a : Act} {x y : Operand} {t u : TypeId} {X Y : Nat} (ho : o.op = .binOp .leq t x y u) (hx : a.eval x = .int .u64 (X : Nat)) (hy : a.eval y = .int .u64 (Y : Nat)) {b : Bool} (hb' : IsP (X ≤ Y) b) (w : World) :
    (execOp a.eval o).run P w = .ok (.value (.bool b)) w := by
  rw [← show decide (X ≤ Y) = b from hb'.dec]
  unfold execOp
  simp only [ho, hx, hy]
  go_simp
  try (rw [Bool.eq_iff_iff]; simp; try omega)
theorem leqBP {P : Program} {t u : TypeId} {ops : Array Oper} {rest : List Oper} {Q : Exit → Act → World → Prop} {a : Act} {w : World} {d : Option Tmp} {x y : Operand} {ty : TypeId} {pos : String} {af : Array Edge} {gd : Option (Nat × Bool)} {X Y : Nat}
    (hw : Region.wanted { dst := d, op := .binOp .leq t x y u, type := ty, pos := pos, after := af, guard := gd } (yielded ops a.tmps) = true) (hx : a.eval x = .int .u64 (X : Nat)) (hy : a.eval y = .int .u64 (Y : Nat)) {b : Bool} (hb' : IsP (X ≤ Y) b)
    (h : wpList P ops Q rest (a.put d (.bool b)) w) : wpList P ops Q ({ dst := d, op := .binOp .leq t x y u, type := ty, pos := pos, after := af, guard := gd } :: rest) a w := wpList_run hw (op_leqB rfl hx hy hb' w) h
theorem op_eqlB {P : Program} {o : Oper} {a : Act} {x y : Operand} {t u : TypeId} {X Y : Nat} (ho : o.op = .binOp .eql t x y u) (hx : a.eval x = .int .u64 (X : Nat)) (hy : a.eval y = .int .u64 (Y : Nat)) {b : Bool} (hb' : IsP (X = Y) b) (w : World) :
    (execOp a.eval o).run P w = .ok (.value (.bool b)) w := by
  rw [← show decide (X = Y) = b from hb'.dec]
  unfold execOp
  simp only [ho, hx, hy]
  go_simp
  try (rw [Bool.eq_iff_iff]; simp; try omega)
theorem eqlBP {P : Program} {t u : TypeId} {ops : Array Oper} {rest : List Oper} {Q : Exit → Act → World → Prop} {a : Act} {w : World} {d : Option Tmp} {x y : Operand} {ty : TypeId} {pos : String} {af : Array Edge} {gd : Option (Nat × Bool)} {X Y : Nat}
    (hw : Region.wanted { dst := d, op := .binOp .eql t x y u, type := ty, pos := pos, after := af, guard := gd } (yielded ops a.tmps) = true) (hx : a.eval x = .int .u64 (X : Nat)) (hy : a.eval y = .int .u64 (Y : Nat)) {b : Bool} (hb' : IsP (X = Y) b)
    (h : wpList P ops Q rest (a.put d (.bool b)) w) : wpList P ops Q ({ dst := d, op := .binOp .eql t x y u, type := ty, pos := pos, after := af, guard := gd } :: rest) a w := wpList_run hw (op_eqlB rfl hx hy hb' w) h
theorem op_neqB {P : Program} {o : Oper} {a : Act} {x y : Operand} {t u : TypeId} {X Y : Nat} (ho : o.op = .binOp .neq t x y u) (hx : a.eval x = .int .u64 (X : Nat)) (hy : a.eval y = .int .u64 (Y : Nat)) {b : Bool} (hb' : IsP (X ≠ Y) b) (w : World) :
    (execOp a.eval o).run P w = .ok (.value (.bool b)) w := by
  rw [← show decide (X ≠ Y) = b from hb'.dec]
  unfold execOp
  simp only [ho, hx, hy]
  go_simp
  try (rw [Bool.eq_iff_iff]; simp; try omega)
theorem neqBP {P : Program} {t u : TypeId} {ops : Array Oper} {rest : List Oper} {Q : Exit → Act → World → Prop} {a : Act} {w : World} {d : Option Tmp} {x y : Operand} {ty : TypeId} {pos : String} {af : Array Edge} {gd : Option (Nat × Bool)} {X Y : Nat}
    (hw : Region.wanted { dst := d, op := .binOp .neq t x y u, type := ty, pos := pos, after := af, guard := gd } (yielded ops a.tmps) = true) (hx : a.eval x = .int .u64 (X : Nat)) (hy : a.eval y = .int .u64 (Y : Nat)) {b : Bool} (hb' : IsP (X ≠ Y) b)
    (h : wpList P ops Q rest (a.put d (.bool b)) w) : wpList P ops Q ({ dst := d, op := .binOp .neq t x y u, type := ty, pos := pos, after := af, guard := gd } :: rest) a w := wpList_run hw (op_neqB rfl hx hy hb' w) h
end Go.Proofs.Ytlkolfnklbldcaa
