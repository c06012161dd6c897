/-
  Words for arrays of limbs in memory, and the compiler's own additions with carry.
-/
import Derived.Test.YtlkolfnklbldcaaProg
import Derived.Test.YtlkolfnklbldcaaPlain
import Derived.Test.YtlkolfnklbldcaaUp
import Derived.WalkKit
import Derived.WalkSpells
import Derived.WalkLawsBesides
namespace Go.Proofs.Ytlkolfnklbldcaa
open Go Go.RowKit
set_option maxRecDepth 100000

/-- n cells of unsigned limbs. -/
def cells (n : Nat) (f : Nat → Nat) : Array Value := Array.ofFn (n := n) fun i => .int .u64 (f i.val : Nat)
theorem cells_size (n : Nat) (f : Nat → Nat) : (cells n f).size = n := by simp [cells]
theorem cells_get (n : Nat) (f : Nat → Nat) (i : Nat) (h : i < n) : (cells n f)[i]? = some (.int .u64 (f i : Nat)) := by simp [cells, h]
theorem cells_congr {n : Nat} {f g : Nat → Nat} (h : ∀ i, i < n → f i = g i) : cells n f = cells n g := by
  unfold cells
  congr 1
  funext i
  rw [h i.val i.isLt]
theorem cells_set (n : Nat) (f : Nat → Nat) (k v : Nat) : (cells n f).setIfInBounds k (.int .u64 (v : Nat)) = cells n (upd f k v) := by
  apply Array.ext_getElem?
  intro i
  rw [Array.getElem?_setIfInBounds, cells_size]
  by_cases hi : i < n
  · rw [cells_get n f i hi, cells_get n (upd f k v) i hi]
    by_cases e : k = i
    · subst e; rw [if_pos rfl, if_pos hi, upd_same]
    · rw [if_neg e, upd_other f k v (fun h => e h.symm)]
  · rw [Array.getElem?_eq_none (by rw [cells_size]; omega), Array.getElem?_eq_none (by rw [cells_size]; omega)]
    split
    · rw [if_neg (by omega)]
    · rfl
theorem cells_one (n : Nat) (f : Nat → Nat) : (cells n f).all (·.oneCell') = true := by
  rw [Array.all_eq_true_iff_forall_mem]
  intro v hv
  simp only [cells, Array.mem_ofFn] at hv
  obtain ⟨i, rfl⟩ := hv
  rfl
/-- The wide number whose amount without a sign is x, as it lies in memory. -/
def wideV (x : Nat) : Value := .agg (cells 16 (limb x))
theorem wide_of {f : Nat → Nat} (h : ∀ i, i < 16 → f i < 18446744073709551616) : Value.agg (cells 16 f) = wideV (sumL f 16) := by
  unfold wideV
  rw [cells_congr fun i hi => (limb_sumL h hi).symm]

theorem hid {p : Prop} (h : p) : Hid p := h
/-- Block b holds the cells C, and may be written. -/
def Blk (w : World) (b : Nat) (t : TypeId) (C : Array Value) : Prop := w.heap[b]? = some (.cells C t (0, 0))
theorem Blk.lt {w : World} {b : Nat} {t : TypeId} {C : Array Value} (h : Blk w b t C) : b < w.heap.size := (Array.getElem?_eq_some_iff.1 h).1
theorem Blk.cell {w : World} {b : Nat} {t : TypeId} {C : Array Value} (h : Blk w b t C) (i : Nat) {v : Value} (hv : C[i]? = some v) : w.cell? ⟨b, i, none⟩ = some v := by
  rw [cell_of_row _ _ _ _ _ _ h, hv]
theorem Blk.frozen {w : World} {b : Nat} {t : TypeId} {C : Array Value} (h : Blk w b t C) (i : Nat) : w.frozen? ⟨b, i, none⟩ = false := frozen_of_row _ _ _ _ _ h
theorem Blk.up {w w' : World} {b : Nat} {t : TypeId} {C : Array Value} (h : Blk w b t C) (hu : Up w w') : Blk w' b t C := hu.row h
theorem Blk.drew {w : World} {b : Nat} {t : TypeId} {C : Array Value} (h : Blk w b t C) : Blk w.drew b t C := h
theorem Blk.new {w : World} {b : Nat} (t : TypeId) (C : Array Value) (h : b = w.heap.size) : Blk (w.alloc (.cells C t)) b t C := by
  subst h; exact heap_alloc_new _ _
theorem Blk.old {w : World} {b : Nat} {t : TypeId} {C : Array Value} (h : Blk w b t C) (o : Obj) : Blk (w.alloc o) b t C := h.up (Up.alloc _ _)
theorem Blk.set {w : World} {b : Nat} {t : TypeId} {C : Array Value} (h : Blk w b t C) (i : Nat) (v : Value) : Blk (w.setCell ⟨b, i, none⟩ v) b t (C.setIfInBounds i v) := by
  exact heap_setCell_same _ _ _ _ _ _ h
theorem Blk.other {w : World} {b : Nat} {t : TypeId} {C : Array Value} (h : Blk w b t C) (a : Addr) (v : Value) (hb : b ≠ a.block) : Blk (w.setCell a v) b t C := by
  unfold Blk; rw [heap_setCell_other _ _ _ _ hb]; exact h
theorem Blk.setRow {w : World} {b : Nat} {t : TypeId} {C : Array Value} (h : Blk w b t C) (D : Array Value) : Blk (w.setRow b D) b t D := setRow_heap _ _ _ _ _ _ h
theorem Blk.row_other {w : World} {b g : Nat} {t : TypeId} {C : Array Value} (h : Blk w b t C) (D : Array Value) (hb : b ≠ g) : Blk (w.setRow g D) b t C := by
  unfold Blk; rw [setRow_other _ _ _ _ hb]; exact h
theorem below_setRow {B : Nat} {a w : World} (h : Below B a w) {g : Nat} (hg : B ≤ g) (D : Array Value) : Below B a (w.setRow g D) :=
  Below.trans h ⟨rfl, rfl, rfl, by simp, fun k hk => setRow_other _ _ _ _ (by omega)⟩

/-- Block b holds n limbs f, as a variable of type t. -/
def Row (w : World) (b : Nat) (t : TypeId) (n : Nat) (f : Nat → Nat) : Prop := Blk w b t (cells n f)
theorem Row.up {w w' : World} {b n : Nat} {t : TypeId} {f : Nat → Nat} (h : Row w b t n f) (hu : Up w w') : Row w' b t n f := Blk.up h hu
theorem Row.lt {w : World} {b n : Nat} {t : TypeId} {f : Nat → Nat} (h : Row w b t n f) : b < w.heap.size := Blk.lt h
theorem Row.cell {w : World} {b n : Nat} {t : TypeId} {f : Nat → Nat} (h : Row w b t n f) (i : Nat) (hi : i < n) : w.cell? ⟨b, i, none⟩ = some (.int .u64 (f i : Nat)) := Blk.cell h i (cells_get n f i hi)
theorem Row.frozen {w : World} {b n : Nat} {t : TypeId} {f : Nat → Nat} (h : Row w b t n f) (i : Nat) : w.frozen? ⟨b, i, none⟩ = false := Blk.frozen h i
theorem Row.set {w : World} {b n : Nat} {t : TypeId} {f : Nat → Nat} (h : Row w b t n f) (i v : Nat) : Row (w.setCell ⟨b, i, none⟩ (.int .u64 (v : Nat))) b t n (upd f i v) := by
  have := Blk.set h i (.int .u64 (v : Nat)); rw [cells_set] at this; exact this
theorem Row.other {w : World} {b n : Nat} {t : TypeId} {f : Nat → Nat} (h : Row w b t n f) (a : Addr) (v : Value) (hb : b ≠ a.block) : Row (w.setCell a v) b t n f := Blk.other h a v hb
theorem Row.setRow {w : World} {b n : Nat} {t : TypeId} {f : Nat → Nat} (h : Row w b t n f) (g : Nat → Nat) : Row (w.setRow b (cells n g)) b t n g := Blk.setRow h _
theorem Row.row_other {w : World} {b c n : Nat} {t : TypeId} {f : Nat → Nat} (h : Row w b t n f) (D : Array Value) (hb : b ≠ c) : Row (w.setRow c D) b t n f := Blk.row_other h D hb
theorem Row.congr {w : World} {b n : Nat} {t : TypeId} {f g : Nat → Nat} (h : Row w b t n f) (he : ∀ i, i < n → f i = g i) : Row w b t n g := by
  unfold Row at *; rw [← cells_congr he]; exact h
theorem row_new {w : World} {b : Nat} (t : TypeId) (n : Nat) (f : Nat → Nat) (C : Array Value) (h : b = w.heap.size) (hC : C = cells n f) : Row (w.alloc (.cells C t)) b t n f := by
  subst hC; exact Blk.new _ _ h

section
variable {P : Program} {t e : TypeId} {n : Nat} {o : Oper} {a : Act} {w : World}
theorem run_ld (hu : P.underlying t = some (.array n e)) (hi : (P.info? t).map (·.size) = some n) (x : Operand) (ho : o.op = .load t x) (g : Nat) (hx : a.eval x = .pointer (some ⟨g, 0, none⟩)) {f : Nat → Nat}
    (hC : Row w g t n f) : (execOp a.eval o).run P w = .ok (.value (.agg (cells n f))) w := by
  unfold execOp
  simp only [ho, hx, Instr.loadAt, Instr.sureAddr, Sem.run_bind, Sem.run_pure, Result.andThen_ok, run_loadVar_row w g t t (cells n f) (0, 0) _ hC hu rfl (by rw [hi, cells_size])]
theorem ld_row {ops : Array Oper} {rest : List Oper} {Q : Exit → Act → World → Prop} (hu : P.underlying t = some (.array n e)) (hi : (P.info? t).map (·.size) = some n) (hgd : o.guard = none) (x : Operand) (ho : o.op = .load t x) (g : Nat)
    (hx : a.eval x = .pointer (some ⟨g, 0, none⟩)) {f : Nat → Nat} (hC : Row w g t n f) (h : wpList P ops Q rest (a.put o.dst (.agg (cells n f))) w) : wpList P ops Q (o :: rest) a w :=
  wpList_load_row hgd t x ho g hx t (cells n f) (0, 0) _ hC hu rfl (by rw [hi, cells_size]) h
theorem wp_st_row {K : Act → World → Prop} {Q : Exit → Act → World → Prop} (hi : (P.info? t).map (·.size) = some n) (x y : Operand) (ho : o.op = .store t x y) (g : Nat) (hx : a.eval x = .pointer (some ⟨g, 0, none⟩)) {f v : Nat → Nat}
    (hy : a.eval y = .agg (cells n v)) (hC : Row w g t n f) (h : K (a.put o.dst undef) (w.setRow g (cells n v))) : o.wp P a w K Q :=
  wp_store_row t x y ho g (cells n v) hx hy t (cells n f) hC (by rw [hi, cells_size]) (by rw [cells_size, cells_size]) (cells_one n v) h
theorem st_row {ops : Array Oper} {rest : List Oper} {Q : Exit → Act → World → Prop} (hi : (P.info? t).map (·.size) = some n) (hgd : o.guard = none) (x y : Operand) (ho : o.op = .store t x y) (g : Nat)
    (hx : a.eval x = .pointer (some ⟨g, 0, none⟩)) {f v : Nat → Nat} (hy : a.eval y = .agg (cells n v)) (hC : Row w g t n f) (h : wpList P ops Q rest (a.put o.dst undef) (w.setRow g (cells n v))) : wpList P ops Q (o :: rest) a w :=
  wpList_plain hgd fun _ hK => wp_st_row hi x y ho g hx hy hC (hK _ _ h)
theorem wpList_run {ops : Array Oper} {rest : List Oper} {Q : Exit → Act → World → Prop} {v : Value} (hw : Region.wanted o (yielded ops a.tmps) = true) (hr : (execOp a.eval o).run P w = .ok (.value v) w)
    (h : wpList P ops Q rest (a.put o.dst v) w) : wpList P ops Q (o :: rest) a w := by
  refine wpList_step fun K hK => ?_
  rw [if_pos hw]
  unfold Oper.wp
  rw [hr]
  exact hK _ _ h
theorem ld_rowP {ops : Array Oper} {rest : List Oper} {Q : Exit → Act → World → Prop} {d : Option Tmp} {s : Tmp} {ty : TypeId} {pos : String} {af : Array Edge} {gd : Option (Nat × Bool)} (hu : P.underlying t = some (.array n e)) (hi : (P.info? t).map (·.size) = some n)
    {g : Nat} {f : Nat → Nat} (hw : Region.wanted { dst := d, op := .load t (.tmp s), type := ty, pos := pos, after := af, guard := gd } (yielded ops a.tmps) = true) (hx : a.eval (.tmp s) = .pointer (some ⟨g, 0, none⟩)) (hC : Row w g t n f)
    (h : wpList P ops Q rest (a.put d (.agg (cells n f))) w) : wpList P ops Q ({ dst := d, op := .load t (.tmp s), type := ty, pos := pos, after := af, guard := gd } :: rest) a w :=
  wpList_run hw (run_ld hu hi _ rfl g hx hC) h
theorem st_rowP {ops : Array Oper} {rest : List Oper} {Q : Exit → Act → World → Prop} {d : Option Tmp} {s u : Tmp} {ty : TypeId} {pos : String} {af : Array Edge} (hi : (P.info? t).map (·.size) = some n)
    {g : Nat} {f v : Nat → Nat} (hx : a.eval (.tmp s) = .pointer (some ⟨g, 0, none⟩)) (hy : a.eval (.tmp u) = .agg (cells n v)) (hC : Row w g t n f) (h : wpList P ops Q rest (a.put d undef) (w.setRow g (cells n v))) :
    wpList P ops Q ({ dst := d, op := .store t (.tmp s) (.tmp u), type := ty, pos := pos, after := af, guard := none } :: rest) a w := st_row hi rfl _ _ rfl g hx hy hC h
theorem run_row (hu : P.underlying t = some (.array n e)) (hi : (P.info? t).map (·.size) = some n) {g : Nat} {f : Nat → Nat} (hC : Row w g t n f) : (loadVar t ⟨g, 0, none⟩).run P w = .ok (.agg (cells n f)) w :=
  run_loadVar_row w g t t (cells n f) (0, 0) _ hC hu rfl (by rw [hi, cells_size])
theorem res1 {fn : Func} {p : Tmp} (h : fn.results = #[.cell p t]) (hu : P.underlying t = some (.array n e)) (hi : (P.info? t).map (·.size) = some n) (tmps : Array Value) (g : Nat) (hp : tmps.getD p undef = .pointer (some ⟨g, 0, none⟩))
    {f : Nat → Nat} (hC : Row w g t n f) : (results fn tmps).run P w = .ok (.agg (cells n f)) w := results_cell_row h tmps w g t _ (0, 0) _ hp hC hu rfl (by rw [hi, cells_size])
theorem res2 {fn : Func} {p u : Tmp} (h : fn.results = #[.cell p t, .tmp u]) (hu : P.underlying t = some (.array n e)) (hi : (P.info? t).map (·.size) = some n) (tmps : Array Value) (g : Nat) (hp : tmps.getD p undef = .pointer (some ⟨g, 0, none⟩))
    {f : Nat → Nat} (hC : Row w g t n f) : (results fn tmps).run P w = .ok (.tuple #[.agg (cells n f), tmps.getD u undef]) w := by
  rw [results_cell_tmp h, hp]
  simp only [asAddr, Sem.run_pure, Result.andThen_ok, run_row hu hi hC]
theorem resCC {fn : Func} {p q : Tmp} (h : fn.results = #[.cell p t, .cell q t]) (hu : P.underlying t = some (.array n e)) (hi : (P.info? t).map (·.size) = some n) (tmps : Array Value) (g k : Nat) (hp : tmps.getD p undef = .pointer (some ⟨g, 0, none⟩))
    (hq : tmps.getD q undef = .pointer (some ⟨k, 0, none⟩)) {f v : Nat → Nat} (hC : Row w g t n f) (hD : Row w k t n v) : (results fn tmps).run P w = .ok (.tuple #[.agg (cells n f), .agg (cells n v)]) w := by
  have hp' : tmps[p]?.getD undef = .pointer (some ⟨g, 0, none⟩) := by simpa using hp
  have hq' : tmps[q]?.getD undef = .pointer (some ⟨k, 0, none⟩) := by simpa using hq
  simp [results, h, hp', hq', asAddr, run_row hu hi hC, run_row hu hi hD]
theorem resCCT {fn : Func} {p q u : Tmp} (h : fn.results = #[.cell p t, .cell q t, .tmp u]) (hu : P.underlying t = some (.array n e)) (hi : (P.info? t).map (·.size) = some n) (tmps : Array Value) (g k : Nat) (hp : tmps.getD p undef = .pointer (some ⟨g, 0, none⟩))
    (hq : tmps.getD q undef = .pointer (some ⟨k, 0, none⟩)) {f v : Nat → Nat} (hC : Row w g t n f) (hD : Row w k t n v) : (results fn tmps).run P w = .ok (.tuple #[.agg (cells n f), .agg (cells n v), tmps.getD u undef]) w := by
  have hp' : tmps[p]?.getD undef = .pointer (some ⟨g, 0, none⟩) := by simpa using hp
  have hq' : tmps[q]?.getD undef = .pointer (some ⟨k, 0, none⟩) := by simpa using hq
  simp [results, h, hp', hq', asAddr, run_row hu hi hC, run_row hu hi hD]
end
theorem zeros16 : (#[.int .u64 0, .int .u64 0, .int .u64 0, .int .u64 0, .int .u64 0, .int .u64 0, .int .u64 0, .int .u64 0, .int .u64 0, .int .u64 0, .int .u64 0, .int .u64 0, .int .u64 0, .int .u64 0, .int .u64 0, .int .u64 0] : Array Value) = cells 16 (fun _ => 0) := by kernel_rfl
theorem row_newc {w : World} {b : Nat} (t : TypeId) (n : Nat) (f : Nat → Nat) (h : b = w.heap.size) : Row (w.alloc (.cells (cells n f) t)) b t n f := row_new t n f _ h rfl
theorem row_newz {w : World} {b : Nat} (t : TypeId) (h : b = w.heap.size) : Row (w.alloc (.cells #[.int .u64 0, .int .u64 0, .int .u64 0, .int .u64 0, .int .u64 0, .int .u64 0, .int .u64 0, .int .u64 0, .int .u64 0, .int .u64 0, .int .u64 0, .int .u64 0, .int .u64 0, .int .u64 0, .int .u64 0, .int .u64 0] t)) b t 16 (fun _ => 0) :=
  row_new t 16 _ _ h zeros16
theorem row_alloc {w : World} {b n : Nat} {t : TypeId} {f : Nat → Nat} {o : Obj} (h : Row w b t n f) : Row (w.alloc o) b t n f := h.up (Up.alloc _ _)
theorem row_drew {w : World} {b n : Nat} {t : TypeId} {f : Nat → Nat} (h : Row w b t n f) : Row w.drew b t n f := h
theorem row_drewN {w : World} {b n k : Nat} {t : TypeId} {f : Nat → Nat} (h : Row w b t n f) : Row (w.drewN k) b t n f := h
theorem row_same {w : World} {b n : Nat} {t : TypeId} {f g : Nat → Nat} (h : Row w b t n f) : Row (w.setRow b (cells n g)) b t n g := h.setRow g
theorem row_else {w : World} {b c n : Nat} {t : TypeId} {f : Nat → Nat} {D : Array Value} (hb : b ≠ c) (h : Row w b t n f) : Row (w.setRow c D) b t n f := h.row_other D hb
theorem st_rowZ {P : Program} {t : TypeId} {a : Act} {w : World} {ops : Array Oper} {rest : List Oper} {Q : Exit → Act → World → Prop} {d : Option Tmp} {s u : Tmp} {ty : TypeId} {pos : String} {af : Array Edge} (hi : (P.info? t).map (·.size) = some 16)
    {g : Nat} {f : Nat → Nat} (hx : a.eval (.tmp s) = .pointer (some ⟨g, 0, none⟩)) (hy : a.eval (.tmp u) = .agg #[.int .u64 0, .int .u64 0, .int .u64 0, .int .u64 0, .int .u64 0, .int .u64 0, .int .u64 0, .int .u64 0, .int .u64 0, .int .u64 0, .int .u64 0, .int .u64 0, .int .u64 0, .int .u64 0, .int .u64 0, .int .u64 0]) (hC : Row w g t 16 f) (h : wpList P ops Q rest (a.put d undef) (w.setRow g (cells 16 (fun _ => 0)))) :
    wpList P ops Q ({ dst := d, op := .store t (.tmp s) (.tmp u), type := ty, pos := pos, after := af, guard := none } :: rest) a w := st_rowP hi hx (by rw [hy, zeros16]) hC h
theorem row_up {w w' : World} {b n : Nat} {t : TypeId} {f : Nat → Nat} (hu : Up w w') (h : Row w b t n f) : Row w' b t n f := h.up hu
theorem Up.of {w w' : World} (h : Below w.heap.size w w') : Up w w' := h
theorem bl_alloc {B : Nat} {a w : World} {o : Obj} (hB : B ≤ w.heap.size) (h : Below B a w) : Below B a (w.alloc o) := h.alloc hB o
theorem bl_setRow {B g : Nat} {a w : World} {D : Array Value} (hg : B ≤ g) (h : Below B a w) : Below B a (w.setRow g D) := below_setRow h hg D
theorem bl_setCell {B : Nat} {a w : World} {p : Addr} {u : Value} (hp : B ≤ p.block) (h : Below B a w) : Below B a (w.setCell p u) := h.setCell hp u
theorem up_tr {w W w' : World} (hu : Up W w') (h : Below w.heap.size w W) : Below w.heap.size w w' := Up.trans h hu
theorem undW : Try.prog.underlying 27 = some (.array 16 25) := by kernel_rfl
theorem infoW : (Try.prog.info? 27).map (·.size) = some 16 := by kernel_rfl

theorem below_drewN {B : Nat} {a w : World} (h : Below B a w) (n : Nat) : Below B a (w.drewN n) := ⟨h.os, h.tape, h.output, h.size, h.block⟩
theorem up_drewN {a w : World} (h : Up a w) (n : Nat) : Up a (w.drewN n) := below_drewN h n
theorem Row.drewN {w : World} {b n : Nat} {t : TypeId} {f : Nat → Nat} (h : Row w b t n f) (k : Nat) : Row (w.drewN k) b t n f := h
theorem ret_bool {a b : Bool} (h : a = b) : Ending.returned (.bool a) = .returned (.bool b) := by rw [h]
theorem ret_int {k : IntKind} {a b : Int} (h : a = b) : Ending.returned (.int k a) = .returned (.int k b) := by rw [h]
theorem yu_value {P : Program} {v : Value} {w : World} {r : Result Next} (h : r = .ok (.value v) w) : LeavesU P v w r := by
  subst h; exact ⟨rfl, Up.refl _⟩
theorem yu_call {P : Program} {v : Value} {w : World} {r : Result Next} {f : FuncId} {args : Array Value} (h : r = .ok (.enter f args) w)
    (hc : Calls P f args w fun e w' => e = .returned v ∧ Up w w') : LeavesU P v w r := by
  subst h; exact ⟨Up.refl _, hc⟩

def sub64Entry : Array Value → Sem Value := fun args => do
  let (x, y, b) ← Extern.MathBitsCarry.three "Sub64" args
  pure (Extern.MathBitsCarry.pair ((x + Extern.MathBitsCarry.m64 - y - b) % Extern.MathBitsCarry.m64) (if x < y + b then 1 else 0))
theorem run_sub64 {P : Program} (x y b : Nat) (hb : b ≤ 1) (w : World) :
    (sub64Entry #[.int .u64 x, .int .u64 y, .int .u64 b]).run P w =
      .ok (.tuple #[.int .u64 (((x + 18446744073709551616 - y - b) % 18446744073709551616 : Nat) : Int), .int .u64 ((if x < y + b then 1 else 0 : Nat) : Int)]) w := by
  have : b = 0 ∨ b = 1 := by omega
  rcases this with rfl | rfl <;> rfl
theorem run_add (x y c : Nat) (hc : c ≤ 1) (w : World) :
    (callFunc 39 #[.int .u64 x, .int .u64 y, .int .u64 c]).run Try.prog w =
      .ok (.value (.tuple #[.int .u64 (((x + y + c) % 18446744073709551616 : Nat) : Int), .int .u64 (((x + y + c) / 18446744073709551616 : Nat) : Int)])) w := by
  rw [run_callFunc_extern Try.func39 (by kernel_rfl) (by kernel_rfl) (by kernel_rfl) (e := add64Entry) (by kernel_rfl), run_add64 x y c (by omega) (by omega) (by omega) (by omega)]
  simp only [Result.andThen]
  congr 5 <;> omega
theorem run_sub (x y b : Nat) (hb : b ≤ 1) (w : World) :
    (callFunc 56 #[.int .u64 x, .int .u64 y, .int .u64 b]).run Try.prog w =
      .ok (.value (.tuple #[.int .u64 (((x + 18446744073709551616 - y - b) % 18446744073709551616 : Nat) : Int), .int .u64 ((if x < y + b then 1 else 0 : Nat) : Int)])) w := by
  rw [run_callFunc_extern Try.func56 (by kernel_rfl) (by kernel_rfl) (by kernel_rfl) (e := sub64Entry) (by kernel_rfl), run_sub64 x y b hb]
  rfl
attribute [irreducible] cells
end Go.Proofs.Ytlkolfnklbldcaa
