/-
  Errors in memory: a number; a fault of an error, or of none; two errors joined.
-/
import Derived.Test.YtkhcegpmgejblaaDoorProg
import Derived.Test.YtkhcegpmgejblaaDoorUp
import Derived.WalkKit
import Derived.LaidEql
import Derived.WideLaws
import Derived.Stop.Asserts
import Derived.Defers
import Derived.Recover
import Derived.Deep.LoopGhost
namespace Go.Proofs.YtkhcegpmgejblaaDoor
open Go Go.RowKit
set_option maxRecDepth 100000

theorem hid {p : Prop} (h : p) : Hid p := h
def Blk (w : World) (b : Nat) (t : TypeId) (C : Array Value) : Prop := w.heap[b]? = some (.cells C t (0, 0))
theorem Blk.lt {w : World} {b : Nat} {t : TypeId} {C : Array Value} (h : Blk w b t C) : b < w.heap.size := (Array.getElem?_eq_some_iff.1 h).1
theorem Blk.cell {w : World} {b : Nat} {t : TypeId} {C : Array Value} (h : Blk w b t C) (i : Nat) {v : Value} (hv : C[i]? = some v) : w.cell? ⟨b, i, none⟩ = some v := by
  rw [cell_of_row _ _ _ _ _ _ h, hv]
theorem Blk.frozen {w : World} {b : Nat} {t : TypeId} {C : Array Value} (h : Blk w b t C) (i : Nat) : w.frozen? ⟨b, i, none⟩ = false := frozen_of_row _ _ _ _ _ h
theorem Blk.up {w w' : World} {b : Nat} {t : TypeId} {C : Array Value} (h : Blk w b t C) (hu : Up w w') : Blk w' b t C := hu.row h
theorem Blk.new {w : World} {b : Nat} (t : TypeId) (C : Array Value) (h : b = w.heap.size) : Blk (w.alloc (.cells C t)) b t C := by
  subst h; exact heap_alloc_new _ _

/-- An error's shape. -/
inductive Er where
  | num (n : Int)
  | nilf (op : ByteArray)
  | flt (op : ByteArray) (e : Er)
  | two (a b : Er)

/-- The value v is the error e, in world w. -/
def IsEr (w : World) : Value → Er → Prop
  | v, .num n => v = .iface 27 (.int .i64 n)
  | v, .nilf op => ∃ b, v = .iface 37 (.pointer (some ⟨b, 0, none⟩)) ∧ Blk w b 39 #[.string op, .nilIface]
  | v, .flt op e => ∃ b u, v = .iface 37 (.pointer (some ⟨b, 0, none⟩)) ∧ Blk w b 39 #[.string op, u] ∧ IsEr w u e
  | v, .two x y => ∃ b g c u1 u2, v = .iface 65 (.pointer (some ⟨b, 0, none⟩)) ∧ Blk w b 67 #[.slice (some ⟨g, 0, none⟩) 2 c] ∧ (∃ C, Blk w g 25 C ∧ C[0]? = some u1 ∧ C[1]? = some u2) ∧ IsEr w u1 x ∧ IsEr w u2 y
theorem IsEr.up {w w' : World} (hu : Up w w') {v : Value} {e : Er} (h : IsEr w v e) : IsEr w' v e := by
  induction e generalizing v with
  | num n => exact h
  | nilf op => obtain ⟨b, h1, h2⟩ := h; exact ⟨b, h1, h2.up hu⟩
  | flt op e ih => obtain ⟨b, u, h1, h2, h3⟩ := h; exact ⟨b, u, h1, h2.up hu, ih h3⟩
  | two x y ix iy => obtain ⟨b, g, c, u1, u2, h1, h2, ⟨C, h3, h4, h5⟩, h6, h7⟩ := h; exact ⟨b, g, c, u1, u2, h1, h2.up hu, ⟨C, h3.up hu, h4, h5⟩, ix h6, iy h7⟩
theorem IsEr.iface {w : World} {v : Value} {e : Er} (h : IsEr w v e) : ∃ t u, v = .iface t u := by
  cases e with
  | num n => exact ⟨_, _, h⟩
  | nilf op => obtain ⟨b, h1, _⟩ := h; exact ⟨_, _, h1⟩
  | flt op e => obtain ⟨b, u, h1, _⟩ := h; exact ⟨_, _, h1⟩
  | two x y => obtain ⟨b, g, c, u1, u2, h1, _⟩ := h; exact ⟨_, _, h1⟩
/-- Is n found in it? -/
def Er.has (n : Int) : Er → Bool
  | .num m => m == n
  | .nilf _ => false
  | .flt _ e => e.has n
  | .two a b => a.has n || b.has n
/-- The first number in it. -/
def Er.first : Er → Option Int
  | .num m => some m
  | .nilf _ => none
  | .flt _ e => e.first
  | .two a b => a.first <|> b.first
/-- Its Ops: outermost first; of joined ones the first one's. -/
def Er.ops : Er → List ByteArray
  | .num _ => []
  | .nilf op => [op]
  | .flt op e => op :: e.ops
  | .two a _ => a.ops

theorem wrap_any {op : ByteArray} {v : Value} {e : Er} {w : World} (h : IsEr w v e) :
    Calls Tryd.prog 15 #[.string op, v] w fun r w' => ∃ u, r = .returned u ∧ Up w w' ∧ IsEr w' u (.flt op e) := by
  obtain ⟨t, u, rfl⟩ := h.iface
  have H := hid h
  clear h
  go_enter Tryd.func15, Tryd.ntmps15
  go_wp2
  go_ret
  exact ⟨_, rfl, Up.alloc _ _, _, _, rfl, Blk.new _ _ rfl, H.out.up (Up.alloc _ _)⟩
theorem wrap_nil (op : ByteArray) (w : World) : Calls Tryd.prog 15 #[.string op, .nilIface] w fun r w' => r = .returned .nilIface ∧ w' = w := by
  go_enter Tryd.func15, Tryd.ntmps15
  go_wp2
  go_ret
  exact ⟨rfl, rfl⟩
end Go.Proofs.YtkhcegpmgejblaaDoor
