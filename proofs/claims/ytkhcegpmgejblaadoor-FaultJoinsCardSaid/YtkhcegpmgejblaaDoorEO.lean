/-
  fault.Ops: the first fault of an error.
-/
import Derived.Test.YtkhcegpmgejblaaDoorEF
namespace Go.Proofs.YtkhcegpmgejblaaDoor
open Go Go.RowKit
set_option maxRecDepth 100000
set_option maxRecDepth 100000

theorem noSevN (v : Value) (xT : TypeId) (w : World) : (Instr.typeAssert (.iface 27 v) xT 83 true).run Tryd.prog w = .ok (.tuple #[.nilIface, .bool false]) w := run_typeAssert_lacksB Tryd.underlying83 (by kernel_rfl) (by kernel_rfl) v xT w
theorem hasSevJ (v : Value) (xT : TypeId) (w : World) : (Instr.typeAssert (.iface 65 v) xT 83 true).run Tryd.prog w = .ok (.tuple #[.iface 65 v, .bool true]) w := run_typeAssert_hasB Tryd.underlying83 (by kernel_rfl) v xT w
theorem isF (v : Value) (w : World) : (Instr.typeAssert (.iface 37 v) 25 37 true).run Tryd.prog w = .ok (.tuple #[v, .bool true]) w := by kernel_rfl
theorem notFN (v : Value) (w : World) : (Instr.typeAssert (.iface 27 v) 25 37 true).run Tryd.prog w = .ok (.tuple #[.pointer none, .bool false]) w := by kernel_rfl
theorem notFJ (v : Value) (w : World) : (Instr.typeAssert (.iface 65 v) 25 37 true).run Tryd.prog w = .ok (.tuple #[.pointer none, .bool false]) w := by kernel_rfl
theorem first_num (n : Int) (w : World) : Calls Tryd.prog 34 #[.iface 27 (.int .i64 n)] w fun r w' => r = .returned .nilIface ∧ w' = w := by
  have h1 := noSevN
  go_enter Tryd.func34, Tryd.ntmps34
  go_wp2
  go_ret
  exact ⟨rfl, rfl⟩
theorem first_two {b g c : Nat} {u1 : Value} {C : Array Value} {w : World} (hB : Blk w b 67 #[.slice (some ⟨g, 0, none⟩) 2 c]) (hC : Blk w g 25 C) (h0 : C[0]? = some u1) (t1 : TypeId) (v1 : Value) (hu : u1 = .iface t1 v1) :
    Calls Tryd.prog 34 #[.iface 65 (.pointer (some ⟨b, 0, none⟩))] w fun r w' => r = .returned u1 ∧ w' = w := by
  subst hu
  have h1 := hasSevJ
  have hA := mUnJ
  have HU := hid (unwrap_two hB)
  have hc0 := hC.cell 0 h0
  clear hB hC
  go_enter Tryd.func34, Tryd.ntmps34
  go_wp2_with (first | (go_at_call 71; (with_reducible refine (HU.out).mono ?_); rintro r w' ⟨rfl, rfl⟩))
  refine wp_loop_rounds 1 ?_
  rw [rounds_succ]
  go_wp2_with fail
  go_ret
  exact ⟨rfl, rfl⟩
/-- The pointer p is the first fault of what has the Ops l. -/
def Out (w : World) (p : Value) : List ByteArray → Prop
  | [] => p = .pointer none
  | op :: l => ∃ b u, p = .pointer (some ⟨b, 0, none⟩) ∧ Blk w b 39 #[.string op, u] ∧ ((u = .nilIface ∧ l = []) ∨ ∃ e, IsEr w u e ∧ e.ops = l)
theorem Out.up {w w' : World} {p : Value} {l : List ByteArray} (hu : Up w w') (h : Out w p l) : Out w' p l := by
  cases l with
  | nil => exact h
  | cons op l =>
    obtain ⟨b, u, h1, h2, h3⟩ := h
    refine ⟨b, u, h1, h2.up hu, ?_⟩
    rcases h3 with h3 | ⟨e, h3, h4⟩
    · exact .inl h3
    · exact .inr ⟨e, h3.up hu, h4⟩
set_option maxHeartbeats 4000000 in
theorem out_any {e : Er} {v : Value} {w0 w : World} (h : IsEr w0 v e) (hu0 : Up w0 w) :
    Calls Tryd.prog 23 #[v] w fun r w' => ∃ p, r = .returned p ∧ Up w w' ∧ Out w0 p e.ops := by
  obtain ⟨l, hl⟩ : ∃ l, e.ops = l := ⟨_, rfl⟩
  have HL := hid hl
  rw [hl]
  clear hl
  go_enter_defers Tryd.func23, Tryd.ntmps23
  go_wp2_with fail
  go_loopg [0] (e.size + 1) (fun g tv wr => ((tv = .nilIface ∧ l = []) ∨ (∃ t u x, tv = .iface t u ∧ Er.size x + 1 ≤ g ∧ x.ops = l ∧ IsEr w0 (.iface t u) x)) ∧ Up w wr)
  case atStart =>
    obtain ⟨t, u, rfl⟩ := h.iface
    exact ⟨.inr ⟨t, u, e, rfl, Nat.le_refl _, HL.out, h⟩, Up.refl _⟩
  case round =>
    clear HL h
    obtain ⟨h1 | ⟨t, u, x, rfl, hx, hxl, hX⟩, hu⟩ := hrel
    · obtain ⟨rfl, rfl⟩ := h1
      go_wp2_with fail
      refine leaves_cons (f := 33) (args := #[]) (by simp) (by simp [go_sem]) ?_
      refine (idle_out _).mono ?_
      rintro e u' w'' ⟨rfl, rfl, rfl⟩
      exact ⟨_, results_tmp rfl _ _ _, _, rfl, hu, (by simp [Out])⟩
    · have hF := isF
      have hN := notFN
      have hJ := notFJ
      cases x with
      | num n =>
        obtain ⟨rfl, rfl⟩ : t = _ ∧ u = _ := by simpa [IsEr] using hX
        have hnil : [] = l := hxl
        subst hnil
        go_wp2_with (first | (go_at_call 34; (with_reducible refine (first_num _ _).mono ?_); rintro r w' ⟨rfl, rfl⟩))
        go_roundg 0
        case measure => omega
        case rel => exact ⟨.inl (by simp), hu⟩
      | nilf op =>
        obtain ⟨b, hv, hB⟩ := hX
        obtain ⟨rfl, rfl⟩ : t = _ ∧ u = _ := by simpa using hv
        have hl : [op] = l := hxl
        have HL := hid hl
        clear hl hxl hv
        go_wp2_with fail
        refine leaves_cons (f := 33) (args := #[]) (by simp) (by simp [go_sem]) ?_
        refine (idle_out _).mono ?_
        rintro e u' w'' ⟨rfl, rfl, rfl⟩
        exact ⟨_, results_tmp rfl _ _ _, _, rfl, hu, HL.out ▸ ⟨b, .nilIface, rfl, hB, .inl ⟨rfl, rfl⟩⟩⟩
      | flt op y =>
        obtain ⟨b, uu, hv, hB, hY⟩ := hX
        obtain ⟨rfl, rfl⟩ : t = _ ∧ u = _ := by simpa using hv
        have hl : op :: y.ops = l := hxl
        have HL := hid hl
        have HY := hid hY
        clear hl hxl hv hY
        go_wp2_with fail
        refine leaves_cons (f := 33) (args := #[]) (by simp) (by simp [go_sem]) ?_
        refine (idle_out _).mono ?_
        rintro e u' w'' ⟨rfl, rfl, rfl⟩
        exact ⟨_, results_tmp rfl _ _ _, _, rfl, hu, HL.out ▸ ⟨b, uu, rfl, hB, .inr ⟨y, HY.out, rfl⟩⟩⟩
      | two y z =>
        obtain ⟨b, g', c, u1, u2, hv, hB, ⟨C, hC, hC0, hC1⟩, hY, hZ⟩ := hX
        obtain ⟨rfl, rfl⟩ : t = _ ∧ u = _ := by simpa using hv
        obtain ⟨t1, v1, rfl⟩ := hY.iface
        have HF := hid (first_two (hB.up (hu0.trans hu)) (hC.up (hu0.trans hu)) hC0 t1 v1 rfl)
        have hsz : y.size + z.size + 1 + 1 ≤ gk := hx
        have hl : y.ops = l := hxl
        have HL := hid hl
        have HY := hid hY
        clear hl hxl hv hY hZ hB hC hC0 hC1 hx
        go_wp2_with (first | (go_at_call 34; (with_reducible refine (HF.out).mono ?_); rintro r w' ⟨rfl, rfl⟩))
        go_roundg (y.size + 1)
        case measure => omega
        case rel => exact ⟨.inr ⟨_, _, y, rfl, Nat.le_refl _, HL.out, HY.out⟩, hu⟩
theorem out_nil (w : World) :
    Calls Tryd.prog 23 #[.nilIface] w fun r w' => r = .returned (.pointer none) ∧ Up w w' := by
  go_enter_defers Tryd.func23, Tryd.ntmps23
  go_wp2_with fail
  refine wp_loop_rounds 1 ?_
  rw [rounds_succ]
  go_wp2_with fail
  refine leaves_cons (f := 33) (args := #[]) (by simp) (by simp [go_sem]) ?_
  refine (idle_out _).mono ?_
  rintro e u' w'' ⟨rfl, rfl, rfl⟩
  exact ⟨_, results_tmp rfl _ _ _, rfl, Up.refl _⟩
end Go.Proofs.YtkhcegpmgejblaaDoor
