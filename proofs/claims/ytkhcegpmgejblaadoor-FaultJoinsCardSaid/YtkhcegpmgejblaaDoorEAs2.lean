/-
  errors.As at a number's address; fault.Code.
-/
import Derived.Test.YtkhcegpmgejblaaDoorEAs
import Derived.Test.YtkhcegpmgejblaaDoorEF
namespace Go.Proofs.YtkhcegpmgejblaaDoor
open Go Go.RowKit Go.Extern.Stop Go.Stop Go.Extern
set_option maxRecDepth 100000

/-- The variable errors.errorType holds the type error. -/
def Glob (w : World) : Prop := w.cell? ⟨0, 0, none⟩ = some (.iface 69 (.agg #[.pointer (some ⟨4, 25, none⟩)]))
set_option maxHeartbeats 4000000 in
theorem as_any {e : Er} {v : Value} {w : World} (t : Addr) (old : Value) (h : IsEr w v e) (hg : Glob w) (ht : w.cell? t = some old) (hf : w.frozen? t = false) :
    Calls Tryd.prog 18 #[v, .iface 44 (.pointer (some t))] w fun r w' => Told t w r w' e.first := by
  obtain ⟨t1, v1, rfl⟩ := h.iface
  obtain ⟨o, ho⟩ : ∃ o, e.first = o := ⟨_, rfl⟩
  rw [ho]
  have h25 := @run_callFunc_extern Tryd.prog 25 _ (fun args => ReflectliteValue.unpack (args.getD 0 (.tuple #[]))) Tryd.func25 (by kernel_rfl) (by kernel_rfl) (by kernel_rfl) (by kernel_rfl)
  have h26 := @run_callFunc_extern Tryd.prog 26 _ (ReflectliteValue.methodAny (ReflectliteValue.valueError "reflectlite.Value.Type" 0) (fun t _ _ _ => ReflectliteType.toType t)) Tryd.func26 (by kernel_rfl) (by kernel_rfl) (by kernel_rfl) (by kernel_rfl)
  have h27 := @run_callFunc_extern Tryd.prog 27 _ (ReflectliteValue.method (ReflectliteValue.valueError "reflectlite.Value.IsNil" 0) ReflectliteValue.isNil) Tryd.func27 (by kernel_rfl) (by kernel_rfl) (by kernel_rfl) (by kernel_rfl)
  have h63 := @run_callFunc_extern Tryd.prog 63 _ (ReflectliteType.abiMethod fun t => do pure (.int .u8 (← Rtype.kind t))) Tryd.func63 (by kernel_rfl) (by kernel_rfl) (by kernel_rfl) (by kernel_rfl)
  have h75 := @run_callFunc_extern Tryd.prog 75 _ (ReflectliteType.method ReflectliteType.elem) Tryd.func75 (by kernel_rfl) (by kernel_rfl) (by kernel_rfl) (by kernel_rfl)
  have h76 := @run_callFunc_extern Tryd.prog 76 _ (ReflectliteType.relation "Implements" ReflectliteType.implements_) Tryd.func76 (by kernel_rfl) (by kernel_rfl) (by kernel_rfl) (by kernel_rfl)
  have f25 := valueOfP
  have f26 := typeP
  have mK := mKind
  have kP := kindP
  have kN := kindN
  have mE := mElem
  have eP := elemP
  have mI := mImplements
  have iN := implementsN
  obtain ⟨w1, hw1⟩ : ∃ w1, (w.alloc (.cells #[.pointer (some t)] 44)).alloc (.cells #[.pointer (some ⟨4, 44, none⟩), .pointer (some ⟨w.heap.size, 0, none⟩), .int .u64 150] 52) = w1 := ⟨_, rfl⟩
  have hu1 : Up w w1 := by rw [← hw1]; exact (Up.alloc _ _).trans (Up.alloc _ _)
  have hp1 : w1.cell? ⟨w.heap.size, 0, none⟩ = some (.pointer (some t)) := by rw [← hw1]; simp
  have n27 := isNilP ⟨w.heap.size, 0, none⟩ t w1 hp1
  have hg1 : w1.cell? ⟨0, 0, none⟩ = some (.iface 69 (.agg #[.pointer (some ⟨4, 25, none⟩)])) := hu1.cellEq hg
  have HS := hid (as_sz t ⟨w.heap.size, 0, none⟩ old e.size e (Nat.le_refl _) _ w1 (h.up hu1) hp1 (hu1.cellEq ht) (hu1.frozen (lt_of_cell ht) hf))
  rw [ho] at HS
  rw [← hw1] at n27 hg1
  have HW := hid hw1
  clear hw1 h hg ht hf hp1 ho
  go_enter Tryd.func18, Tryd.ntmps18
  cases o with
  | none =>
    go_wp2_with fail
    rw [HW.out]
    refine HS.out.mono ?_
    rintro r wF ⟨rfl, hu⟩
    go_wp2_with fail
    go_ret
    exact ⟨rfl, hu1.trans hu⟩
  | some m =>
    go_wp2_with fail
    rw [HW.out]
    refine HS.out.mono ?_
    rintro r wF ⟨rfl, wX, hu, rfl⟩
    go_wp2_with fail
    go_ret
    exact ⟨rfl, wX, hu1.trans hu, rfl⟩
theorem as_nil (t : Value) (w : World) : Calls Tryd.prog 18 #[.nilIface, t] w fun r w' => r = .returned (.bool false) ∧ w' = w := by
  go_enter Tryd.func18, Tryd.ntmps18
  go_wp2
  go_ret
  exact ⟨rfl, rfl⟩
theorem idle_code (p : Addr) (w : World) : CallsD Tryd.prog 17 #[.pointer (some p)] .returning w fun e u' w' => e = .returned (.tuple #[]) ∧ u' = .returning ∧ w' = w := by
  refine callsD_of_wpS Tryd.func17 rfl fun c₀ cs hu => ?_
  apply wpS_seq
  apply wpS_region
  simp [wpOpsS, go_sem, recoverD, hu, Tryd.ntmps17, Exit.thenS]
  refine wpS_cond (t := false) (by simp [Act.eval, Array.replicate]) ?_
  simp only [Bool.false_eq_true, if_false]
  refine wpS_of_wp (wp_skip ?_)
  cases c₀
  simp_all [bodyPostS, results, Tryd.results17]
theorem Blk.set {w : World} {b : Nat} {t : TypeId} {C : Array Value} (h : Blk w b t C) (i : Nat) (v : Value) : Blk (w.setCell ⟨b, i, none⟩ v) b t (C.setIfInBounds i v) := by
  exact heap_setCell_same _ _ _ _ _ _ h
theorem code_any {e : Er} {v : Value} {w : World} (h : IsEr w v e) (hg : Glob w) :
    Calls Tryd.prog 9 #[v] w fun r w' => r = .returned (.int .i64 (e.first.getD 36)) ∧ Up w w' := by
  obtain ⟨t1, v1, rfl⟩ := h.iface
  have hmf : ∀ (fn : Fn) (first cap : Array Value) (w : World), (Instr.makeFunc fn first cap).run Tryd.prog w = .ok (.func fn first cap) w := fun _ _ _ _ => rfl
  have hu0 : Up w (w.alloc (.cells #[.int .i64 0] 27)) := Up.alloc _ _
  have hB0 : Blk (w.alloc (.cells #[.int .i64 0] 27)) w.heap.size 27 #[.int .i64 0] := Blk.new _ _ rfl
  have HA := hid (as_any ⟨w.heap.size, 0, none⟩ (.int .i64 0) (h.up hu0) (hu0.cellEq hg) (by simp) (by simp))
  obtain ⟨o, ho⟩ : ∃ o, e.first = o := ⟨_, rfl⟩
  rw [ho] at HA ⊢
  clear ho h hg
  cases o with
  | none =>
    go_enter_defers Tryd.func9, Tryd.ntmps9
    go_wp2_with (first | (go_at_call 18; (with_reducible refine (HA.out).mono ?_); rintro r wA ⟨rfl, huA⟩; have hBA := hB0.up huA; have hcA := hBA.cell 0 rfl; have hfA := hBA.frozen 0))
    have hBF := hBA.set 0 (.int .i64 36)
    have hcF := hBF.cell 0 rfl
    have huF := (hu0.trans huA).setCell (p := ⟨w.heap.size, 0, none⟩) (Nat.le_refl _) (.int .i64 36)
    refine leaves_cons (f := 17) (args := #[.pointer (some ⟨w.heap.size, 0, none⟩)]) (by simp) (by simp [go_sem]) ?_
    refine (idle_code _ _).mono ?_
    rintro e u' w'' ⟨rfl, rfl, rfl⟩
    simp [Leaves, settle, results, Tryd.results9, go_sem, hcF]
    exact huF
  | some m =>
    go_enter_defers Tryd.func9, Tryd.ntmps9
    go_wp2_with (first | (go_at_call 18; (with_reducible refine (HA.out).mono ?_); rintro r wA ⟨rfl, wX, huA, rfl⟩; have hBX := (hB0.up huA).set 0 (.int .i64 m); have hcX := hBX.cell 0 rfl; have hfX := hBX.frozen 0))
    have hBF := hBX.set 0 (.int .i64 m)
    have hcF := hBF.cell 0 rfl
    have huF := ((hu0.trans huA).setCell (p := ⟨w.heap.size, 0, none⟩) (Nat.le_refl _) (.int .i64 m)).setCell (p := ⟨w.heap.size, 0, none⟩) (Nat.le_refl _) (.int .i64 m)
    refine leaves_cons (f := 17) (args := #[.pointer (some ⟨w.heap.size, 0, none⟩)]) (by simp) (by simp [go_sem]) ?_
    refine (idle_code _ _).mono ?_
    rintro e u' w'' ⟨rfl, rfl, rfl⟩
    simp [Leaves, settle, results, Tryd.results9, go_sem, hcF]
    exact huF
theorem code_nil (w : World) : Calls Tryd.prog 9 #[.nilIface] w fun r w' => r = .returned (.int .i64 0) ∧ Up w w' := by
  have hB0 : Blk (w.alloc (.cells #[.int .i64 0] 27)) w.heap.size 27 #[.int .i64 0] := Blk.new _ _ rfl
  have hBF := hB0.set 0 (.int .i64 0)
  have hcF := hBF.cell 0 rfl
  have huF := (Up.alloc w (.cells #[.int .i64 0] 27)).setCell (p := ⟨w.heap.size, 0, none⟩) (Nat.le_refl _) (.int .i64 0)
  have hc0 := hB0.cell 0 rfl
  have hf0 := hB0.frozen 0
  go_enter_defers Tryd.func9, Tryd.ntmps9
  go_wp2_with fail
  simp [bodyPostD, Leaves, settle, results, Tryd.results9, go_sem, hcF]
  first | exact huF | exact Up.alloc _ _
end Go.Proofs.YtkhcegpmgejblaaDoor
