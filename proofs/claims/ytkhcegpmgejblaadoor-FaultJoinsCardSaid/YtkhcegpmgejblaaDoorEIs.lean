/-
  errors.Is, asked for a number: whether it is in the error.
-/
import Derived.Test.YtkhcegpmgejblaaDoorEr
import Derived.RowKitTokens
namespace Go.Proofs.YtkhcegpmgejblaaDoor
open Go Go.RowKit Go.Extern.Stop Go.Stop Go.Extern
set_option maxRecDepth 100000

theorem run_equalIn_iface_int {P : Program} (w : World) (d : Nat) {ti tn : TypeId} {ms : Array (String × TypeId)} {i : TypeInfo} {k : IntKind} (a b : Int)
    (hi : P.underlying ti = some (.interface ms)) (hn : P.underlying tn = some (.int k)) (hinfo : P.info? tn = some i) (hcomp : i.comparable = true) :
    (Op.equalIn (d + 2) ti (.iface tn (.int k a)) (.iface tn (.int k b))).run P w = .ok (a == b) w := by
  simp [Op.equalIn, run_underlying hi, run_underlying hn, typeInfo, hinfo, hcomp]
theorem run_eql_iface_int {P : Program} (w : World) {ti tn : TypeId} {ms : Array (String × TypeId)} {i : TypeInfo} {k : IntKind} (a b : Int)
    (hi : P.underlying ti = some (.interface ms)) (hn : P.underlying tn = some (.int k)) (hinfo : P.info? tn = some i) (hcomp : i.comparable = true) :
    (binOp .eql ti (.iface tn (.int k a)) (.iface tn (.int k b))).run P w = .ok (.bool (a == b)) w := by
  simp only [binOp]
  simp [Op.equal, Op.maxDepth, run_equalIn_iface_int w 9998 a b hi hn hinfo hcomp]
theorem undE : Tryd.prog.underlying 25 = some (.interface #[("Error", 30)]) := by kernel_rfl
theorem noIsN (v : Value) (xT : TypeId) (w : World) : (Instr.typeAssert (.iface 27 v) xT 80 true).run Tryd.prog w = .ok (.tuple #[.nilIface, .bool false]) w := run_typeAssert_lacksB Tryd.underlying80 (by kernel_rfl) (by kernel_rfl) v xT w
theorem noIsF (v : Value) (xT : TypeId) (w : World) : (Instr.typeAssert (.iface 37 v) xT 80 true).run Tryd.prog w = .ok (.tuple #[.nilIface, .bool false]) w := run_typeAssert_lacksB Tryd.underlying80 (by kernel_rfl) (by kernel_rfl) v xT w
theorem noIsJ (v : Value) (xT : TypeId) (w : World) : (Instr.typeAssert (.iface 65 v) xT 80 true).run Tryd.prog w = .ok (.tuple #[.nilIface, .bool false]) w := run_typeAssert_lacksB Tryd.underlying80 (by kernel_rfl) (by kernel_rfl) v xT w
theorem noUnN (v : Value) (xT : TypeId) (w : World) : (Instr.typeAssert (.iface 27 v) xT 76 true).run Tryd.prog w = .ok (.tuple #[.nilIface, .bool false]) w := run_typeAssert_lacksB Tryd.underlying76 (by kernel_rfl) (by kernel_rfl) v xT w
theorem noUsN (v : Value) (xT : TypeId) (w : World) : (Instr.typeAssert (.iface 27 v) xT 77 true).run Tryd.prog w = .ok (.tuple #[.nilIface, .bool false]) w := run_typeAssert_lacksB Tryd.underlying77 (by kernel_rfl) (by kernel_rfl) v xT w
theorem hasUnF (v : Value) (xT : TypeId) (w : World) : (Instr.typeAssert (.iface 37 v) xT 76 true).run Tryd.prog w = .ok (.tuple #[.iface 37 v, .bool true]) w := run_typeAssert_hasB Tryd.underlying76 (by kernel_rfl) v xT w
theorem noUnJ (v : Value) (xT : TypeId) (w : World) : (Instr.typeAssert (.iface 65 v) xT 76 true).run Tryd.prog w = .ok (.tuple #[.nilIface, .bool false]) w := run_typeAssert_lacksB Tryd.underlying76 (by kernel_rfl) (by kernel_rfl) v xT w
theorem hasUsJ (v : Value) (xT : TypeId) (w : World) : (Instr.typeAssert (.iface 65 v) xT 77 true).run Tryd.prog w = .ok (.tuple #[.iface 65 v, .bool true]) w := run_typeAssert_hasB Tryd.underlying77 (by kernel_rfl) v xT w

theorem eqN (m n : Int) (w : World) : (binOp .eql 25 (.iface 27 (.int .i64 m)) (.iface 27 (.int .i64 n))).run Tryd.prog w = .ok (.bool (m == n)) w := by
  obtain ⟨i, hi, hc⟩ := Option.map_eq_some_iff.1 (show (Tryd.prog.info? 27).map (·.comparable) = some true by kernel_rfl)
  exact run_eql_iface_int w m n undE Tryd.underlying27 hi hc
theorem unwrap_flt {b : Nat} {op : ByteArray} {u : Value} {w : World} (h : Blk w b 39 #[.string op, u]) :
    Calls Tryd.prog 16 #[.pointer (some ⟨b, 0, none⟩)] w fun r w' => r = .returned u ∧ w' = w := by
  have hc := h.cell 1 rfl
  go_enter Tryd.func16, Tryd.ntmps16
  go_wp2
  go_ret
  exact ⟨rfl, rfl⟩
theorem unwrap_two {b : Nat} {s : Value} {w : World} (h : Blk w b 67 #[s]) :
    Calls Tryd.prog 71 #[.pointer (some ⟨b, 0, none⟩)] w fun r w' => r = .returned s ∧ w' = w := by
  have hc := h.cell 0 rfl
  go_enter Tryd.func71, Tryd.ntmps71
  go_wp2
  go_ret
  exact ⟨rfl, rfl⟩
theorem mUnF (v : Value) (w : World) : (Go.method 231 37 v "Unwrap").run Tryd.prog w = .ok (16, v) w := by kernel_rfl
theorem mUnJ (v : Value) (w : World) : (Go.method 231 65 v "Unwrap").run Tryd.prog w = .ok (71, v) w := by kernel_rfl
/-- How many parts. -/
def Er.size : Er → Nat
  | .num _ => 1
  | .nilf _ => 1
  | .flt _ e => e.size + 1
  | .two a b => a.size + b.size + 1
set_option maxHeartbeats 4000000 in
theorem is_sz (n : Int) (k : Nat) : ∀ (e : Er), e.size ≤ k → ∀ (v : Value) (w : World), IsEr w v e →
    Calls Tryd.prog 32 #[v, .iface 27 (.int .i64 n), .bool true] w fun r w' => r = .returned (.bool (e.has n)) ∧ Up w w' := by
  induction k with
  | zero => intro e he; cases e <;> simp [Er.size] at he
  | succ k ih =>
    intro e he v w hE
    have h1 := noIsN
    have h2 := noIsF
    have h3 := noIsJ
    have h4 := noUnN
    have h5 := noUsN
    have h6 := hasUnF
    have h7 := noUnJ
    have h8 := hasUsJ
    have h9 := mUnF
    have hA := mUnJ
    have IH := hid ih
    clear ih
    go_enter Tryd.func32, Tryd.ntmps32
    go_wp2_with fail
    go_loopg [0] (k + 1) (fun g tv wr => ∃ x : Er, x.size ≤ g ∧ x.size ≤ k + 1 ∧ x.has n = e.has n ∧ IsEr wr tv x ∧ Up w wr)
    case atStart => exact ⟨e, he, he, rfl, hE, Up.refl _⟩
    case round =>
      obtain ⟨x, hx1, hx2, hx3, hX, hu⟩ := hrel
      have HX3 := hid hx3
      clear hx3
      cases x with
      | num m =>
        obtain rfl : _ = _ := hX
        have heq := eqN m n
        by_cases hm : m = n
        · have hm' : (m == n) = true := by simp [hm]
          rw [hm'] at heq
          clear hm
          have hres : e.has n = true := by rw [← HX3.out]; exact hm'
          have Hres := hid hres
          clear hres hm'
          go_wp2_with fail
          go_ret
          exact ⟨by rw [Hres.out]; rfl, hu⟩
        · have hm' : (m == n) = false := by simp [hm]
          rw [hm'] at heq
          clear hm
          have hres : e.has n = false := by rw [← HX3.out]; exact hm'
          have Hres := hid hres
          clear hres hm'
          go_wp2_with fail
          go_ret
          exact ⟨by rw [Hres.out]; rfl, hu⟩
      | nilf op =>
        obtain ⟨b, rfl, hB⟩ := hX
        have heq := fun w => run_eql_iface_types (P := Tryd.prog) 37 27 (.pointer (some ⟨b, 0, none⟩)) (.int .i64 n) undE (by decide) w
        have HU := hid (fun (w' : World) (h : Up wr w') => unwrap_flt (hB.up h))
        have hres : e.has n = false := by rw [← HX3.out]; rfl
        have Hres := hid hres
        clear hres
        go_wp2_with (first | (go_at_call 16; (with_reducible refine (HU.out _ (Up.refl _)).mono ?_); rintro r w' ⟨rfl, rfl⟩))
        go_ret
        exact ⟨by rw [Hres.out]; rfl, hu⟩
      | flt op y =>
        obtain ⟨b, u, rfl, hB, hY⟩ := hX
        obtain ⟨tu, uu, rfl⟩ := hY.iface
        have heq := fun w => run_eql_iface_types (P := Tryd.prog) 37 27 (.pointer (some ⟨b, 0, none⟩)) (.int .i64 n) undE (by decide) w
        have HU := hid (fun (w' : World) (h : Up wr w') => unwrap_flt (hB.up h))
        have HY := hid hY
        have hs1 : y.size + 1 ≤ gk := hx1
        have hs2 : y.size + 1 ≤ k + 1 := hx2
        have hh : y.has n = e.has n := HX3.out
        have HH := hid hh
        clear hY hB hh
        go_wp2_with (first | (go_at_call 16; (with_reducible refine (HU.out _ (Up.refl _)).mono ?_); rintro r w' ⟨rfl, rfl⟩))
        go_roundg (gk - 1)
        case measure => omega
        case rel => exact ⟨y, by omega, by omega, HH.out, HY.out, hu⟩
      | two y z =>
        obtain ⟨b, g, c, u1, u2, rfl, hB, ⟨C, hC, hC0, hC1⟩, hY, hZ⟩ := hX
        obtain ⟨t1, v1, rfl⟩ := hY.iface
        obtain ⟨t2, v2, rfl⟩ := hZ.iface
        have heq := fun w => run_eql_iface_types (P := Tryd.prog) 65 27 (.pointer (some ⟨b, 0, none⟩)) (.int .i64 n) undE (by decide) w
        have HU := hid (fun (w' : World) (h : Up wr w') => unwrap_two (hB.up h))
        have hc0 := hC.cell 0 hC0
        have hs2 : y.size + z.size + 1 ≤ k + 1 := hx2
        have hh : (y.has n || z.has n) = e.has n := HX3.out
        have HH := hid hh
        have h1 := IH.out y (by omega) _ wr hY
        have H2 := hid (fun (w' : World) (h : Up wr w') => IH.out z (by omega) _ w' (hZ.up h))
        have HC1 := hid (fun (w' : World) (h : Up wr w') => (hC.up h).cell 1 hC1)
        clear hY hZ hB hh
        cases hy : y.has n with
        | true =>
          rw [hy] at h1
          have H1 := hid h1
          have Hy := hid hy
          clear h1 hy
          go_wp2_with (first | (go_at_call 71; (with_reducible refine (HU.out _ (Up.refl _)).mono ?_); rintro r w' ⟨rfl, rfl⟩))
          refine wp_loop_rounds 1 ?_
          rw [rounds_succ]
          go_wp2_with (first | (go_at_call 32; (with_reducible refine (H1.out).mono ?_); rintro r wA ⟨rfl, huA⟩))
          go_ret
          exact ⟨by rw [← HH.out, Hy.out]; rfl, hu.trans huA⟩
        | false =>
          rw [hy] at h1
          have H1 := hid h1
          have Hy := hid hy
          clear h1 hy
          cases hz : z.has n with
          | true =>
            have h2 := H2.out
            rw [hz] at h2
            have H2 := hid h2
            have Hz := hid hz
            clear h2 hz
            go_wp2_with (first | (go_at_call 71; (with_reducible refine (HU.out _ (Up.refl _)).mono ?_); rintro r w' ⟨rfl, rfl⟩))
            refine wp_loop_rounds 2 ?_
            rw [rounds_succ]
            go_wp2_with (first | (go_at_call 32; (with_reducible refine (H1.out).mono ?_); rintro r wA ⟨rfl, huA⟩; have hc1 := HC1.out _ huA))
            rw [rounds_succ]
            go_wp2_with (first | (go_at_call 32; (with_reducible refine (H2.out _ huA).mono ?_); rintro r wB ⟨rfl, huB⟩))
            go_ret
            exact ⟨by rw [← HH.out, Hy.out, Hz.out]; rfl, (hu.trans huA).trans huB⟩
          | false =>
            have h2 := H2.out
            rw [hz] at h2
            have H2 := hid h2
            have Hz := hid hz
            clear h2 hz
            go_wp2_with (first | (go_at_call 71; (with_reducible refine (HU.out _ (Up.refl _)).mono ?_); rintro r w' ⟨rfl, rfl⟩))
            refine wp_loop_rounds 3 ?_
            rw [rounds_succ]
            go_wp2_with (first | (go_at_call 32; (with_reducible refine (H1.out).mono ?_); rintro r wA ⟨rfl, huA⟩; have hc1 := HC1.out _ huA))
            rw [rounds_succ]
            go_wp2_with (first | (go_at_call 32; (with_reducible refine (H2.out _ huA).mono ?_); rintro r wB ⟨rfl, huB⟩))
            rw [rounds_succ]
            go_wp2_with fail
            go_ret
            exact ⟨by rw [← HH.out, Hy.out, Hz.out]; rfl, (hu.trans huA).trans huB⟩
theorem typeOfN (v : Value) (w : World) : (callFunc 31 #[.iface 27 v]).run Tryd.prog w = .ok (.value (.iface 69 (.agg #[.pointer (some ⟨4, 27, none⟩)]))) w := by
  rw [@run_callFunc_extern Tryd.prog 31 _ ReflectliteType.typeOf Tryd.func31 (by kernel_rfl) (by kernel_rfl) (by kernel_rfl) (by kernel_rfl)]
  have h : (ReflectliteType.typeOf #[.iface 27 v]).run Tryd.prog w = .ok (.iface 69 (.agg #[.pointer (some ⟨4, 27, none⟩)])) w := by kernel_rfl
  rw [h]
  rfl
theorem comparableN (w : World) : (callFunc 74 #[.agg #[.pointer (some ⟨4, 27, none⟩)]]).run Tryd.prog w = .ok (.value (.bool true)) w := by
  rw [@run_callFunc_extern Tryd.prog 74 _ (ReflectliteType.method fun t => do Rtype.noPackHeld "Comparable" t; pure (.bool (← typeInfo t).comparable)) Tryd.func74 (by kernel_rfl) (by kernel_rfl) (by kernel_rfl) (by kernel_rfl)]
  have h : ((ReflectliteType.method fun t => do Rtype.noPackHeld "Comparable" t; pure (.bool (← typeInfo t).comparable)) #[.agg #[.pointer (some ⟨4, 27, none⟩)]]).run Tryd.prog w = .ok (.bool true) w := by kernel_rfl
  rw [h]
  rfl
theorem mComparable (v : Value) (w : World) : (Go.method 231 69 v "Comparable").run Tryd.prog w = .ok (74, v) w := by kernel_rfl
/-- errors.Is of an error and a number. -/
theorem is_any {e : Er} {v : Value} {w : World} (n : Int) (h : IsEr w v e) :
    Calls Tryd.prog 22 #[v, .iface 27 (.int .i64 n)] w fun r w' => r = .returned (.bool (e.has n)) ∧ Up w w' := by
  obtain ⟨t, u, rfl⟩ := h.iface
  have H := hid (is_sz n e.size e (Nat.le_refl _) _ w h)
  have tT := typeOfN
  have cT := comparableN
  have mR := mComparable
  clear h
  go_enter Tryd.func22, Tryd.ntmps22
  go_wp2_with (first | (go_at_call 32; (with_reducible refine (H.out).mono ?_); rintro r wA ⟨rfl, huA⟩))
  go_ret
  exact ⟨rfl, huA⟩
theorem is_nil (n : Int) (w : World) :
    Calls Tryd.prog 22 #[.nilIface, .iface 27 (.int .i64 n)] w fun r w' => r = .returned (.bool false) ∧ Up w w' := by
  have hn := run_eql_iface_nil_left (P := Tryd.prog) w 27 (.int .i64 n) undE
  go_enter Tryd.func22, Tryd.ntmps22
  go_wp2
  go_ret
  exact ⟨rfl, Up.refl _⟩
end Go.Proofs.YtkhcegpmgejblaaDoor
