/-
  errors.As, asked for a number: the first one in the error.
-/
import Derived.Test.YtkhcegpmgejblaaDoorEIs
namespace Go.Proofs.YtkhcegpmgejblaaDoor
open Go Go.RowKit Go.Extern.Stop Go.Stop Go.Extern
set_option maxRecDepth 100000

/-! Closed facts on the model's entries for internal/reflectlite, at this program's types. -/
theorem valueOfP (t : Addr) (w : World) : (ReflectliteValue.unpack (.iface 44 (.pointer (some t)))).run Tryd.prog w
    = .ok (.agg #[.pointer (some ⟨4, 44, none⟩), .pointer (some ⟨w.heap.size, 0, none⟩), .int .u64 150]) (w.alloc (.cells #[.pointer (some t)] 44)) := by kernel_rfl
theorem typeP (a : Addr) (w : World) : (ReflectliteValue.methodAny (ReflectliteValue.valueError "reflectlite.Value.Type" 0) (fun t _ _ _ => ReflectliteType.toType t) #[.agg #[.pointer (some ⟨4, 44, none⟩), .pointer (some a), .int .u64 150]]).run Tryd.prog w
    = .ok (.iface 69 (.agg #[.pointer (some ⟨4, 44, none⟩)])) w := by kernel_rfl
theorem mKind (h : Value) (w : World) : (Go.method 231 69 (.agg #[h]) "Kind").run Tryd.prog w = .ok (63, h) w := by kernel_rfl
theorem kindP (w : World) : ((ReflectliteType.abiMethod fun t => (fun a : Nat => Value.int IntKind.u8 (a : Int)) <$> Rtype.kind t) #[.pointer (some ⟨4, 44, none⟩)]).run Tryd.prog w = .ok (.int .u8 22) w := by kernel_rfl
theorem kindN (w : World) : ((ReflectliteType.abiMethod fun t => (fun a : Nat => Value.int IntKind.u8 (a : Int)) <$> Rtype.kind t) #[.pointer (some ⟨4, 27, none⟩)]).run Tryd.prog w = .ok (.int .u8 2) w := by kernel_rfl
theorem rlm (z : Sem Value) (f : TypeId → Addr → Nat → Nat → Sem Value) (v : Value) :
    ReflectliteValue.method z f #[v] = (do match ← ReflectliteValue.parts v with | none => z | some (t, a, fl) => f t a fl (fl % 32)) := rfl
theorem partsP (a : Addr) (w : World) : (ReflectliteValue.parts (.agg #[.pointer (some ⟨4, 44, none⟩), .pointer (some a), .int .u64 150])).run Tryd.prog w = .ok (some (44, a, 150)) w := by kernel_rfl
theorem isNilP (a p : Addr) (W : World) (ha : W.cell? a = some (.pointer (some p))) :
    (ReflectliteValue.method (ReflectliteValue.valueError "reflectlite.Value.IsNil" 0) ReflectliteValue.isNil #[.agg #[.pointer (some ⟨4, 44, none⟩), .pointer (some a), .int .u64 150]]).run Tryd.prog W = .ok (.bool false) W := by
  rw [rlm]
  simp only [Sem.run_bind, partsP, Result.andThen]
  simp [ReflectliteValue.isNil, loadVar, isAgg, underlying, Tryd.underlying44, ha, Result.andThen]
theorem mElem (h : Value) (w : World) : (Go.method 231 69 (.agg #[h]) "Elem").run Tryd.prog w = .ok (75, .agg #[h]) w := by kernel_rfl
theorem mImplements (h : Value) (w : World) : (Go.method 231 69 (.agg #[h]) "Implements").run Tryd.prog w = .ok (76, .agg #[h]) w := by kernel_rfl
theorem mAssignableTo (h : Value) (w : World) : (Go.method 231 69 (.agg #[h]) "AssignableTo").run Tryd.prog w = .ok (73, .agg #[h]) w := by kernel_rfl
theorem elemP (w : World) : (ReflectliteType.method ReflectliteType.elem #[.agg #[.pointer (some ⟨4, 44, none⟩)]]).run Tryd.prog w = .ok (.iface 69 (.agg #[.pointer (some ⟨4, 27, none⟩)])) w := by kernel_rfl
theorem implementsN (w : World) : (ReflectliteType.relation "Implements" ReflectliteType.implements_ #[.agg #[.pointer (some ⟨4, 27, none⟩)], .iface 69 (.agg #[.pointer (some ⟨4, 25, none⟩)])]).run Tryd.prog w = .ok (.bool true) w := by kernel_rfl
theorem typeOfN2 (v : Value) (w : World) : (ReflectliteType.typeOf #[.iface 27 v]).run Tryd.prog w = .ok (.iface 69 (.agg #[.pointer (some ⟨4, 27, none⟩)])) w := by kernel_rfl
theorem typeOfF (v : Value) (w : World) : (ReflectliteType.typeOf #[.iface 37 v]).run Tryd.prog w = .ok (.iface 69 (.agg #[.pointer (some ⟨4, 37, none⟩)])) w := by kernel_rfl
theorem typeOfJ (v : Value) (w : World) : (ReflectliteType.typeOf #[.iface 65 v]).run Tryd.prog w = .ok (.iface 69 (.agg #[.pointer (some ⟨4, 65, none⟩)])) w := by kernel_rfl
theorem assignN (w : World) : (ReflectliteType.relation "AssignableTo" ReflectliteType.assignableTo #[.agg #[.pointer (some ⟨4, 27, none⟩)], .iface 69 (.agg #[.pointer (some ⟨4, 27, none⟩)])]).run Tryd.prog w = .ok (.bool true) w := by kernel_rfl
theorem assignF (w : World) : (ReflectliteType.relation "AssignableTo" ReflectliteType.assignableTo #[.agg #[.pointer (some ⟨4, 37, none⟩)], .iface 69 (.agg #[.pointer (some ⟨4, 27, none⟩)])]).run Tryd.prog w = .ok (.bool false) w := by kernel_rfl
theorem assignJ (w : World) : (ReflectliteType.relation "AssignableTo" ReflectliteType.assignableTo #[.agg #[.pointer (some ⟨4, 65, none⟩)], .iface 69 (.agg #[.pointer (some ⟨4, 27, none⟩)])]).run Tryd.prog w = .ok (.bool false) w := by kernel_rfl
theorem valueOfN (n : Int) (w : World) : (ReflectliteValue.unpack (.iface 27 (.int .i64 n))).run Tryd.prog w
    = .ok (.agg #[.pointer (some ⟨4, 27, none⟩), .pointer (some ⟨w.heap.size, 0, none⟩), .int .u64 130]) (w.alloc (.cells #[.int .i64 n] 27)) := by kernel_rfl
theorem elemOfP (w : World) : (Rtype.elem? 44).run Tryd.prog w = .ok (some 27) w := by kernel_rfl
theorem mkN (p : Addr) (w : World) : (ReflectliteValue.mk 27 p ReflectliteValue.flagAddr).run Tryd.prog w = .ok (.agg #[.pointer (some ⟨4, 27, none⟩), .pointer (some p), .int .u64 386]) w := by kernel_rfl
theorem elemVP (a p : Addr) (W : World) (ha : W.cell? a = some (.pointer (some p))) :
    (ReflectliteValue.method (ReflectliteValue.valueError "reflectlite.Value.Elem" 0) ReflectliteValue.elem #[.agg #[.pointer (some ⟨4, 44, none⟩), .pointer (some a), .int .u64 150]]).run Tryd.prog W
      = .ok (.agg #[.pointer (some ⟨4, 27, none⟩), .pointer (some p), .int .u64 386]) W := by
  rw [rlm]
  simp only [Sem.run_bind, partsP, Result.andThen]
  simp [ReflectliteValue.elem, loadVar, isAgg, underlying, Tryd.underlying44, ha, Result.andThen, elemOfP, mkN]
theorem lt_of_cell {w : World} {a : Addr} {v : Value} (h : w.cell? a = some v) : a.block < w.heap.size := by
  rcases Nat.lt_or_ge a.block w.heap.size with h1 | h1
  · exact h1
  · simp [World.cell?, Array.getElem?_eq_none h1] at h
theorem rls (v x : Value) : ReflectliteValue.set #[v, x] = (do
    let (some (dst, a, fl), some (src, b, _)) := (← ReflectliteValue.parts v, ← ReflectliteValue.parts x)
      | unsupported (.noEntry "extern/(internal/reflectlite.Value).Set.zeroValue")
    if fl / ReflectliteValue.flagAddr % 2 == 0 then unsupported (.noEntry "extern/(internal/reflectlite.Value).Set.unaddressable")
    let val ← loadVar src b
    if ← Rtype.directlyAssignable dst src then storeVar dst a val
    else if ← Rtype.implements dst src then
      if (← Rtype.kind src) == 20 then
        match val with
        | .nilIface => unsupported (.noEntry "extern/reflectlite: a nil value of one interface type handed on as a value of another")
        | _ => storeVar dst a val
      else storeVar dst a (.iface src val)
    else panicString ("reflectlite.Set: value of type " ++ (← Rtype.spelt src) ++ " is not assignable to type " ++ (← Rtype.spelt dst))
    pure (.tuple #[])) := rfl
theorem partsNa (a : Addr) (w : World) : (ReflectliteValue.parts (.agg #[.pointer (some ⟨4, 27, none⟩), .pointer (some a), .int .u64 386])).run Tryd.prog w = .ok (some (27, a, 386)) w := by kernel_rfl
theorem partsN (a : Addr) (w : World) : (ReflectliteValue.parts (.agg #[.pointer (some ⟨4, 27, none⟩), .pointer (some a), .int .u64 130])).run Tryd.prog w = .ok (some (27, a, 130)) w := by kernel_rfl
theorem directN (w : World) : (Rtype.directlyAssignable 27 27).run Tryd.prog w = .ok true w := by kernel_rfl
theorem setN (ta b : Addr) (n : Int) (old : Value) (W : World) (hb : W.cell? b = some (.int .i64 n)) (ht : W.cell? ta = some old) (hf : W.frozen? ta = false) :
    (ReflectliteValue.set #[.agg #[.pointer (some ⟨4, 27, none⟩), .pointer (some ta), .int .u64 386], .agg #[.pointer (some ⟨4, 27, none⟩), .pointer (some b), .int .u64 130]]).run Tryd.prog W
      = .ok (.tuple #[]) (W.setCell ta (.int .i64 n)) := by
  rw [rls]
  simp only [Sem.run_bind, partsNa, partsN, Result.andThen]
  simp [ReflectliteValue.flagAddr, loadVar, isAgg, underlying, Tryd.underlying27, hb, Result.andThen, directN, storeVar, Value.cells, storeCells, Addr.add]
  rw [run_store Tryd.prog W ta _ _ (by rfl)]
  simp [ht, hf]
theorem noAsN (v : Value) (xT : TypeId) (w : World) : (Instr.typeAssert (.iface 27 v) xT 73 true).run Tryd.prog w = .ok (.tuple #[.nilIface, .bool false]) w := run_typeAssert_lacksB Tryd.underlying73 (by kernel_rfl) (by kernel_rfl) v xT w
theorem noAsF (v : Value) (xT : TypeId) (w : World) : (Instr.typeAssert (.iface 37 v) xT 73 true).run Tryd.prog w = .ok (.tuple #[.nilIface, .bool false]) w := run_typeAssert_lacksB Tryd.underlying73 (by kernel_rfl) (by kernel_rfl) v xT w
theorem noAsJ (v : Value) (xT : TypeId) (w : World) : (Instr.typeAssert (.iface 65 v) xT 73 true).run Tryd.prog w = .ok (.tuple #[.nilIface, .bool false]) w := run_typeAssert_lacksB Tryd.underlying73 (by kernel_rfl) (by kernel_rfl) v xT w
theorem callTypeOf (v : Value) (w : World) : (callFunc 31 #[v]).run Tryd.prog w = ((ReflectliteType.typeOf #[v]).run Tryd.prog w).andThen fun v w' => .ok (.value v) w' := by
  rw [@run_callFunc_extern Tryd.prog 31 _ ReflectliteType.typeOf Tryd.func31 (by kernel_rfl) (by kernel_rfl) (by kernel_rfl) (by kernel_rfl)]
theorem undV0 : (match Tryd.prog.underlying 52 with | some (.struct _) => true | _ => false) = true := by kernel_rfl
theorem undV : ∃ fs, Tryd.prog.underlying 52 = some (.struct fs) := by
  have h := undV0
  cases hq : Tryd.prog.underlying 52 with
  | none => rw [hq] at h; simp at h
  | some d =>
    rw [hq] at h
    cases d <;> first | exact ⟨_, rfl⟩ | simp at h
theorem infoV : (Tryd.prog.info? 52).map (·.size) = some 3 := by kernel_rfl
theorem wpList_run {P : Program} {o : Oper} {a : Act} {w : World} {ops : Array Oper} {rest : List Oper} {Q : Exit → Act → World → Prop} {v : Value} (hw : Region.wanted o (yielded ops a.tmps) = true) (hr : (execOp a.eval o).run P w = .ok (.value v) w)
    (h : wpList P ops Q rest (a.put o.dst v) w) : wpList P ops Q (o :: rest) a w := by
  refine wpList_step fun K hK => ?_
  rw [if_pos hw]
  unfold Oper.wp
  rw [hr]
  exact hK _ _ h
theorem ldV {ops : Array Oper} {rest : List Oper} {Q : Exit → Act → World → Prop} {a : Act} {w : World} {d : Option Tmp} {s : Tmp} {ty : TypeId} {pos : String} {af : Array Edge} {gd : Option (Nat × Bool)} {g : Nat} {C : Array Value}
    (hw : Region.wanted { dst := d, op := .load 52 (.tmp s), type := ty, pos := pos, after := af, guard := gd } (yielded ops a.tmps) = true) (hx : a.eval (.tmp s) = .pointer (some ⟨g, 0, none⟩)) (hC : Blk w g 52 C) (h2 : C.size = 3)
    (h : wpList Tryd.prog ops Q rest (a.put d (.agg C)) w) : wpList Tryd.prog ops Q ({ dst := d, op := .load 52 (.tmp s), type := ty, pos := pos, after := af, guard := gd } :: rest) a w := by
  refine wpList_run hw ?_ h
  obtain ⟨fs, hu⟩ := undV
  unfold execOp
  simp only [hx, Instr.loadAt, Instr.sureAddr, Sem.run_bind, Sem.run_pure, Result.andThen_ok, run_loadVar_row w g _ 52 C (0, 0) _ hC hu rfl (by rw [infoV, h2])]
theorem Up.frozen {w w' : World} (hu : Up w w') {a : Addr} (h : a.block < w.heap.size) (hf : w.frozen? a = false) : w'.frozen? a = false := by
  rw [World.frozen?_of_block (hu.block a.block h)]; exact hf
theorem Up.cellEq {w w' : World} (hu : Up w w') {a : Addr} {v : Value} (h : w.cell? a = some v) : w'.cell? a = some v := by
  rw [World.cell?_of_block (hu.block a.block (lt_of_cell h))]; exact h
/-- What errors.as leaves behind. -/
def Told (t : Addr) (w : World) (r : Ending) (w' : World) : Option Int → Prop
  | none => r = .returned (.bool false) ∧ Up w w'
  | some m => r = .returned (.bool true) ∧ ∃ w1, Up w w1 ∧ w' = w1.setCell t (.int .i64 m)
set_option maxHeartbeats 8000000 in
theorem as_sz (t p0 : Addr) (old : Value) (k : Nat) : ∀ (e : Er), e.size ≤ k → ∀ (v : Value) (w : World), IsEr w v e → w.cell? p0 = some (.pointer (some t)) → w.cell? t = some old → w.frozen? t = false →
    Calls Tryd.prog 28 #[v, .iface 44 (.pointer (some t)), .agg #[.pointer (some ⟨4, 44, none⟩), .pointer (some p0), .int .u64 150], .iface 69 (.agg #[.pointer (some ⟨4, 27, none⟩)])] w fun r w' => Told t w r w' e.first := by
  induction k with
  | zero => intro e he; cases e <;> simp [Er.size] at he
  | succ k ih =>
    intro e he v w hE hp ht hf
    have h1 := noAsN
    have h2 := noAsF
    have h3 := noAsJ
    have h4 := noUnN
    have h5 := noUsN
    have h6 := hasUnF
    have h7 := noUnJ
    have h8 := hasUsJ
    have h9 := mUnF
    have hA := mUnJ
    have h31 := @run_callFunc_extern Tryd.prog 31 _ ReflectliteType.typeOf Tryd.func31 (by kernel_rfl) (by kernel_rfl) (by kernel_rfl) (by kernel_rfl)
    have h73 := @run_callFunc_extern Tryd.prog 73 _ (ReflectliteType.relation "AssignableTo" ReflectliteType.assignableTo) Tryd.func73 (by kernel_rfl) (by kernel_rfl) (by kernel_rfl) (by kernel_rfl)
    have h35 := @run_callFunc_extern Tryd.prog 35 _ (ReflectliteValue.method (ReflectliteValue.valueError "reflectlite.Value.Elem" 0) ReflectliteValue.elem) Tryd.func35 (by kernel_rfl) (by kernel_rfl) (by kernel_rfl) (by kernel_rfl)
    have h36 := @run_callFunc_extern Tryd.prog 36 _ ReflectliteValue.set Tryd.func36 (by kernel_rfl) (by kernel_rfl) (by kernel_rfl) (by kernel_rfl)
    have h25 := @run_callFunc_extern Tryd.prog 25 _ (fun args => ReflectliteValue.unpack (args.getD 0 (.tuple #[]))) Tryd.func25 (by kernel_rfl) (by kernel_rfl) (by kernel_rfl) (by kernel_rfl)
    have tN := typeOfN2
    have tF := typeOfF
    have tJ := typeOfJ
    have aN := assignN
    have aF := assignF
    have aJ := assignJ
    have mA := mAssignableTo
    have vN := valueOfN
    have IH := hid ih
    have hlp := lt_of_cell hp
    have hlt := lt_of_cell ht
    clear ih
    go_enter Tryd.func28, Tryd.ntmps28
    go_wp2_with fail
    obtain ⟨wb, hwb⟩ : ∃ wb, w.alloc (Obj.cells #[.pointer (some ⟨4, 44, none⟩), .pointer (some p0), .int .u64 150] 52) = wb := ⟨_, rfl⟩
    have hub : Up w wb := by rw [← hwb]; exact Up.alloc _ _
    have hbox : Blk wb w.heap.size 52 #[.pointer (some ⟨4, 44, none⟩), .pointer (some p0), .int .u64 150] := by rw [← hwb]; exact Blk.new _ _ rfl
    rw [hwb]
    clear hwb
    go_loopg [0] (k + 1) (fun g tv wr => ∃ x : Er, x.size ≤ g ∧ x.size ≤ k + 1 ∧ x.first = e.first ∧ IsEr w tv x ∧ wr = wb)
    case atStart => exact ⟨e, he, he, rfl, hE, rfl⟩
    case round =>
      obtain ⟨x, hx1, hx2, hx3, hX, hw0⟩ := hrel
      subst hw0
      have HX3 := hid hx3
      clear hx3 hE he
      cases x with
      | num m =>
        obtain rfl : _ = _ := hX
        have hq := hub.cellEq hp
        have el := elemVP p0 t wr hq
        have st := setN t ⟨wr.heap.size, 0, none⟩ m old (wr.alloc (.cells #[.int .i64 m] 27)) (by simp) ((hub.trans (Up.alloc _ _)).cellEq ht) ((hub.trans (Up.alloc _ _)).frozen hlt hf)
        have HF := hid (show e.first = some m from HX3.out.symm)
        clear hq
        go_wp2_with (first | ((with_reducible apply ldV); exact rfl; exact rfl; exact hbox; exact rfl))
        go_ret
        rw [HF.out]
        exact ⟨rfl, _, hub.trans (Up.alloc _ _), rfl⟩
      | nilf op =>
        obtain ⟨b, rfl, hB⟩ := hX
        have HU := hid (fun (w' : World) (h : Up wr w') => unwrap_flt ((hB.up hub).up h))
        have HF := hid (show e.first = none from HX3.out.symm)
        clear hB
        go_wp2_with (first | (go_at_call 16; (with_reducible refine (HU.out _ (Up.refl _)).mono ?_); rintro r w' ⟨rfl, rfl⟩))
        go_ret
        rw [HF.out]
        exact ⟨rfl, hub⟩
      | flt op y =>
        obtain ⟨b, u, rfl, hB, hY⟩ := hX
        obtain ⟨tu, uu, rfl⟩ := hY.iface
        have HU := hid (fun (w' : World) (h : Up wr w') => unwrap_flt ((hB.up hub).up h))
        have HY := hid hY
        have hs1 : y.size + 1 ≤ gk := hx1
        have hs2 : y.size + 1 ≤ k + 1 := hx2
        have HH := hid (show y.first = e.first from HX3.out)
        clear hY hB
        go_wp2_with (first | (go_at_call 16; (with_reducible refine (HU.out _ (Up.refl _)).mono ?_); rintro r w' ⟨rfl, rfl⟩))
        go_roundg (gk - 1)
        case measure => omega
        case rel => exact ⟨y, by omega, by omega, HH.out, HY.out, rfl⟩
      | two y z =>
        obtain ⟨b, g, c, u1, u2, rfl, hB, ⟨C, hC, hC0, hC1⟩, hY, hZ⟩ := hX
        obtain ⟨t1, v1, rfl⟩ := hY.iface
        obtain ⟨t2, v2, rfl⟩ := hZ.iface
        have HU := hid (fun (w' : World) (h : Up wr w') => unwrap_two ((hB.up hub).up h))
        have hc0 := (hC.up hub).cell 0 hC0
        have hs2 : y.size + z.size + 1 ≤ k + 1 := hx2
        have HH := hid (show (y.first <|> z.first) = e.first from HX3.out)
        have h1 := IH.out y (by omega) _ wr (hY.up hub) (hub.cellEq hp) (hub.cellEq ht) (hub.frozen hlt hf)
        have H2 := hid (fun (w' : World) (h : Up wr w') => IH.out z (by omega) _ w' ((hZ.up hub).up h) ((hub.trans h).cellEq hp) ((hub.trans h).cellEq ht) ((hub.trans h).frozen hlt hf))
        have HC1 := hid (fun (w' : World) (h : Up wr w') => ((hC.up hub).up h).cell 1 hC1)
        clear hY hZ hB hC hC0 hC1 IH
        cases hy : y.first with
        | some m =>
          rw [hy] at h1
          have H1 := hid h1
          have HF := hid (show e.first = some m by rw [← HH.out, hy]; rfl)
          clear h1 hy H2 HC1
          go_wp2_with (first | (go_at_call 71; (with_reducible refine (HU.out _ (Up.refl _)).mono ?_); rintro r w' ⟨rfl, rfl⟩))
          refine wp_loop_rounds 1 ?_
          rw [rounds_succ]
          go_wp2_with (first | ((with_reducible apply ldV); exact rfl; exact rfl; exact hbox; exact rfl) | (go_at_call 28; (with_reducible refine (H1.out).mono ?_); rintro r wA ⟨rfl, wB, huB, rfl⟩))
          go_ret
          rw [HF.out]
          exact ⟨rfl, _, hub.trans huB, rfl⟩
        | none =>
          rw [hy] at h1
          have H1 := hid h1
          have Hy := hid hy
          clear h1 hy
          cases hz : z.first with
          | some m =>
            have h2 := H2.out
            rw [hz] at h2
            have H2 := hid h2
            have HF := hid (show e.first = some m by rw [← HH.out, Hy.out, hz]; rfl)
            clear h2 hz
            go_wp2_with (first | (go_at_call 71; (with_reducible refine (HU.out _ (Up.refl _)).mono ?_); rintro r w' ⟨rfl, rfl⟩))
            refine wp_loop_rounds 2 ?_
            rw [rounds_succ]
            go_wp2_with (first | ((with_reducible apply ldV); exact rfl; exact rfl; exact hbox; exact rfl) | (go_at_call 28; (with_reducible refine (H1.out).mono ?_); rintro r wA ⟨rfl, huA⟩; have hc1 := HC1.out _ huA; have hbox2 := hbox.up huA))
            rw [rounds_succ]
            go_wp2_with (first | ((with_reducible apply ldV); exact rfl; exact rfl; exact hbox2; exact rfl) | (go_at_call 28; (with_reducible refine (H2.out _ huA).mono ?_); rintro r wB ⟨rfl, wC, huC, rfl⟩))
            go_ret
            rw [HF.out]
            exact ⟨rfl, _, (hub.trans huA).trans huC, rfl⟩
          | none =>
            have h2 := H2.out
            rw [hz] at h2
            have H2 := hid h2
            have HF := hid (show e.first = none by rw [← HH.out, Hy.out, hz]; rfl)
            clear h2 hz
            go_wp2_with (first | (go_at_call 71; (with_reducible refine (HU.out _ (Up.refl _)).mono ?_); rintro r w' ⟨rfl, rfl⟩))
            refine wp_loop_rounds 3 ?_
            rw [rounds_succ]
            go_wp2_with (first | ((with_reducible apply ldV); exact rfl; exact rfl; exact hbox; exact rfl) | (go_at_call 28; (with_reducible refine (H1.out).mono ?_); rintro r wA ⟨rfl, huA⟩; have hc1 := HC1.out _ huA; have hbox2 := hbox.up huA))
            rw [rounds_succ]
            go_wp2_with (first | ((with_reducible apply ldV); exact rfl; exact rfl; exact hbox2; exact rfl) | (go_at_call 28; (with_reducible refine (H2.out _ huA).mono ?_); rintro r wB ⟨rfl, huB⟩))
            rw [rounds_succ]
            go_wp2_with fail
            go_ret
            rw [HF.out]
            exact ⟨rfl, (hub.trans huA).trans huB⟩
end Go.Proofs.YtkhcegpmgejblaaDoor
