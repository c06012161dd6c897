/-
  fault.Text: what an error tells.
-/
import Derived.Test.YtkhcegpmgejblaaDoorEF
import Derived.Test.YtkhcegpmgejblaaDoorShelf
namespace Go.Proofs.YtkhcegpmgejblaaDoor
open Go Go.RowKit
set_option maxRecDepth 100000
set_option maxRecDepth 100000

theorem yu_value {P : Program} {v : Value} {w : World} {r : Result Next} (h : r = .ok (.value v) w) : LeavesU P v w r := by
  subst h; exact ⟨rfl, Up.refl _⟩
theorem yu_call {P : Program} {v : Value} {w : World} {r : Result Next} {f : FuncId} {args : Array Value} (h : r = .ok (.enter f args) w)
    (hc : Calls P f args w fun e w' => e = .returned v ∧ Up w w') : LeavesU P v w r := by
  subst h; exact ⟨Up.refl _, hc⟩
theorem mErrN (v : Value) (w : World) : (Go.method 231 27 v "Error").run Tryd.prog w = .ok (11, v) w := by kernel_rfl
theorem mErrF (v : Value) (w : World) : (Go.method 231 37 v "Error").run Tryd.prog w = .ok (66, v) w := by kernel_rfl
theorem cat (x y : ByteArray) (h : x.size + y.size < 9223372036854775808) (w : World) : (binOp .add 9 (.string x) (.string y)).run Tryd.prog w = .ok (.string (x ++ y)) w := by
  simp [binOp, go_sem]
  omega
def digits (i : Nat) : ByteArray := ⟨(Lib.decDigits i).toArray⟩
theorem digits_size {i : Nat} (h : i < 100) : (digits i).size < 3 := by
  unfold digits
  by_cases h1 : i < 10
  · rw [Lib.decDigits_one h1]; show 1 < 3; decide
  · rw [Lib.decDigits_two h1 h]; show 2 < 3; decide
def errs : ByteArray := { data := #[101, 114, 114, 32] }
def colon : ByteArray := { data := #[58, 32] }
def nils : ByteArray := { data := #[110, 105, 108] }
theorem errno_text (i : Nat) (hi : i < 100) (w : World) :
    Calls Tryd.prog 11 #[.int .i64 (i : Nat)] w fun r w' => r = .returned (.string (errs ++ digits i)) ∧ w' = w := by
  have H := hid (fun w => Tryd.strconv_Itoa_small i hi w)
  have hl := digits_size hi
  have hc : ¬ 9223372036854775807 < 4 + (Lib.decDigits i).length := by
    unfold digits at hl
    simp [ByteArray.size] at hl
    omega
  clear hl
  unfold errs digits
  have e1 : IntKind.i64.wrap (i : Int) = (i : Nat) := IntWalk.i64_in _ (by omega)
  go_enter Tryd.func11, Tryd.ntmps11
  go_wp2_with (first | (go_at_call 20; (with_reducible refine (H.out _).mono ?_); rintro r w' ⟨rfl, rfl⟩))
  go_ret
  exact ⟨rfl, rfl⟩
/-- What an error tells. (Of joined ones nothing is said.) -/
def Er.text : Er → ByteArray
  | .num n => errs ++ digits n.toNat
  | .nilf op => op ++ colon ++ nils
  | .flt op e => op ++ colon ++ e.text
  | .two _ _ => nils
/-- A chain of faults around a number from 0 to 99, or around none. -/
def Er.chain : Er → Prop
  | .num n => 0 ≤ n ∧ n < 100
  | .nilf _ => True
  | .flt _ e => e.chain
  | .two _ _ => False
theorem nil_text {b : Nat} {op : ByteArray} {w : World} (hB : Blk w b 39 #[.string op, .nilIface]) (hs : op.size < 4611686018427387904) :
    Calls Tryd.prog 66 #[.pointer (some ⟨b, 0, none⟩)] w fun r w' => r = .returned (.string (op ++ colon ++ nils)) ∧ Up w w' := by
  have h0 := hB.cell 0 rfl
  have h1 := hB.cell 1 rfl
  have c1 := cat op colon (by show _ + 2 < _; omega)
  have c2 := cat (op ++ colon) nils (by rw [ByteArray.size_append]; show _ + 2 + 3 < _; omega)
  unfold colon nils at *
  clear hB
  go_enter Tryd.func66, Tryd.ntmps66
  go_wp2_with fail
  go_ret
  exact ⟨rfl, Up.refl _⟩
theorem flt_text {b : Nat} {op : ByteArray} {t : TypeId} {u : Value} {s : ByteArray} {w : World} (hB : Blk w b 39 #[.string op, .iface t u]) (hs : op.size + s.size < 4611686018427387904)
    (hW : ∀ w', Up w w' → Calls Tryd.prog 19 #[.iface t u] w' fun r w'' => r = .returned (.string s) ∧ Up w' w'') :
    Calls Tryd.prog 66 #[.pointer (some ⟨b, 0, none⟩)] w fun r w' => r = .returned (.string (op ++ colon ++ s)) ∧ Up w w' := by
  have h0 := hB.cell 0 rfl
  have h1 := hB.cell 1 rfl
  have hR := Up.refl w
  have n1 : ¬ 9223372036854775807 < op.size + 2 := by omega
  have n2 : ¬ 9223372036854775807 < op.size + 2 + s.size := by omega
  have HW := hid hW
  unfold colon at *
  clear hB hW
  go_enter Tryd.func66, Tryd.ntmps66
  go_wp2_with fail
  refine wp_region_upS (S := (fun wq => wq.cell? ⟨b, 0, none⟩ = some (.string op) ∧ wq.cell? ⟨b, 1, none⟩ = some (.iface t u) ∧ Below w.heap.size w wq)) (req := (fun _ => true)) (by kernel_rfl) (fun _ _ h hu => ⟨hu.cell (h.1), hu.cell (h.2.1), below_up (h.2.2) hu⟩) ⟨(by first | assumption | (apply Blk.cell; (focus (repeat (first | assumption | ((with_reducible apply blk_new); (focus (first | rfl | (simp; done)))) | (with_reducible apply blk_alloc) | (with_reducible apply blk_drew) | (with_reducible apply blk_drewN) | ((with_reducible apply blk_up); assumption) | (with_reducible apply blk_same) | ((with_reducible apply blk_else); (focus (first | (simp; done) | (simp; omega) | omega)))))); exact rfl)), (by first | assumption | (apply Blk.cell; (focus (repeat (first | assumption | ((with_reducible apply blk_new); (focus (first | rfl | (simp; done)))) | (with_reducible apply blk_alloc) | (with_reducible apply blk_drew) | (with_reducible apply blk_drewN) | ((with_reducible apply blk_up); assumption) | (with_reducible apply blk_same) | ((with_reducible apply blk_else); (focus (first | (simp; done) | (simp; omega) | omega)))))); exact rfl)), (by repeat (first | assumption | (with_reducible apply Up.of) | (with_reducible exact Below.refl _ _) | (with_reducible exact Up.refl _) | ((with_reducible apply bl_setRow); (focus (first | exact Nat.le_refl _ | (simp; done) | (simp; omega) | omega))) | (with_reducible apply below_drewN) | (with_reducible apply Below.drew) | ((with_reducible apply bl_alloc); (focus (first | exact Nat.le_refl _ | (simp; done) | (simp; omega) | omega))) | ((with_reducible apply bl_setCell); (focus (first | exact Nat.le_refl _ | (simp; done) | (simp; omega) | omega))) | ((with_reducible apply up_tr); assumption)))⟩ (fun wS hSS => ?_)
  have ⟨hS1, hS2, hSB⟩ := hSS
  refine wpAnyU_pure (i := 0) (d := (some 16)) (v := ?_) rfl rfl (by kernel_rfl) (fun _ _ _ h => h) (fun _ _ h hu => ⟨hu.cell (h.1), hu.cell (h.2.1), below_up (h.2.2) hu⟩) (Or.inl ⟨by rfl, fun w' _ => yu_value ?_⟩) ?_
  rotate_left
  · (go_simp; (try exact rfl))
  try simp only [Act.put, List.setIfInBounds_toArray, List.set_cons_zero, List.set_cons_succ]
  refine wpAnyU_pure (i := 1) (d := (some 17)) (v := ?_) rfl rfl (by kernel_rfl) (fun _ _ _ h => h) (fun _ _ h hu => ⟨hu.cell (h.1), hu.cell (h.2.1), below_up (h.2.2) hu⟩) (Or.inl ⟨by rfl, fun w' _ => yu_value ?_⟩) ?_
  rotate_left
  · (go_simp; (try exact rfl))
  try simp only [Act.put, List.setIfInBounds_toArray, List.set_cons_zero, List.set_cons_succ]
  refine wpAnyU_pure (i := 2) (d := (some 18)) (v := ?_) rfl rfl (by kernel_rfl) (fun _ _ _ h => h) (fun _ _ h hu => ⟨hu.cell (h.1), hu.cell (h.2.1), below_up (h.2.2) hu⟩) (Or.inl ⟨by rfl, fun w' _ => yu_value ?_⟩) ?_
  rotate_left
  · (go_simp; (try exact rfl))
  try simp only [Act.put, List.setIfInBounds_toArray, List.set_cons_zero, List.set_cons_succ]
  refine wpAnyU_take (i := 3) (d := (some 19)) (v := ?_) rfl rfl (by kernel_rfl) (fun _ _ _ h => h) (fun _ _ h hu => ⟨hu.cell (h.1), hu.cell (h.2.1), below_up (h.2.2) hu⟩) hSS (Or.inl ⟨by rfl, fun w' hSw => yu_value ?_⟩) ?_
  rotate_left
  · ((try dsimp only at hSw); (try obtain ⟨_, _, _⟩ := hSw); go_simp; (try exact rfl))
  try simp only [Act.put, List.setIfInBounds_toArray, List.set_cons_zero, List.set_cons_succ]
  refine wpAnyU_pure (i := 4) (d := (some 20)) (v := ?_) rfl rfl (by kernel_rfl) (fun _ _ _ h => h) (fun _ _ h hu => ⟨hu.cell (h.1), hu.cell (h.2.1), below_up (h.2.2) hu⟩) (Or.inl ⟨by rfl, fun w' _ => yu_value ?_⟩) ?_
  rotate_left
  · (go_simp; (try exact rfl))
  try simp only [Act.put, List.setIfInBounds_toArray, List.set_cons_zero, List.set_cons_succ]
  refine wpAnyU_pure (i := 5) (d := (some 21)) (v := ?_) rfl rfl (by kernel_rfl) (fun _ _ _ h => h) (fun _ _ h hu => ⟨hu.cell (h.1), hu.cell (h.2.1), below_up (h.2.2) hu⟩) (Or.inl ⟨by rfl, fun w' _ => yu_value ?_⟩) ?_
  rotate_left
  · (go_simp; (try exact rfl))
  try simp only [Act.put, List.setIfInBounds_toArray, List.set_cons_zero, List.set_cons_succ]
  refine wpAnyU_pure (i := 6) (d := (some 22)) (v := ?_) rfl rfl (by kernel_rfl) (fun _ _ _ h => h) (fun _ _ h hu => ⟨hu.cell (h.1), hu.cell (h.2.1), below_up (h.2.2) hu⟩) (Or.inl ⟨by rfl, fun w' _ => yu_value ?_⟩) ?_
  rotate_left
  · (go_simp; (try exact rfl))
  try simp only [Act.put, List.setIfInBounds_toArray, List.set_cons_zero, List.set_cons_succ]
  refine wpAnyU_pure (i := 7) (d := (some 23)) (v := ?_) rfl rfl (by kernel_rfl) (fun _ _ _ h => h) (fun _ _ h hu => ⟨hu.cell (h.1), hu.cell (h.2.1), below_up (h.2.2) hu⟩) (Or.inl ⟨by rfl, fun w' _ => yu_value ?_⟩) ?_
  rotate_left
  · (go_simp; (try exact rfl))
  try simp only [Act.put, List.setIfInBounds_toArray, List.set_cons_zero, List.set_cons_succ]
  refine wpAnyU_take (i := 8) (d := (some 24)) (v := ?_) rfl rfl (by kernel_rfl) (fun _ _ _ h => h) (fun _ _ h hu => ⟨hu.cell (h.1), hu.cell (h.2.1), below_up (h.2.2) hu⟩) hSS (Or.inl ⟨by rfl, fun w' hSw => yu_value ?_⟩) ?_
  rotate_left
  · ((try dsimp only at hSw); (try obtain ⟨_, _, _⟩ := hSw); go_simp; (try exact rfl))
  try simp only [Act.put, List.setIfInBounds_toArray, List.set_cons_zero, List.set_cons_succ]
  refine wpAnyU_take (i := 9) (d := (some 25)) (v := _) rfl rfl (by kernel_rfl) (fun _ _ _ h => h) (fun _ _ h hu => ⟨hu.cell (h.1), hu.cell (h.2.1), below_up (h.2.2) hu⟩) hSS (Or.inl ⟨by rfl, fun w' hSw => yu_call ?_ (HW.out _ hSw.2.2)⟩) ?_
  · go_simp
  try simp only [Act.put, List.setIfInBounds_toArray, List.set_cons_zero, List.set_cons_succ]
  refine wpAnyU_pure (i := 10) (d := (some 26)) (v := ?_) rfl rfl (by kernel_rfl) (fun _ _ _ h => h) (fun _ _ h hu => ⟨hu.cell (h.1), hu.cell (h.2.1), below_up (h.2.2) hu⟩) (Or.inl ⟨by rfl, fun w' _ => yu_value ?_⟩) ?_
  rotate_left
  · (go_simp; (try exact rfl))
  try simp only [Act.put, List.setIfInBounds_toArray, List.set_cons_zero, List.set_cons_succ]
  refine wpAnyU_pure (i := 11) (d := (some 2)) (v := ?_) rfl rfl (by kernel_rfl) (fun _ _ _ h => h) (fun _ _ h hu => ⟨hu.cell (h.1), hu.cell (h.2.1), below_up (h.2.2) hu⟩) (Or.inl ⟨by rfl, fun w' _ => yu_value ?_⟩) ?_
  rotate_left
  · (go_simp; (try exact rfl))
  try simp only [Act.put, List.setIfInBounds_toArray, List.set_cons_zero, List.set_cons_succ]
  refine wpAnyU_done (by kernel_rfl) (fun wF huE => ?_) _
  have gU := below_up hSB huE
  clear hS1 hS2 hSB hSS huE
  go_wp2_with fail
  go_ret
  exact ⟨rfl, gU⟩
theorem Er.text_flt (op : ByteArray) (e : Er) : (Er.flt op e).text.size = op.size + 2 + e.text.size := by
  show (op ++ colon ++ e.text).size = _
  rw [ByteArray.size_append, ByteArray.size_append]
  rfl
theorem words_any {e : Er} (hch : e.chain) (hs : e.text.size < 4611686018427387904) : ∀ {v : Value} {w : World}, IsEr w v e →
    Calls Tryd.prog 19 #[v] w fun r w' => r = .returned (.string e.text) ∧ Up w w' := by
  induction e with
  | num n =>
    intro v w h
    obtain rfl : v = _ := h
    obtain ⟨i, rfl⟩ : ∃ i : Nat, n = i := ⟨n.toNat, by have := hch.1; omega⟩
    have hi : i < 100 := by have := hch.2; omega
    have H := hid (fun w => errno_text i hi w)
    have hm := mErrN
    show Calls _ _ _ _ fun r w' => r = .returned (.string (errs ++ digits i)) ∧ Up w w'
    clear hch hs
    go_enter_defers Tryd.func19, Tryd.ntmps19
    go_wp2_with (first | (go_at_call 11; (with_reducible refine (H.out _).mono ?_); rintro r w' ⟨rfl, rfl⟩))
    refine leaves_cons (f := 29) (args := #[]) (by simp) (by simp [go_sem]) ?_
    refine (idle_words _).mono ?_
    rintro e u' w'' ⟨rfl, rfl, rfl⟩
    exact ⟨_, results_tmp rfl _ _ _, rfl, Up.refl _⟩
  | nilf op =>
    intro v w h
    obtain ⟨b, rfl, hB⟩ := h
    have hso : op.size < 4611686018427387904 := by
      have h1 : (op ++ colon ++ nils).size < 4611686018427387904 := hs
      rw [ByteArray.size_append, ByteArray.size_append] at h1
      omega
    have H := hid (nil_text hB hso)
    have hm := mErrF
    show Calls _ _ _ _ fun r w' => r = .returned (.string (op ++ colon ++ nils)) ∧ Up w w'
    clear hch hs hB
    go_enter_defers Tryd.func19, Tryd.ntmps19
    go_wp2_with (first | (go_at_call 66; (with_reducible refine (H.out).mono ?_); rintro r w' ⟨rfl, hu⟩))
    refine leaves_cons (f := 29) (args := #[]) (by simp) (by simp [go_sem]) ?_
    refine (idle_words _).mono ?_
    rintro e u' w'' ⟨rfl, rfl, rfl⟩
    exact ⟨_, results_tmp rfl _ _ _, rfl, hu⟩
  | flt op e ih =>
    intro v w h
    obtain ⟨b, u, rfl, hB, hY⟩ := h
    obtain ⟨t, uu, rfl⟩ := hY.iface
    rw [Er.text_flt] at hs
    have H := hid (flt_text (s := e.text) hB (by omega) (fun w' hu => ih hch (by omega) (hY.up hu)))
    have hm := mErrF
    show Calls _ _ _ _ fun r w' => r = .returned (.string (op ++ colon ++ e.text)) ∧ Up w w'
    clear hch hs hB ih hY
    go_enter_defers Tryd.func19, Tryd.ntmps19
    go_wp2_with (first | (go_at_call 66; (with_reducible refine (H.out).mono ?_); rintro r w' ⟨rfl, hu⟩))
    refine leaves_cons (f := 29) (args := #[]) (by simp) (by simp [go_sem]) ?_
    refine (idle_words _).mono ?_
    rintro e u' w'' ⟨rfl, rfl, rfl⟩
    exact ⟨_, results_tmp rfl _ _ _, rfl, hu⟩
  | two x y _ _ => exact absurd hch (fun h => h)
theorem text_any {e : Er} {v : Value} {w : World} (h : IsEr w v e) (hch : e.chain) (hs : e.text.size < 4611686018427387904) :
    Calls Tryd.prog 10 #[v] w fun r w' => r = .returned (.string e.text) ∧ Up w w' := by
  obtain ⟨t, u, rfl⟩ := h.iface
  have H := hid (words_any hch hs h)
  clear h
  go_enter Tryd.func10, Tryd.ntmps10
  go_wp2_with (first | (go_at_call 19; (with_reducible refine (H.out).mono ?_); rintro r w' ⟨rfl, hu⟩))
  go_ret
  exact ⟨rfl, hu⟩
theorem text_nil (w : World) :
    Calls Tryd.prog 10 #[.nilIface] w fun r w' => r = .returned (.string { data := #[] }) ∧ Up w w' := by
  go_enter Tryd.func10, Tryd.ntmps10
  go_wp2_with fail
  go_ret
  exact ⟨rfl, Up.refl _⟩
end Go.Proofs.YtkhcegpmgejblaaDoor
