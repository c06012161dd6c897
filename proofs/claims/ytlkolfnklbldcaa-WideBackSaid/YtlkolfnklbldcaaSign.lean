/-
  wide: the sign, the amount, a number made of its amount and its sign; order; how many limbs; what is 64 bits wide.
-/
import Derived.Test.YtlkolfnklbldcaaAdd
import Derived.Deep.QuietTactic
import Derived.BigQuiet
import Derived.ChangeKeysEq
namespace Go.Proofs.Ytlkolfnklbldcaa
open Go Go.RowKit
set_option maxRecDepth 100000

theorem minus_z {z : Int} (h : InR z) (w : World) :
    Calls Try.prog 41 #[wideV (enc z)] w fun e w' => e = .returned (.bool (decide (z < 0))) ∧ Up w w' := by
  refine (minus_any (enc z) w).mono ?_
  rintro e w' ⟨rfl, hu⟩
  refine ⟨ret_bool ?_, hu⟩
  rw [Bool.eq_iff_iff, decide_eq_true_iff, decide_eq_true_iff, top_iff (enc_lt z), enc_neg_iff h]
theorem less_z (a b : Int) (w : World) :
    Calls Try.prog 42 #[wideV (enc a), wideV (enc b)] w fun e w' => e = .returned (wideV (enc (a - b))) ∧ Up w w' := by
  refine (less_any (enc a) (enc b) (enc_lt a) (enc_lt b) w).mono ?_
  rintro e w' ⟨rfl, hu⟩
  exact ⟨by rw [enc_sub], hu⟩
theorem plus_z (a b : Int) (w : World) :
    Calls Try.prog 40 #[wideV (enc a), wideV (enc b)] w fun e w' => e = .returned (wideV (enc (a + b))) ∧ Up w w' := by
  refine (plus_any (enc a) (enc b) w).mono ?_
  rintro e w' ⟨rfl, hu⟩
  exact ⟨by rw [enc_add], hu⟩
theorem zero_limb : cells 16 (fun _ => 0) = cells 16 (limb (enc 0)) := by
  rw [enc_zero]
  exact cells_congr fun i _ => by unfold limb; simp
theorem zeroV : wideV (enc 0) = .agg #[.int .u64 0, .int .u64 0, .int .u64 0, .int .u64 0, .int .u64 0, .int .u64 0, .int .u64 0, .int .u64 0, .int .u64 0, .int .u64 0, .int .u64 0, .int .u64 0, .int .u64 0, .int .u64 0, .int .u64 0, .int .u64 0] := by
  rw [zeros16, zero_limb, wideV]
/-- 'less' of nought, as the program writes it. -/
theorem neg_z (b : Int) (w : World) :
    Calls Try.prog 42 #[.agg #[.int .u64 0, .int .u64 0, .int .u64 0, .int .u64 0, .int .u64 0, .int .u64 0, .int .u64 0, .int .u64 0, .int .u64 0, .int .u64 0, .int .u64 0, .int .u64 0, .int .u64 0, .int .u64 0, .int .u64 0, .int .u64 0], .agg (cells 16 (limb (enc b)))] w
      fun e w' => e = .returned (wideV (enc (-b))) ∧ Up w w' := by
  have h := less_z 0 b w
  rw [zeroV, Int.zero_sub] at h
  exact h
theorem neg_abs {z : Int} (h : InR z) (hs : z < 0) : enc (-z) = z.natAbs := by
  have h1 := enc_neg h hs
  have h2 := enc_lt z
  have h4 := hb_pos
  have h5 := enc_natAbs h
  have h3 : (enc 0 + bp 16 - enc z) % bp 16 = enc (0 - z) := enc_sub 0 z
  rw [Int.zero_sub] at h3
  rw [← h3, enc_zero, Nat.zero_add, Nat.mod_eq_of_lt (by omega), h1.1]
  omega
theorem und64 : Try.prog.underlying 25 = some (.int .u64) := by kernel_rfl
theorem run_part64 (f : Nat → Nat) (n i : Nat) (h : i < n) (w : World) : (part 25 (cells n f) i).run Try.prog w = .ok (.int .u64 (f i : Nat)) w := by
  have := cells_get n f i h
  simp [part, this]
theorem run_eqItems (f g : Nat → Nat) (n d : Nat) (w : World) : ∀ is : List Nat, (∀ i ∈ is, i < n) →
    (Op.eqItems (d + 1) 25 1 (cells n f) (cells n g) is).run Try.prog w = .ok (decide (∀ i ∈ is, f i = g i)) w
  | [], _ => by simp [Op.eqItems]
  | i :: is, h => by
    have h1 := run_part64 f n i (h i (by simp)) w
    have h2 := run_part64 g n i (h i (by simp)) w
    have h3 := run_equalIn_int (P := Try.prog) w d 25 .u64 .u64 (f i : Nat) (g i : Nat) und64
    have ih := run_eqItems f g n d w is fun j hj => h j (by simp [hj])
    rw [Op.eqItems]
    simp only [Nat.mul_one, Sem.run_bind, h1, h2, h3, Result.andThen_ok]
    by_cases e : f i = g i
    · have : (!((f i : Int) == (g i : Int))) = false := by simp [e]
      simp only [this, Bool.false_eq_true, if_false, ih]
      congr 1
      simp [e]
    · have : (!((f i : Int) == (g i : Int))) = true := by simp; omega
      simp only [this, if_true, Sem.run_pure]
      congr 1
      symm
      rw [decide_eq_false_iff_not]
      intro h; exact e (h i (by simp))
theorem limb_eq_iff {x y : Nat} (hx : x < bp 16) (hy : y < bp 16) : (∀ i ∈ List.range 16, limb x i = limb y i) ↔ x = y := by
  constructor
  · intro h
    rw [← Nat.mod_eq_of_lt hx, ← Nat.mod_eq_of_lt hy, ← sumL_limb, ← sumL_limb]
    exact sumL_congr fun i hi => h i (by simpa using hi)
  · intro h i _; rw [h]
theorem run_equalW {x y : Nat} (hx : x < bp 16) (hy : y < bp 16) (w : World) : (Op.equal 27 (.agg (cells 16 (limb x))) (.agg (cells 16 (limb y)))).run Try.prog w = .ok (decide (x = y)) w := by
  obtain ⟨i, hi⟩ := Option.isSome_iff_exists.1 (show (Try.prog.info? 25).isSome = true by kernel_rfl)
  have hc : Try.prog.cellsOf 25 = 1 := by kernel_rfl
  unfold Op.equal
  rw [show Op.maxDepth = 9998 + 1 + 1 from rfl, run_equalIn_array w (9998 + 1) _ _ undW hi, hc, run_eqItems (limb x) (limb y) 16 9998 w (List.range 16) (by simp)]
  congr 1
  rw [Bool.eq_iff_iff, decide_eq_true_iff, decide_eq_true_iff, limb_eq_iff hx hy]
theorem run_eqW {x y : Nat} (hx : x < bp 16) (hy : y < bp 16) (w : World) : (binOp .eql 27 (.agg (cells 16 (limb x))) (.agg (cells 16 (limb y)))).run Try.prog w = .ok (.bool (decide (x = y))) w := by
  simp only [binOp, Sem.run_bind, run_equalW hx hy, Result.andThen_ok, Sem.run_pure]
theorem run_neW {x y : Nat} (hx : x < bp 16) (hy : y < bp 16) (w : World) : (binOp .neq 27 (.agg (cells 16 (limb x))) (.agg (cells 16 (limb y)))).run Try.prog w = .ok (.bool (!decide (x = y))) w := by
  simp only [binOp, Sem.run_bind, run_equalW hx hy, Result.andThen_ok, Sem.run_pure]
theorem op_eqW {o : Oper} {a : Act} {x y : Operand} {u : TypeId} (ho : o.op = .binOp .eql 27 x y u) {p q : Nat} (hx : a.eval x = .agg (cells 16 (limb p))) (hy : a.eval y = .agg (cells 16 (limb q))) (hp : p < bp 16) (hq : q < bp 16) (w : World) :
    (execOp a.eval o).run Try.prog w = .ok (.value (.bool (decide (p = q)))) w := by
  unfold execOp
  simp only [ho, hx, hy, Sem.run_bind, run_eqGuard_agg _ _ _ _ _ _ _ (show Try.prog.eqGuardType Try.prog.depth 27 = false by kernel_rfl), Result.andThen_ok, run_eqW hp hq, Sem.run_pure]
theorem op_neW {o : Oper} {a : Act} {x y : Operand} {u : TypeId} (ho : o.op = .binOp .neq 27 x y u) {p q : Nat} (hx : a.eval x = .agg (cells 16 (limb p))) (hy : a.eval y = .agg (cells 16 (limb q))) (hp : p < bp 16) (hq : q < bp 16) (w : World) :
    (execOp a.eval o).run Try.prog w = .ok (.value (.bool (!decide (p = q)))) w := by
  unfold execOp
  simp only [ho, hx, hy, Sem.run_bind, run_eqGuard_agg _ _ _ _ _ _ _ (show Try.prog.eqGuardType Try.prog.depth 27 = false by kernel_rfl), Result.andThen_ok, run_neW hp hq, Sem.run_pure]
/-- What a test is known to tell. -/
def IsB (b v : Bool) : Prop := b = v
theorem eqP {ops : Array Oper} {rest : List Oper} {Q : Exit → Act → World → Prop} {a : Act} {w : World} {d : Option Tmp} {s r : Tmp} {u ty : TypeId} {pos : String} {af : Array Edge} {gd : Option (Nat × Bool)} {p q : Nat}
    (hw : Region.wanted { dst := d, op := .binOp .eql 27 (.tmp s) (.tmp r) u, type := ty, pos := pos, after := af, guard := gd } (yielded ops a.tmps) = true) (hx : a.eval (.tmp s) = .agg (cells 16 (limb p))) (hy : a.eval (.tmp r) = .agg (cells 16 (limb q))) (hp : p < bp 16) (hq : q < bp 16) {v : Bool} (hv : IsB (decide (p = q)) v)
    (h : wpList Try.prog ops Q rest (a.put d (.bool (v))) w) : wpList Try.prog ops Q ({ dst := d, op := .binOp .eql 27 (.tmp s) (.tmp r) u, type := ty, pos := pos, after := af, guard := gd } :: rest) a w := wpList_run hw (op_eqW rfl hx hy hp hq w) (by rw [show decide (p = q) = v from hv]; exact h)
theorem eqZP {ops : Array Oper} {rest : List Oper} {Q : Exit → Act → World → Prop} {a : Act} {w : World} {d : Option Tmp} {s r : Tmp} {u ty : TypeId} {pos : String} {af : Array Edge} {gd : Option (Nat × Bool)} {p : Nat}
    (hw : Region.wanted { dst := d, op := .binOp .eql 27 (.tmp s) (.tmp r) u, type := ty, pos := pos, after := af, guard := gd } (yielded ops a.tmps) = true) (hx : a.eval (.tmp s) = .agg (cells 16 (limb p))) (hy : a.eval (.tmp r) = .agg #[.int .u64 0, .int .u64 0, .int .u64 0, .int .u64 0, .int .u64 0, .int .u64 0, .int .u64 0, .int .u64 0, .int .u64 0, .int .u64 0, .int .u64 0, .int .u64 0, .int .u64 0, .int .u64 0, .int .u64 0, .int .u64 0]) (hp : p < bp 16) {v : Bool} (hv : IsB (decide (p = 0)) v)
    (h : wpList Try.prog ops Q rest (a.put d (.bool (v))) w) : wpList Try.prog ops Q ({ dst := d, op := .binOp .eql 27 (.tmp s) (.tmp r) u, type := ty, pos := pos, after := af, guard := gd } :: rest) a w :=
  wpList_run hw (op_eqW rfl hx (by rw [hy, zeros16, zero_limb, enc_zero]) hp (bp_pos 16) w) (by rw [show decide (p = 0) = v from hv]; exact h)
theorem neP {ops : Array Oper} {rest : List Oper} {Q : Exit → Act → World → Prop} {a : Act} {w : World} {d : Option Tmp} {s r : Tmp} {u ty : TypeId} {pos : String} {af : Array Edge} {gd : Option (Nat × Bool)} {p q : Nat}
    (hw : Region.wanted { dst := d, op := .binOp .neq 27 (.tmp s) (.tmp r) u, type := ty, pos := pos, after := af, guard := gd } (yielded ops a.tmps) = true) (hx : a.eval (.tmp s) = .agg (cells 16 (limb p))) (hy : a.eval (.tmp r) = .agg (cells 16 (limb q))) (hp : p < bp 16) (hq : q < bp 16) {v : Bool} (hv : IsB (decide (p = q)) v)
    (h : wpList Try.prog ops Q rest (a.put d (.bool (!v))) w) : wpList Try.prog ops Q ({ dst := d, op := .binOp .neq 27 (.tmp s) (.tmp r) u, type := ty, pos := pos, after := af, guard := gd } :: rest) a w := wpList_run hw (op_neW rfl hx hy hp hq w) (by rw [show decide (p = q) = v from hv]; exact h)
theorem neZP {ops : Array Oper} {rest : List Oper} {Q : Exit → Act → World → Prop} {a : Act} {w : World} {d : Option Tmp} {s r : Tmp} {u ty : TypeId} {pos : String} {af : Array Edge} {gd : Option (Nat × Bool)} {p : Nat}
    (hw : Region.wanted { dst := d, op := .binOp .neq 27 (.tmp s) (.tmp r) u, type := ty, pos := pos, after := af, guard := gd } (yielded ops a.tmps) = true) (hx : a.eval (.tmp s) = .agg (cells 16 (limb p))) (hy : a.eval (.tmp r) = .agg #[.int .u64 0, .int .u64 0, .int .u64 0, .int .u64 0, .int .u64 0, .int .u64 0, .int .u64 0, .int .u64 0, .int .u64 0, .int .u64 0, .int .u64 0, .int .u64 0, .int .u64 0, .int .u64 0, .int .u64 0, .int .u64 0]) (hp : p < bp 16) {v : Bool} (hv : IsB (decide (p = 0)) v)
    (h : wpList Try.prog ops Q rest (a.put d (.bool (!v))) w) : wpList Try.prog ops Q ({ dst := d, op := .binOp .neq 27 (.tmp s) (.tmp r) u, type := ty, pos := pos, after := af, guard := gd } :: rest) a w :=
  wpList_run hw (op_neW rfl hx (by rw [hy, zeros16, zero_limb, enc_zero]) hp (bp_pos 16) w) (by rw [show decide (p = 0) = v from hv]; exact h)
set_option maxHeartbeats 400000 in
theorem amount_z {z : Int} (hz : InR z) (w : World) :
    Calls Try.prog 44 #[wideV (enc z)] w fun e w' => e = .returned (wideV z.natAbs) ∧ Up w w' := by
  by_cases hs : z < 0
  · have e := neg_abs hz hs
    rw [← e]
    clear e
    have hdec : decide (z < 0) = true := by simpa using hs
    unfold wideV at *
    go_enter Try.func44, Try.ntmps44
    go_wp2_with (first | ((with_reducible apply ld_rowP undW infoW); exact rfl; exact rfl; focus (repeat (first | assumption | ((with_reducible apply row_newc); (focus (first | rfl | (simp; done)))) | ((with_reducible apply row_newz); (focus (first | rfl | (simp; done)))) | (with_reducible apply row_same) | ((with_reducible apply row_else); (focus (first | (simp; done) | (simp; omega) | omega))) | (with_reducible apply row_alloc) | (with_reducible apply row_drew) | (with_reducible apply row_drewN) | ((with_reducible apply row_up); assumption)))) | ((with_reducible apply st_rowP infoW); exact rfl; exact rfl; focus (repeat (first | assumption | ((with_reducible apply row_newc); (focus (first | rfl | (simp; done)))) | ((with_reducible apply row_newz); (focus (first | rfl | (simp; done)))) | (with_reducible apply row_same) | ((with_reducible apply row_else); (focus (first | (simp; done) | (simp; omega) | omega))) | (with_reducible apply row_alloc) | (with_reducible apply row_drew) | (with_reducible apply row_drewN) | ((with_reducible apply row_up); assumption)))) | ((with_reducible apply st_rowZ infoW); exact rfl; exact rfl; focus (repeat (first | assumption | ((with_reducible apply row_newc); (focus (first | rfl | (simp; done)))) | ((with_reducible apply row_newz); (focus (first | rfl | (simp; done)))) | (with_reducible apply row_same) | ((with_reducible apply row_else); (focus (first | (simp; done) | (simp; omega) | omega))) | (with_reducible apply row_alloc) | (with_reducible apply row_drew) | (with_reducible apply row_drewN) | ((with_reducible apply row_up); assumption)))) | (go_at_call 41; refine (minus_z hz _).mono ?_; rintro e w' ⟨rfl, hu⟩) | (go_at_call 42; refine (neg_z z _).mono ?_; rintro e w' ⟨rfl, hu⟩))
    exact bodyPost_ret (res1 rfl undW infoW _ _ rfl (by (repeat (first | assumption | ((with_reducible apply row_newc); (focus (first | rfl | (simp; done)))) | ((with_reducible apply row_newz); (focus (first | rfl | (simp; done)))) | (with_reducible apply row_same) | ((with_reducible apply row_else); (focus (first | (simp; done) | (simp; omega) | omega))) | (with_reducible apply row_alloc) | (with_reducible apply row_drew) | (with_reducible apply row_drewN) | ((with_reducible apply row_up); assumption))))) rfl ⟨rfl, (by repeat (first | assumption | (with_reducible apply Up.of) | (with_reducible exact Below.refl _ _) | (with_reducible exact Up.refl _) | ((with_reducible apply bl_setRow); (focus (first | exact Nat.le_refl _ | (simp; done) | (simp; omega) | omega))) | (with_reducible apply below_drewN) | (with_reducible apply Below.drew) | ((with_reducible apply bl_alloc); (focus (first | exact Nat.le_refl _ | (simp; done) | (simp; omega) | omega))) | ((with_reducible apply bl_setCell); (focus (first | exact Nat.le_refl _ | (simp; done) | (simp; omega) | omega))) | ((with_reducible apply up_tr); assumption)))⟩
  · have e : enc z = z.natAbs := (enc_nn hz (by omega)).1
    rw [← e]
    clear e
    have hdec : decide (z < 0) = false := by simpa using hs
    unfold wideV at *
    go_enter Try.func44, Try.ntmps44
    go_wp2_with (first | ((with_reducible apply ld_rowP undW infoW); exact rfl; exact rfl; focus (repeat (first | assumption | ((with_reducible apply row_newc); (focus (first | rfl | (simp; done)))) | ((with_reducible apply row_newz); (focus (first | rfl | (simp; done)))) | (with_reducible apply row_same) | ((with_reducible apply row_else); (focus (first | (simp; done) | (simp; omega) | omega))) | (with_reducible apply row_alloc) | (with_reducible apply row_drew) | (with_reducible apply row_drewN) | ((with_reducible apply row_up); assumption)))) | ((with_reducible apply st_rowP infoW); exact rfl; exact rfl; focus (repeat (first | assumption | ((with_reducible apply row_newc); (focus (first | rfl | (simp; done)))) | ((with_reducible apply row_newz); (focus (first | rfl | (simp; done)))) | (with_reducible apply row_same) | ((with_reducible apply row_else); (focus (first | (simp; done) | (simp; omega) | omega))) | (with_reducible apply row_alloc) | (with_reducible apply row_drew) | (with_reducible apply row_drewN) | ((with_reducible apply row_up); assumption)))) | ((with_reducible apply st_rowZ infoW); exact rfl; exact rfl; focus (repeat (first | assumption | ((with_reducible apply row_newc); (focus (first | rfl | (simp; done)))) | ((with_reducible apply row_newz); (focus (first | rfl | (simp; done)))) | (with_reducible apply row_same) | ((with_reducible apply row_else); (focus (first | (simp; done) | (simp; omega) | omega))) | (with_reducible apply row_alloc) | (with_reducible apply row_drew) | (with_reducible apply row_drewN) | ((with_reducible apply row_up); assumption)))) | (go_at_call 41; refine (minus_z hz _).mono ?_; rintro e w' ⟨rfl, hu⟩))
    exact bodyPost_ret (res1 rfl undW infoW _ _ rfl (by (repeat (first | assumption | ((with_reducible apply row_newc); (focus (first | rfl | (simp; done)))) | ((with_reducible apply row_newz); (focus (first | rfl | (simp; done)))) | (with_reducible apply row_same) | ((with_reducible apply row_else); (focus (first | (simp; done) | (simp; omega) | omega))) | (with_reducible apply row_alloc) | (with_reducible apply row_drew) | (with_reducible apply row_drewN) | ((with_reducible apply row_up); assumption))))) rfl ⟨rfl, (by repeat (first | assumption | (with_reducible apply Up.of) | (with_reducible exact Below.refl _ _) | (with_reducible exact Up.refl _) | ((with_reducible apply bl_setRow); (focus (first | exact Nat.le_refl _ | (simp; done) | (simp; omega) | omega))) | (with_reducible apply below_drewN) | (with_reducible apply Below.drew) | ((with_reducible apply bl_alloc); (focus (first | exact Nat.le_refl _ | (simp; done) | (simp; omega) | omega))) | ((with_reducible apply bl_setCell); (focus (first | exact Nat.le_refl _ | (simp; done) | (simp; omega) | omega))) | ((with_reducible apply up_tr); assumption)))⟩
end Go.Proofs.Ytlkolfnklbldcaa
