/-
  FxSquares: a square's root is its number, and one less's the one below.
-/
import Derived.Test.YtiocolbaencbkaaRefM
import Derived.Test.YtiocolbaencbkaaSums
namespace Go.Proofs.Ytiocolbaencbkaa
open Go Go.RowKit
set_option maxRecDepth 100000

theorem run_ld_limb {o : Oper} {a : Act} {w : World} {x : Operand} {g i n : Nat} {t : TypeId} {f : Nat → Nat} (ho : o.op = .load 25 x) (hx : a.eval x = .pointer (some ⟨g, i, none⟩)) (hC : Row w g t n f) (hi : i < n) : (execOp a.eval o).run Try.prog w = .ok (.value (.int .u64 (f i : Nat))) w := by
  have hc := hC.cell i hi
  unfold execOp
  simp only [ho, hx]
  go_simp
theorem ld_limbP {ops : Array Oper} {rest : List Oper} {Q : Exit → Act → World → Prop} {a : Act} {w : World} {d : Option Tmp} {s : Tmp} {ty : TypeId} {pos : String} {af : Array Edge} {gd : Option (Nat × Bool)} {g i n : Nat} {t : TypeId} {f : Nat → Nat}
    (hw : Region.wanted { dst := d, op := .load 25 (.tmp s), type := ty, pos := pos, after := af, guard := gd } (yielded ops a.tmps) = true) (hx : a.eval (.tmp s) = .pointer (some ⟨g, i, none⟩)) (hC : Row w g t n f) (hi : i < n)
    (h : wpList Try.prog ops Q rest (a.put d (.int .u64 (f i : Nat))) w) : wpList Try.prog ops Q ({ dst := d, op := .load 25 (.tmp s), type := ty, pos := pos, after := af, guard := gd } :: rest) a w :=
  wpList_run hw (run_ld_limb rfl hx hC hi) h
theorem lit_one {u : Nat} (h : u < 18446744073709551616) : (#[.int .u64 u, .int .u64 0, .int .u64 0, .int .u64 0, .int .u64 0, .int .u64 0, .int .u64 0, .int .u64 0, .int .u64 0, .int .u64 0, .int .u64 0, .int .u64 0, .int .u64 0, .int .u64 0, .int .u64 0, .int .u64 0] : Array Value) = cells 16 (limb u) := by
  rw [cells_congr (g := upd (fun _ => 0) 0 u) (fun i _ => by
    unfold upd
    split
    · next e => subst e; rw [limb0, Nat.mod_eq_of_lt h]
    · exact limb_of_small (k := 1) (by rw [bp_succ, bp_zero]; omega) (by omega))]
  unfold cells
  rfl
theorem from_one {u : Nat} (h : u < 18446744073709551616) (w : World) :
    Calls Try.prog 19 #[.agg #[.int .u64 u, .int .u64 0, .int .u64 0, .int .u64 0, .int .u64 0, .int .u64 0, .int .u64 0, .int .u64 0, .int .u64 0, .int .u64 0, .int .u64 0, .int .u64 0, .int .u64 0, .int .u64 0, .int .u64 0, .int .u64 0]] w fun e w' => Up w w' ∧ ∃ v, e = .returned v ∧ Big w' v (u : Nat) := by
  have h1 := from_wide (z := (u : Nat)) (InR.mk' (by have := hb_deep; omega)) w
  rw [enc_nat (small_lt h)] at h1
  unfold wideV at h1
  rw [lit_one h]
  exact h1
set_option maxHeartbeats 2000000 in
theorem squares_w (v u : Nat) (hv : v < 4294967296) (hu : u < 18446744073709551616) (w : World) :
    Calls Try.prog 13 #[.int .u32 v, .int .u64 u] w fun e w' => e = .returned (.bool true) ∧ Up w w' := by
  have HK := hid known2_true
  have hvv : v * v ≤ 4294967295 * 4294967295 := Nat.mul_le_mul (by omega) (by omega)
  have huu : u * u ≤ 18446744073709551615 * 18446744073709551615 := Nat.mul_le_mul (by omega) (by omega)
  have hv1 : (v + 1) * (v + 1) = v * v + 2 * v + 1 := by grind
  have hu1 : (u + 1) * (u + 1) = u * u + 2 * u + 1 := by grind
  have HS := hid (fun w => fx_sqrt (v * v) v (by omega) (Nat.le_refl _) (by omega) w)
  have hT : 0 < v → ∀ w, Calls Try.prog 53 #[.int .u64 (v * v - 1 : Nat)] w fun e w' => e = .returned (.int .u32 (v - 1 : Nat)) ∧ Up w w' := fun h w => by
    obtain ⟨k, rfl⟩ : ∃ k, v = k + 1 := ⟨v - 1, by omega⟩
    have hk : (k + 1) * (k + 1) = k * k + 2 * k + 1 := by grind
    exact fx_sqrt _ _ (by omega) (by rw [Nat.add_sub_cancel]; omega) (by rw [Nat.add_sub_cancel]; omega) w
  have e1 : IntKind.u64.wrap ((v : Int) * v) = ((v * v : Nat) : Int) := by
    rw [IntKind.wrap_u64, ← Int.natCast_mul]
    generalize v * v = p at *
    omega
  have e2 : 0 < v → IntKind.u64.wrap (((v * v : Nat) : Int) - 1) = ((v * v - 1 : Nat) : Int) := fun h => by
    have : 1 * 1 ≤ v * v := Nat.mul_le_mul h h
    rw [IntKind.wrap_u64]
    generalize v * v = p at *
    omega
  have e3 : 0 < v → IntKind.u32.wrap ((v : Int) - 1) = ((v - 1 : Nat) : Int) := fun h => by rw [IntKind.wrap_u32]; omega
  have HF := hid (fun w => from_one hu w)
  have nu : nl ((u : Nat) : Int).natAbs < 50000 := by
    have := nl_le (x := u) (k := 1) (by rw [bp_succ, bp_zero]; omega)
    rw [Int.natAbs_natCast]
    omega
  have hE : ((u : Nat) : Int) * (u : Nat) = ((u * u : Nat) : Int) := by rw [Int.natCast_mul]
  have hEb : (((u : Nat) : Int) * (u : Nat)).natAbs < hb := by
    rw [hE, Int.natAbs_natCast]
    have := hb_deep
    generalize u * u = q at *
    omega
  have hlim : 18446744073709551616 * limb (u * u) 1 + limb (u * u) 0 = u * u := by
    have h1 := sumL_limb (u * u) 2
    rw [sumL_succ, sumL_succ, sumL_zero, bp_succ, bp_zero, bp_succ, bp_succ, bp_zero] at h1
    generalize limb (u * u) 1 = p at *
    generalize limb (u * u) 0 = q at *
    generalize u * u = r at *
    omega
  have HR := hid (fun w => fx_root (limb (u * u) 1) (limb (u * u) 0) u (limb_lt _ _) (limb_lt _ _) (by omega) (by omega) w)
  have hto : ∀ (x : Value) (w : World), Big w x (((u : Nat) : Int) * (u : Nat)) → Calls Try.prog 38 #[x] w fun e w' => e = .returned (.tuple #[.agg (cells 16 (limb (u * u))), .bool true]) ∧ Up w w' := fun x w h => by
    have h1 := to_small h hEb
    rw [opt_yes (InR.mk' (by omega)), hE, enc_nat (by have := hb_deep; have := bp16; generalize u * u = q at *; omega)] at h1
    exact h1
  have HTo := hid hto
  clear hvv huu hv1 hu1 hto hlim hE hEb
  generalize limb (u * u) = f at *
  by_cases h0 : 0 < v
  · have HT := hid (hT h0)
    have e2' := e2 h0
    have e3' := e3 h0
    have d0 : decide ((0 : Int) < v) = true := decide_eq_true (by omega)
    generalize v * v - 1 = s1 at *
    generalize v - 1 = r1 at *
    generalize v * v = s at *
    clear hT e2 e3
    go_enter Try.func13, Try.ntmps13
    go_wp2_with (first | ((with_reducible apply ldB_P); exact rfl; exact rfl; (focus (repeat (first | assumption | ((with_reducible apply blk_new); (focus (first | rfl | (simp; done)))) | (with_reducible apply blk_alloc) | (with_reducible apply blk_drew) | (with_reducible apply blk_drewN) | ((with_reducible apply blk_up); assumption) | (with_reducible apply blk_same) | ((with_reducible apply blk_else); (focus (first | (simp; done) | (simp; omega) | omega)))))); exact rfl) | ((with_reducible apply ld_rowP undW infoW); exact rfl; exact rfl; focus (repeat (first | assumption | ((with_reducible apply row_newc); (focus (first | rfl | (simp; done)))) | ((with_reducible apply row_newz); (focus (first | rfl | (simp; done)))) | (with_reducible apply row_same) | ((with_reducible apply row_else); (focus (first | (simp; done) | (simp; omega) | omega))) | (with_reducible apply row_alloc) | (with_reducible apply row_drew) | (with_reducible apply row_drewN) | ((with_reducible apply row_up); assumption)))) | ((with_reducible apply ld_limbP); exact rfl; exact rfl; (focus (repeat (first | assumption | ((with_reducible apply row_newc); (focus (first | rfl | (simp; done)))) | ((with_reducible apply row_newz); (focus (first | rfl | (simp; done)))) | (with_reducible apply row_same) | ((with_reducible apply row_else); (focus (first | (simp; done) | (simp; omega) | omega))) | (with_reducible apply row_alloc) | (with_reducible apply row_drew) | (with_reducible apply row_drewN) | ((with_reducible apply row_up); assumption)))); omega) | ((with_reducible apply stB_P); exact rfl; exact rfl; (focus (repeat (first | assumption | ((with_reducible apply blk_new); (focus (first | rfl | (simp; done)))) | (with_reducible apply blk_alloc) | (with_reducible apply blk_drew) | (with_reducible apply blk_drewN) | ((with_reducible apply blk_up); assumption) | (with_reducible apply blk_same) | ((with_reducible apply blk_else); (focus (first | (simp; done) | (simp; omega) | omega)))))); exact rfl; exact rfl; exact one2 _ _ _ _) | ((with_reducible apply st_rowP infoW); exact rfl; exact rfl; focus (repeat (first | assumption | ((with_reducible apply row_newc); (focus (first | rfl | (simp; done)))) | ((with_reducible apply row_newz); (focus (first | rfl | (simp; done)))) | (with_reducible apply row_same) | ((with_reducible apply row_else); (focus (first | (simp; done) | (simp; omega) | omega))) | (with_reducible apply row_alloc) | (with_reducible apply row_drew) | (with_reducible apply row_drewN) | ((with_reducible apply row_up); assumption)))) | ((with_reducible apply st_rowZ infoW); exact rfl; exact rfl; focus (repeat (first | assumption | ((with_reducible apply row_newc); (focus (first | rfl | (simp; done)))) | ((with_reducible apply row_newz); (focus (first | rfl | (simp; done)))) | (with_reducible apply row_same) | ((with_reducible apply row_else); (focus (first | (simp; done) | (simp; omega) | omega))) | (with_reducible apply row_alloc) | (with_reducible apply row_drew) | (with_reducible apply row_drewN) | ((with_reducible apply row_up); assumption)))) | (go_at_call 43; refine (HK.out _).mono ?_; rintro e w' ⟨rfl, hu⟩; have hsz := hu.size) | (go_at_call 53; (first | (with_reducible refine (HS.out _).mono ?_) | (with_reducible refine (HT.out _).mono ?_)); rintro e w' ⟨rfl, hu⟩; have hsz := hu.size) | (go_at_call 19; (with_reducible refine (HF.out _).mono ?_); rintro e w1 ⟨hu1, x1, rfl, hB1⟩; have hsz := hu1.size; (try simp at hsz)) | (go_at_call 26; (with_reducible refine (mul_big (x := (u : Nat)) (y := (u : Nat)) (by (repeat (first | assumption | ((with_reducible apply big_set); (focus (repeat (first | assumption | ((with_reducible apply blk_new); (focus (first | rfl | (simp; done)))) | (with_reducible apply blk_alloc) | (with_reducible apply blk_drew) | (with_reducible apply blk_drewN) | ((with_reducible apply blk_up); assumption) | (with_reducible apply blk_same) | ((with_reducible apply blk_else); (focus (first | (simp; done) | (simp; omega) | omega))))))) | (with_reducible apply big_alloc) | ((with_reducible apply big_up); assumption)))) (by (repeat (first | assumption | ((with_reducible apply big_set); (focus (repeat (first | assumption | ((with_reducible apply blk_new); (focus (first | rfl | (simp; done)))) | (with_reducible apply blk_alloc) | (with_reducible apply blk_drew) | (with_reducible apply blk_drewN) | ((with_reducible apply blk_up); assumption) | (with_reducible apply blk_same) | ((with_reducible apply blk_else); (focus (first | (simp; done) | (simp; omega) | omega))))))) | (with_reducible apply big_alloc) | ((with_reducible apply big_up); assumption)))) nu nu).mono ?_); rintro e w2 ⟨hu2, x2, rfl, hB2⟩; have hsz := hu2.size; (try simp at hsz); obtain ⟨q2, z2, n2, c2, rfl⟩ := hB2.shape) | (go_at_call 38; (with_reducible refine (HTo.out _ _ (by (repeat (first | assumption | ((with_reducible apply big_set); (focus (repeat (first | assumption | ((with_reducible apply blk_new); (focus (first | rfl | (simp; done)))) | (with_reducible apply blk_alloc) | (with_reducible apply blk_drew) | (with_reducible apply blk_drewN) | ((with_reducible apply blk_up); assumption) | (with_reducible apply blk_same) | ((with_reducible apply blk_else); (focus (first | (simp; done) | (simp; omega) | omega))))))) | (with_reducible apply big_alloc) | ((with_reducible apply big_up); assumption))))).mono ?_); rintro e w3 ⟨rfl, hu3⟩; have hsz := hu3.size; (try simp at hsz)) | (go_at_call 54; refine (HR.out _).mono ?_; rintro e w' ⟨rfl, hu⟩))
    go_ret
    exact ⟨rfl, (by repeat (first | assumption | (with_reducible apply Up.of) | (with_reducible exact Below.refl _ _) | (with_reducible exact Up.refl _) | ((with_reducible apply bl_setRow); (focus (first | exact Nat.le_refl _ | (simp; done) | (simp; omega) | omega))) | (with_reducible apply below_drewN) | (with_reducible apply Below.drew) | ((with_reducible apply bl_alloc); (focus (first | exact Nat.le_refl _ | (simp; done) | (simp; omega) | omega))) | ((with_reducible apply bl_setCell); (focus (first | exact Nat.le_refl _ | (simp; done) | (simp; omega) | omega))) | ((with_reducible apply up_tr); assumption)))⟩
  · have d0 : decide ((0 : Int) < v) = false := decide_eq_false (by omega)
    generalize v * v = s at *
    clear hT e2 e3
    go_enter Try.func13, Try.ntmps13
    go_wp2_with (first | ((with_reducible apply ldB_P); exact rfl; exact rfl; (focus (repeat (first | assumption | ((with_reducible apply blk_new); (focus (first | rfl | (simp; done)))) | (with_reducible apply blk_alloc) | (with_reducible apply blk_drew) | (with_reducible apply blk_drewN) | ((with_reducible apply blk_up); assumption) | (with_reducible apply blk_same) | ((with_reducible apply blk_else); (focus (first | (simp; done) | (simp; omega) | omega)))))); exact rfl) | ((with_reducible apply ld_rowP undW infoW); exact rfl; exact rfl; focus (repeat (first | assumption | ((with_reducible apply row_newc); (focus (first | rfl | (simp; done)))) | ((with_reducible apply row_newz); (focus (first | rfl | (simp; done)))) | (with_reducible apply row_same) | ((with_reducible apply row_else); (focus (first | (simp; done) | (simp; omega) | omega))) | (with_reducible apply row_alloc) | (with_reducible apply row_drew) | (with_reducible apply row_drewN) | ((with_reducible apply row_up); assumption)))) | ((with_reducible apply ld_limbP); exact rfl; exact rfl; (focus (repeat (first | assumption | ((with_reducible apply row_newc); (focus (first | rfl | (simp; done)))) | ((with_reducible apply row_newz); (focus (first | rfl | (simp; done)))) | (with_reducible apply row_same) | ((with_reducible apply row_else); (focus (first | (simp; done) | (simp; omega) | omega))) | (with_reducible apply row_alloc) | (with_reducible apply row_drew) | (with_reducible apply row_drewN) | ((with_reducible apply row_up); assumption)))); omega) | ((with_reducible apply stB_P); exact rfl; exact rfl; (focus (repeat (first | assumption | ((with_reducible apply blk_new); (focus (first | rfl | (simp; done)))) | (with_reducible apply blk_alloc) | (with_reducible apply blk_drew) | (with_reducible apply blk_drewN) | ((with_reducible apply blk_up); assumption) | (with_reducible apply blk_same) | ((with_reducible apply blk_else); (focus (first | (simp; done) | (simp; omega) | omega)))))); exact rfl; exact rfl; exact one2 _ _ _ _) | ((with_reducible apply st_rowP infoW); exact rfl; exact rfl; focus (repeat (first | assumption | ((with_reducible apply row_newc); (focus (first | rfl | (simp; done)))) | ((with_reducible apply row_newz); (focus (first | rfl | (simp; done)))) | (with_reducible apply row_same) | ((with_reducible apply row_else); (focus (first | (simp; done) | (simp; omega) | omega))) | (with_reducible apply row_alloc) | (with_reducible apply row_drew) | (with_reducible apply row_drewN) | ((with_reducible apply row_up); assumption)))) | ((with_reducible apply st_rowZ infoW); exact rfl; exact rfl; focus (repeat (first | assumption | ((with_reducible apply row_newc); (focus (first | rfl | (simp; done)))) | ((with_reducible apply row_newz); (focus (first | rfl | (simp; done)))) | (with_reducible apply row_same) | ((with_reducible apply row_else); (focus (first | (simp; done) | (simp; omega) | omega))) | (with_reducible apply row_alloc) | (with_reducible apply row_drew) | (with_reducible apply row_drewN) | ((with_reducible apply row_up); assumption)))) | (go_at_call 43; refine (HK.out _).mono ?_; rintro e w' ⟨rfl, hu⟩; have hsz := hu.size) | (go_at_call 53; (with_reducible refine (HS.out _).mono ?_); rintro e w' ⟨rfl, hu⟩; have hsz := hu.size) | (go_at_call 19; (with_reducible refine (HF.out _).mono ?_); rintro e w1 ⟨hu1, x1, rfl, hB1⟩; have hsz := hu1.size; (try simp at hsz)) | (go_at_call 26; (with_reducible refine (mul_big (x := (u : Nat)) (y := (u : Nat)) (by (repeat (first | assumption | ((with_reducible apply big_set); (focus (repeat (first | assumption | ((with_reducible apply blk_new); (focus (first | rfl | (simp; done)))) | (with_reducible apply blk_alloc) | (with_reducible apply blk_drew) | (with_reducible apply blk_drewN) | ((with_reducible apply blk_up); assumption) | (with_reducible apply blk_same) | ((with_reducible apply blk_else); (focus (first | (simp; done) | (simp; omega) | omega))))))) | (with_reducible apply big_alloc) | ((with_reducible apply big_up); assumption)))) (by (repeat (first | assumption | ((with_reducible apply big_set); (focus (repeat (first | assumption | ((with_reducible apply blk_new); (focus (first | rfl | (simp; done)))) | (with_reducible apply blk_alloc) | (with_reducible apply blk_drew) | (with_reducible apply blk_drewN) | ((with_reducible apply blk_up); assumption) | (with_reducible apply blk_same) | ((with_reducible apply blk_else); (focus (first | (simp; done) | (simp; omega) | omega))))))) | (with_reducible apply big_alloc) | ((with_reducible apply big_up); assumption)))) nu nu).mono ?_); rintro e w2 ⟨hu2, x2, rfl, hB2⟩; have hsz := hu2.size; (try simp at hsz); obtain ⟨q2, z2, n2, c2, rfl⟩ := hB2.shape) | (go_at_call 38; (with_reducible refine (HTo.out _ _ (by (repeat (first | assumption | ((with_reducible apply big_set); (focus (repeat (first | assumption | ((with_reducible apply blk_new); (focus (first | rfl | (simp; done)))) | (with_reducible apply blk_alloc) | (with_reducible apply blk_drew) | (with_reducible apply blk_drewN) | ((with_reducible apply blk_up); assumption) | (with_reducible apply blk_same) | ((with_reducible apply blk_else); (focus (first | (simp; done) | (simp; omega) | omega))))))) | (with_reducible apply big_alloc) | ((with_reducible apply big_up); assumption))))).mono ?_); rintro e w3 ⟨rfl, hu3⟩; have hsz := hu3.size; (try simp at hsz)) | (go_at_call 54; refine (HR.out _).mono ?_; rintro e w' ⟨rfl, hu⟩))
    go_ret
    exact ⟨rfl, (by repeat (first | assumption | (with_reducible apply Up.of) | (with_reducible exact Below.refl _ _) | (with_reducible exact Up.refl _) | ((with_reducible apply bl_setRow); (focus (first | exact Nat.le_refl _ | (simp; done) | (simp; omega) | omega))) | (with_reducible apply below_drewN) | (with_reducible apply Below.drew) | ((with_reducible apply bl_alloc); (focus (first | exact Nat.le_refl _ | (simp; done) | (simp; omega) | omega))) | ((with_reducible apply bl_setCell); (focus (first | exact Nat.le_refl _ | (simp; done) | (simp; omega) | omega))) | ((with_reducible apply up_tr); assumption)))⟩
end Go.Proofs.Ytiocolbaencbkaa
