/-
  FxRoots: the root of any number of 64, of 128 bits, and the long side of any two.
-/
import Derived.Test.YtiocolbaencbkaaHypot
import Derived.Test.YtiocolbaencbkaaSquares
namespace Go.Proofs.Ytiocolbaencbkaa
open Go Go.RowKit
set_option maxRecDepth 100000

theorem op_shr8 {P : Program} {o : Oper} {a : Act} {x y : Operand} {t u : TypeId} (ho : o.op = .binOp .shr t x y u) {X s : Nat} (hx : a.eval x = .int .u64 (X : Nat)) (hy : a.eval y = .int .u8 (s : Nat)) (hs : s ≤ 64) (w : World) :
    (execOp a.eval o).run P w = .ok (.value (.int .u64 ((X / 2 ^ s : Nat) : Int))) w := by
  unfold execOp
  simp only [ho, hx, hy, eqGuard, binOp, shift_shr .u64 .u8 (X : Int) (s : Int) (by omega) (show (s : Int) ≤ 64 by omega)]
  simp
theorem shr8P {P : Program} {t u : TypeId} {ops : Array Oper} {rest : List Oper} {Q : Exit → Act → World → Prop} {a : Act} {w : World} {d : Option Tmp} {x y : Operand} {ty : TypeId} {pos : String} {af : Array Edge} {gd : Option (Nat × Bool)} {X s : Nat}
    (hw : Region.wanted { dst := d, op := .binOp .shr t x y u, type := ty, pos := pos, after := af, guard := gd } (yielded ops a.tmps) = true) (hx : a.eval x = .int .u64 (X : Nat)) (hy : a.eval y = .int .u8 (s : Nat)) (hs : s ≤ 64)
    (h : wpList P ops Q rest (a.put d (.int .u64 ((X / 2 ^ s : Nat) : Int))) w) : wpList P ops Q ({ dst := d, op := .binOp .shr t x y u, type := ty, pos := pos, after := af, guard := gd } :: rest) a w := wpList_run hw (op_shr8 rfl hx hy hs w) h
theorem lit_two {u v : Nat} (h : u < 18446744073709551616) (h2 : v < 18446744073709551616) : (#[.int .u64 u, .int .u64 v, .int .u64 0, .int .u64 0, .int .u64 0, .int .u64 0, .int .u64 0, .int .u64 0, .int .u64 0, .int .u64 0, .int .u64 0, .int .u64 0, .int .u64 0, .int .u64 0, .int .u64 0, .int .u64 0] : Array Value) = cells 16 (limb (18446744073709551616 * v + u)) := by
  rw [cells_congr (g := upd (upd (fun _ => 0) 0 u) 1 v) (fun i _ => by
    unfold upd
    split
    · next e => subst e; unfold limb; rw [bp_succ, bp_zero]; omega
    · split
      · next e => subst e; rw [limb0]; omega
      · exact limb_of_small (k := 2) (by rw [bp_succ, bp_succ, bp_zero]; omega) (by omega))]
  unfold cells
  rfl
theorem from_two {u v : Nat} (h : u < 18446744073709551616) (h2 : v < 18446744073709551616) (w : World) :
    Calls Try.prog 19 #[.agg #[.int .u64 u, .int .u64 v, .int .u64 0, .int .u64 0, .int .u64 0, .int .u64 0, .int .u64 0, .int .u64 0, .int .u64 0, .int .u64 0, .int .u64 0, .int .u64 0, .int .u64 0, .int .u64 0, .int .u64 0, .int .u64 0]] w fun e w' => Up w w' ∧ ∃ x, e = .returned x ∧ Big w' x ((18446744073709551616 * v + u : Nat) : Int) := by
  have hd := hb_deep
  have h1 := from_wide (z := ((18446744073709551616 * v + u : Nat) : Int)) (InR.mk' (by omega)) w
  rw [enc_nat (by have := bp16; omega)] at h1
  unfold wideV at h1
  rw [lit_two h h2]
  exact h1
theorem hyp_both (x y : Int) (x1 : -9223372036854775808 ≤ x) (x2 : x < 9223372036854775808) (y1 : -9223372036854775808 ≤ y) (y2 : y < 9223372036854775808) :
    ∃ (z : Int) (ok : Bool), (∀ w, Calls Try.prog 56 #[.int .i64 x, .int .i64 y] w fun e w' => e = .returned (.tuple #[.int .i64 z, .bool ok]) ∧ Up w w') ∧
      (∀ w, Calls Try.prog 57 #[.int .i64 x, .int .i64 y] w fun e w' => e = .returned (.tuple #[.int .i64 z, .bool ok]) ∧ Up w w') := by
  obtain ⟨r, h1, h2⟩ := root_ex (x.natAbs * x.natAbs + y.natAbs * y.natAbs)
  by_cases h : x.natAbs ≤ 2147483648 ∧ y.natAbs ≤ 2147483648
  · refine ⟨(r : Nat), true, fun w => fx_hypot x y r h.1 h.2 h1 h2 w, fun w => ?_⟩
    have := hypot_big x y x1 x2 y1 y2 r h1 h2 w
    rw [if_pos h] at this
    exact this
  · refine ⟨0, false, fun w => fx_hypot_no x y x1 x2 y1 y2 h w, fun w => ?_⟩
    have := hypot_big x y x1 x2 y1 y2 r h1 h2 w
    rw [if_neg h] at this
    exact this
set_option maxHeartbeats 2000000 in
theorem roots_w (hi lo k : Nat) (x y : Int) (hhi : hi < 18446744073709551616) (hlo : lo < 18446744073709551616) (_ : k < 256) (x1 : -9223372036854775808 ≤ x) (x2 : x < 9223372036854775808) (y1 : -9223372036854775808 ≤ y) (y2 : y < 9223372036854775808) (w : World) :
    Calls Try.prog 12 #[.int .u64 hi, .int .u64 lo, .int .i64 x, .int .i64 y, .int .u8 k] w fun e w' => e = .returned (.bool true) ∧ Up w w' := by
  have HK := hid known2_true
  obtain ⟨s, hs⟩ : ∃ s : Nat, (k : Int) % 65 = (s : Nat) := ⟨k % 65, by omega⟩
  have hs64 : s ≤ 64 := by omega
  obtain ⟨h, hh⟩ : ∃ h, hi / 2 ^ s = h := ⟨_, rfl⟩
  have hh64 : h < 18446744073709551616 := by rw [← hh]; exact Nat.lt_of_le_of_lt (Nat.div_le_self _ _) hhi
  have e0 : (hi : Int) / 2 ^ s = ((h : Nat) : Int) := by rw [← hh]; simp
  obtain ⟨p, p1, p2⟩ := root_ex lo
  have hp32 := sq_lt (B := 4294967296) p1 (by omega)
  obtain ⟨q, q1, q2⟩ := root_ex (18446744073709551616 * h + lo)
  have HS := hid (fun w => fx_sqrt lo p hlo p1 p2 w)
  have HR := hid (fun w => fx_root h lo q hh64 hlo q1 q2 w)
  have HF1 := hid (fun w => from_one hlo w)
  have hT1 : ∀ (v : Value) (w : World), Big w v ((lo : Nat) : Int) → Calls Try.prog 55 #[v] w fun e w' => e = .returned (.int .u64 (p : Nat)) ∧ Up w w' := fun v w h => rooted_big h (by omega) p1 p2
  have hT2 : ∀ (v : Value) (w : World), Big w v ((18446744073709551616 * h + lo : Nat) : Int) → Calls Try.prog 55 #[v] w fun e w' => e = .returned (.int .u64 (q : Nat)) ∧ Up w w' := fun v w h => rooted_big h (by omega) q1 q2
  have hF2 := fun w => from_two hlo hh64 w
  clear p1 p2 q1 q2 hh
  generalize 18446744073709551616 * h + lo = N at *
  have HF2 := hid hF2
  have HT1 := hid hT1
  have HT2 := hid hT2
  clear hT1 hT2 hF2
  go_enter Try.func12, Try.ntmps12
  go_wp2_with (first | (go_at_call 43; (with_reducible refine (HK.out _).mono ?_); rintro e w0 ⟨rfl, hu0⟩) | (go_at_call 53; (with_reducible refine (HS.out _).mono ?_); rintro e w1 ⟨rfl, hu1⟩) | (go_at_call 54; (with_reducible refine (HR.out _).mono ?_); rintro e w2 ⟨rfl, hu2⟩) | (go_at_call 19; (first | (with_reducible refine (HF1.out _).mono ?_) | (with_reducible refine (HF2.out _).mono ?_)); rintro e wF ⟨huF, u, rfl, hBF⟩) | (go_at_call 55; (first | (with_reducible refine (HT1.out _ _ hBF).mono ?_) | (with_reducible refine (HT2.out _ _ hBF).mono ?_)); rintro e wR ⟨rfl, huR⟩))
  have hsR : w.heap.size ≤ wR.heap.size := (show Below w.heap.size w wR from (by repeat (first | assumption | (with_reducible apply Up.of) | (with_reducible exact Below.refl _ _) | (with_reducible exact Up.refl _) | ((with_reducible apply bl_setRow); (focus (first | exact Nat.le_refl _ | (simp; done) | (simp; omega) | omega))) | (with_reducible apply below_drewN) | (with_reducible apply Below.drew) | ((with_reducible apply bl_alloc); (focus (first | exact Nat.le_refl _ | (simp; done) | (simp; omega) | omega))) | ((with_reducible apply bl_setCell); (focus (first | exact Nat.le_refl _ | (simp; done) | (simp; omega) | omega))) | ((with_reducible apply up_tr); assumption)))).size
  have hbb := bits_in BinOp.and y 255
  generalize bits BinOp.and IntKind.i64 y 255 = yb at *
  go_loopw [64] (fun ti wr => ∃ (i : Nat), i ≤ 3 ∧ ti = .int .i64 (i : Nat) ∧ Blk wr wR.heap.size 69 #[Value.int IntKind.i64 x, Value.int IntKind.i64 y, Value.int IntKind.i64 (x / 2147483648), Value.int IntKind.i64 (y / 2147483648), Value.int IntKind.i64 (x / 1099511627776), Value.int IntKind.i64 yb] ∧ Below w.heap.size w wr)
    (fun ti _ => 3 - (intOf ti).toNat)
  case atStart => exact ⟨0, by omega, rfl, (by (repeat (first | assumption | ((with_reducible apply blk_new); (focus (first | rfl | (simp; done)))) | (with_reducible apply blk_alloc) | (with_reducible apply blk_drew) | (with_reducible apply blk_drewN) | ((with_reducible apply blk_up); assumption) | (with_reducible apply blk_same) | ((with_reducible apply blk_else); (focus (first | (simp; done) | (simp; omega) | omega)))))), (by repeat (first | assumption | (with_reducible apply Up.of) | (with_reducible exact Below.refl _ _) | (with_reducible exact Up.refl _) | ((with_reducible apply bl_setRow); (focus (first | exact Nat.le_refl _ | (simp; done) | (simp; omega) | omega))) | (with_reducible apply below_drewN) | (with_reducible apply Below.drew) | ((with_reducible apply bl_alloc); (focus (first | exact Nat.le_refl _ | (simp; done) | (simp; omega) | omega))) | ((with_reducible apply bl_setCell); (focus (first | exact Nat.le_refl _ | (simp; done) | (simp; omega) | omega))) | ((with_reducible apply up_tr); assumption)))⟩
  case round =>
    obtain ⟨i, hi, rfl, hK, hB⟩ := hrel
    have c0 := hK.cell 0 rfl
    have c1 := hK.cell 1 rfl
    have c2 := hK.cell 2 rfl
    have c3 := hK.cell 3 rfl
    have c4 := hK.cell 4 rfl
    have c5 := hK.cell 5 rfl
    by_cases hlt : i < 3
    · have : i = 0 ∨ i = 1 ∨ i = 2 := by omega
      rcases this with rfl | rfl | rfl
      · obtain ⟨z, ok, hP, hQ⟩ := hyp_both x y (by omega) (by omega) (by omega) (by omega)
        have HP := hid hP
        have HQ := hid hQ
        clear hP hQ
        go_wp2_with (first | (go_at_call 56; (with_reducible refine (HP.out _).mono ?_); rintro e w1 ⟨rfl, hu1⟩; have k0 := hu1.cell (Blk.cell (blk_new (w := wr) (t := 69) (C := #[Value.int IntKind.i64 x, Value.int IntKind.i64 y]) rfl) 0 rfl); have k1 := hu1.cell (Blk.cell (blk_new (w := wr) (t := 69) (C := #[Value.int IntKind.i64 x, Value.int IntKind.i64 y]) rfl) 1 rfl)) | (go_at_call 57; (with_reducible refine (HQ.out _).mono ?_); rintro e w2 ⟨rfl, hu2⟩))
        have gK := ((blk_alloc (o := Obj.cells #[Value.int IntKind.i64 x, Value.int IntKind.i64 y] 69) hK).up hu1).up hu2
        have gB := below_up (below_up (bl_alloc (o := Obj.cells #[Value.int IntKind.i64 x, Value.int IntKind.i64 y] 69) hB.size hB) hu1) hu2
        go_roundw
        case rel => exact ⟨1, by omega, by go_num, gK, gB⟩
        case measure => simp [intOf]
      · obtain ⟨z, ok, hP, hQ⟩ := hyp_both (x / 2147483648) (y / 2147483648) (by omega) (by omega) (by omega) (by omega)
        have HP := hid hP
        have HQ := hid hQ
        clear hP hQ
        go_wp2_with (first | (go_at_call 56; (with_reducible refine (HP.out _).mono ?_); rintro e w1 ⟨rfl, hu1⟩; have k0 := hu1.cell (Blk.cell (blk_new (w := wr) (t := 69) (C := #[Value.int IntKind.i64 (x / 2147483648), Value.int IntKind.i64 (y / 2147483648)]) rfl) 0 rfl); have k1 := hu1.cell (Blk.cell (blk_new (w := wr) (t := 69) (C := #[Value.int IntKind.i64 (x / 2147483648), Value.int IntKind.i64 (y / 2147483648)]) rfl) 1 rfl)) | (go_at_call 57; (with_reducible refine (HQ.out _).mono ?_); rintro e w2 ⟨rfl, hu2⟩))
        have gK := ((blk_alloc (o := Obj.cells #[Value.int IntKind.i64 (x / 2147483648), Value.int IntKind.i64 (y / 2147483648)] 69) hK).up hu1).up hu2
        have gB := below_up (below_up (bl_alloc (o := Obj.cells #[Value.int IntKind.i64 (x / 2147483648), Value.int IntKind.i64 (y / 2147483648)] 69) hB.size hB) hu1) hu2
        go_roundw
        case rel => exact ⟨2, by omega, by go_num, gK, gB⟩
        case measure => simp [intOf]
      · obtain ⟨z, ok, hP, hQ⟩ := hyp_both (x / 1099511627776) yb (by omega) (by omega) (by omega) (by omega)
        have HP := hid hP
        have HQ := hid hQ
        clear hP hQ
        go_wp2_with (first | (go_at_call 56; (with_reducible refine (HP.out _).mono ?_); rintro e w1 ⟨rfl, hu1⟩; have k0 := hu1.cell (Blk.cell (blk_new (w := wr) (t := 69) (C := #[Value.int IntKind.i64 (x / 1099511627776), Value.int IntKind.i64 yb]) rfl) 0 rfl); have k1 := hu1.cell (Blk.cell (blk_new (w := wr) (t := 69) (C := #[Value.int IntKind.i64 (x / 1099511627776), Value.int IntKind.i64 yb]) rfl) 1 rfl)) | (go_at_call 57; (with_reducible refine (HQ.out _).mono ?_); rintro e w2 ⟨rfl, hu2⟩))
        have gK := ((blk_alloc (o := Obj.cells #[Value.int IntKind.i64 (x / 1099511627776), Value.int IntKind.i64 yb] 69) hK).up hu1).up hu2
        have gB := below_up (below_up (bl_alloc (o := Obj.cells #[Value.int IntKind.i64 (x / 1099511627776), Value.int IntKind.i64 yb] 69) hB.size hB) hu1) hu2
        go_roundw
        case rel => exact ⟨3, by omega, by go_num, gK, gB⟩
        case measure => simp [intOf]
    · obtain rfl : i = 3 := by omega
      go_wp2
      go_ret
      exact ⟨rfl, hB⟩
end Go.Proofs.Ytiocolbaencbkaa
