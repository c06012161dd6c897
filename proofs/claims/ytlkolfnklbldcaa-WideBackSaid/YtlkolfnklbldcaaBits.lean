/-
  wide: how many bits a number has; 64 bits, and wide; the sign; how two numbers lie.
-/
import Derived.Test.YtlkolfnklbldcaaOrder
import Derived.Test.YtlkolfnklbldcaaShelf
import Derived.Lib.ItoaNum
import Derived.Deep.RegionWith
namespace Go.Proofs.Ytlkolfnklbldcaa
open Go Go.RowKit
set_option maxRecDepth 100000

/-- How many bits a number has. -/
def blen (x : Nat) : Nat := if x = 0 then 0 else x.log2 + 1
theorem blen_of {x k : Nat} (h1 : 2 ^ k ≤ x) (h2 : x < 2 ^ (k + 1)) : blen x = k + 1 := by
  have h0 : x ≠ 0 := by have := Nat.two_pow_pos k; omega
  have h3 := (Nat.le_log2 h0).2 h1
  have h4 := (Nat.log2_lt h0).2 h2
  simp only [blen, h0, if_false]
  omega
theorem blen_lt (x : Nat) : x < 2 ^ blen x := by
  unfold blen
  split
  · rename_i h; rw [h]; decide
  · exact Nat.lt_log2_self
theorem blen_le {x : Nat} (h : x ≠ 0) : 2 ^ (blen x - 1) ≤ x := by
  simp only [blen, h, if_false, Nat.add_sub_cancel]
  exact Nat.log2_self_le h
theorem blen_mono {x y : Nat} (h : x ≤ y) : blen x ≤ blen y := by
  by_cases h0 : x = 0
  · rw [h0]; exact Nat.zero_le _
  · have h1 := blen_le h0
    have h2 := blen_lt y
    have h3 : 2 ^ (blen x - 1) < 2 ^ blen y := by omega
    have := (Nat.pow_lt_pow_iff_right (show 1 < 2 by decide)).1 h3
    omega
theorem bp_two (k : Nat) : bp k = 2 ^ (64 * k) := by
  induction k with
  | zero => rw [bp_zero]
  | succ k ih => rw [bp_succ, ih, show 64 * (k + 1) = 64 * k + 64 by omega, Nat.pow_add]
theorem bitLen_spec {x : Nat} (h : x < 18446744073709551616) (h0 : x ≠ 0) : 1 ≤ Lib.bitLen x ∧ 2 ^ (Lib.bitLen x - 1) ≤ x ∧ x < 2 ^ Lib.bitLen x ∧ Lib.bitLen x ≤ 64 := by
  have h1 := Lib.bitLenAux_bounds 64 x h h0
  refine ⟨h1.1, h1.2.1, h1.2.2, ?_⟩
  have h2 : 2 ^ (Lib.bitLenAux 64 x - 1) < 2 ^ 64 := by have := h1.2.1; omega
  have := (Nat.pow_lt_pow_iff_right (show 1 < 2 by decide)).1 h2
  have h3 := h1.1
  unfold Lib.bitLen
  omega
theorem bitLen_blen {x : Nat} (h : x < 18446744073709551616) (h0 : x ≠ 0) : Lib.bitLen x = blen x := by
  have h1 := bitLen_spec h h0
  have := blen_of (x := x) (k := Lib.bitLen x - 1) h1.2.1 (by rw [show Lib.bitLen x - 1 + 1 = Lib.bitLen x by omega]; exact h1.2.2.1)
  omega
/-- The bits of a number by its highest limb. -/
theorem blen_limbs {f : Nat → Nat} {n : Nat} (hf : ∀ i, i < n → f i < 18446744073709551616) (h : 0 < lenL f n) :
    blen (sumL f n) = 64 * (lenL f n - 1) + Lib.bitLen (f (lenL f n - 1)) := by
  rw [← lenL_sum]
  have ht := lenL_top f n h
  have hle := lenL_le f n
  generalize lenL f n = k at *
  obtain ⟨j, rfl⟩ : ∃ j, k = j + 1 := ⟨k - 1, by omega⟩
  simp only [Nat.add_sub_cancel] at *
  have hs := sumL_lt (f := f) (k := j) fun i hi => hf i (by omega)
  obtain ⟨h1, h2, h3, _⟩ := bitLen_spec (hf j (by omega)) ht
  rw [sumL_succ]
  generalize sumL f j = s at *
  generalize f j = t at *
  generalize Lib.bitLen t = b at *
  obtain ⟨c, rfl⟩ : ∃ c, b = c + 1 := ⟨b - 1, by omega⟩
  simp only [Nat.add_sub_cancel] at *
  rw [← Nat.add_assoc]
  refine blen_of ?_ ?_
  · rw [Nat.pow_add, ← bp_two, Nat.mul_comm]
    have := Nat.mul_le_mul_right (bp j) h2
    omega
  · rw [Nat.add_assoc, Nat.pow_add, ← bp_two, Nat.mul_comm (bp j)]
    have h4 : (t + 1) * bp j ≤ 2 ^ (c + 1) * bp j := Nat.mul_le_mul_right _ h3
    rw [Nat.add_mul] at h4
    omega
set_option maxHeartbeats 400000 in
theorem size_any {x : Nat} (hx : x < bp 16) (w : World) :
    Calls Try.prog 51 #[wideV x] w fun e w' => e = .returned (.int .i64 (blen x : Nat)) ∧ Up w w' := by
  have hl := length_any x
  have hle := lenL_le (limb x) 16
  have hs := sumL_limb x 16
  rw [Nat.mod_eq_of_lt hx] at hs
  by_cases h : lenL (limb x) 16 = 0
  · have h0 : x = 0 := by rw [← hs]; exact (lenL_zero_iff _ _).1 h
    have e : blen x = 0 := by rw [h0]; rfl
    rw [e]
    rw [h] at hl
    have HL := hid hl
    clear hl h hle hs h0 e
    unfold wideV at *
    go_enter Try.func51, Try.ntmps51
    go_wp2_with (first | ((with_reducible apply ld_rowP undW infoW); exact rfl; exact rfl; focus (repeat (first | assumption | ((with_reducible apply row_newc); (focus (first | rfl | (simp; done)))) | ((with_reducible apply row_newz); (focus (first | rfl | (simp; done)))) | (with_reducible apply row_same) | ((with_reducible apply row_else); (focus (first | (simp; done) | (simp; omega) | omega))) | (with_reducible apply row_alloc) | (with_reducible apply row_drew) | (with_reducible apply row_drewN) | ((with_reducible apply row_up); assumption)))) | (go_at_call 57; refine (HL.out _).mono ?_; rintro e w' ⟨rfl, hu⟩))
    go_ret
    exact ⟨rfl, (by repeat (first | assumption | (with_reducible apply Up.of) | (with_reducible exact Below.refl _ _) | (with_reducible exact Up.refl _) | ((with_reducible apply bl_setRow); (focus (first | exact Nat.le_refl _ | (simp; done) | (simp; omega) | omega))) | (with_reducible apply below_drewN) | (with_reducible apply Below.drew) | ((with_reducible apply bl_alloc); (focus (first | exact Nat.le_refl _ | (simp; done) | (simp; omega) | omega))) | ((with_reducible apply bl_setCell); (focus (first | exact Nat.le_refl _ | (simp; done) | (simp; omega) | omega))) | ((with_reducible apply up_tr); assumption)))⟩
  · have hb := blen_limbs (f := limb x) (n := 16) (fun i _ => limb_lt x i) (by omega)
    rw [hs] at hb
    have hlt := limb_lt x (lenL (limb x) 16 - 1)
    have h0 := lenL_top (limb x) 16 (by omega)
    have hsp := bitLen_spec hlt h0
    generalize lenL (limb x) 16 = k at *
    obtain ⟨j, rfl⟩ : ∃ j, k = j + 1 := ⟨k - 1, by omega⟩
    simp only [Nat.add_sub_cancel] at *
    have hbl := fun w' => Try.bits_Len64 (limb x j : Nat) w' (by omega) (by omega)
    simp only [Int.toNat_natCast] at hbl
    rw [hb]
    obtain ⟨_, _, _, h64⟩ := hsp
    generalize Lib.bitLen (limb x j) = b at *
    have HL := hid hl
    have HB := hid hbl
    clear hl hs hb h h0 hbl
    unfold wideV at *
    go_enter Try.func51, Try.ntmps51
    have hne : (((j + 1 : Nat) : Int) == 0) = false := by simp; omega
    go_wp2_with (first | ((with_reducible apply ld_rowP undW infoW); exact rfl; exact rfl; focus (repeat (first | assumption | ((with_reducible apply row_newc); (focus (first | rfl | (simp; done)))) | ((with_reducible apply row_newz); (focus (first | rfl | (simp; done)))) | (with_reducible apply row_same) | ((with_reducible apply row_else); (focus (first | (simp; done) | (simp; omega) | omega))) | (with_reducible apply row_alloc) | (with_reducible apply row_drew) | (with_reducible apply row_drewN) | ((with_reducible apply row_up); assumption)))) | (go_at_call 57; refine (HL.out _).mono ?_; rintro e w' ⟨rfl, hu⟩; have hcl := Row.cell (w := w') (b := w.heap.size) (t := 27) (n := 16) (f := limb x) (by (repeat (first | assumption | ((with_reducible apply row_newc); (focus (first | rfl | (simp; done)))) | ((with_reducible apply row_newz); (focus (first | rfl | (simp; done)))) | (with_reducible apply row_same) | ((with_reducible apply row_else); (focus (first | (simp; done) | (simp; omega) | omega))) | (with_reducible apply row_alloc) | (with_reducible apply row_drew) | (with_reducible apply row_drewN) | ((with_reducible apply row_up); assumption)))) j (by omega)) | (go_at_call 61; refine (HB.out _).mono ?_; rintro e w' ⟨rfl, rfl⟩))
    go_ret
    exact ⟨ret_int (by go_num), (by repeat (first | assumption | (with_reducible apply Up.of) | (with_reducible exact Below.refl _ _) | (with_reducible exact Up.refl _) | ((with_reducible apply bl_setRow); (focus (first | exact Nat.le_refl _ | (simp; done) | (simp; omega) | omega))) | (with_reducible apply below_drewN) | (with_reducible apply Below.drew) | ((with_reducible apply bl_alloc); (focus (first | exact Nat.le_refl _ | (simp; done) | (simp; omega) | omega))) | ((with_reducible apply bl_setCell); (focus (first | exact Nat.le_refl _ | (simp; done) | (simp; omega) | omega))) | ((with_reducible apply up_tr); assumption)))⟩

set_option maxHeartbeats 400000 in
theorem bits_z {z : Int} (hz : InR z) (w : World) :
    Calls Try.prog 24 #[wideV (enc z)] w fun e w' => e = .returned (.int .i64 (blen z.natAbs : Nat)) ∧ Up w w' := by
  have h := size_any (enc_natAbs hz).2
  have HA := hid (fun w => amount_z hz w)
  have HS := hid h
  clear h
  generalize z.natAbs = n at *
  unfold wideV at *
  go_enter Try.func24, Try.ntmps24
  go_wp2_with (first | ((with_reducible apply ld_rowP undW infoW); exact rfl; exact rfl; focus (repeat (first | assumption | ((with_reducible apply row_newc); (focus (first | rfl | (simp; done)))) | ((with_reducible apply row_newz); (focus (first | rfl | (simp; done)))) | (with_reducible apply row_same) | ((with_reducible apply row_else); (focus (first | (simp; done) | (simp; omega) | omega))) | (with_reducible apply row_alloc) | (with_reducible apply row_drew) | (with_reducible apply row_drewN) | ((with_reducible apply row_up); assumption)))) | (go_at_call 44; refine (HA.out _).mono ?_; rintro e w' ⟨rfl, hu⟩) | (go_at_call 51; refine (HS.out _).mono ?_; rintro e w' ⟨rfl, hu⟩))
  go_ret
  exact ⟨rfl, (by repeat (first | assumption | (with_reducible apply Up.of) | (with_reducible exact Below.refl _ _) | (with_reducible exact Up.refl _) | ((with_reducible apply bl_setRow); (focus (first | exact Nat.le_refl _ | (simp; done) | (simp; omega) | omega))) | (with_reducible apply below_drewN) | (with_reducible apply Below.drew) | ((with_reducible apply bl_alloc); (focus (first | exact Nat.le_refl _ | (simp; done) | (simp; omega) | omega))) | ((with_reducible apply bl_setCell); (focus (first | exact Nat.le_refl _ | (simp; done) | (simp; omega) | omega))) | ((with_reducible apply up_tr); assumption)))⟩
def sgn (z : Int) : Int := if z < 0 then -1 else if z = 0 then 0 else 1
theorem enc_eq_zero {z : Int} (hz : InR z) : enc z = 0 ↔ z = 0 := by
  constructor
  · intro h
    refine enc_inj hz (InR.mk' ?_) (h.trans enc_zero.symm)
    have := hb_pos; omega
  · intro h; rw [h, enc_zero]
set_option maxHeartbeats 400000 in
theorem sign_z {z : Int} (hz : InR z) (w : World) :
    Calls Try.prog 22 #[wideV (enc z)] w fun e w' => e = .returned (.int .i64 (sgn z)) ∧ Up w w' := by
  have HM := hid (fun w => minus_z hz w)
  have hlt := enc_lt z
  have hq := enc_eq_zero hz
  by_cases hs : z < 0
  · have e : sgn z = -1 := by simp [sgn, hs]
    have hd : decide (z < 0) = true := by simpa using hs
    rw [hd] at HM
    rw [e]
    clear e hd hs hq
    unfold wideV at *
    go_enter Try.func22, Try.ntmps22
    go_wp2_with (first | ((with_reducible apply ld_rowP undW infoW); exact rfl; exact rfl; focus (repeat (first | assumption | ((with_reducible apply row_newc); (focus (first | rfl | (simp; done)))) | ((with_reducible apply row_newz); (focus (first | rfl | (simp; done)))) | (with_reducible apply row_same) | ((with_reducible apply row_else); (focus (first | (simp; done) | (simp; omega) | omega))) | (with_reducible apply row_alloc) | (with_reducible apply row_drew) | (with_reducible apply row_drewN) | ((with_reducible apply row_up); assumption)))) | ((with_reducible apply eqP); exact rfl; exact rfl; exact rfl; assumption; assumption; assumption) | ((with_reducible apply eqZP); exact rfl; exact rfl; exact rfl; assumption; assumption) | ((with_reducible apply neP); exact rfl; exact rfl; exact rfl; assumption; assumption; assumption) | ((with_reducible apply neZP); exact rfl; exact rfl; exact rfl; assumption; assumption) | (go_at_call 41; refine (HM.out _).mono ?_; rintro e w' ⟨rfl, hu⟩))
    go_ret
    exact ⟨rfl, (by repeat (first | assumption | (with_reducible apply Up.of) | (with_reducible exact Below.refl _ _) | (with_reducible exact Up.refl _) | ((with_reducible apply bl_setRow); (focus (first | exact Nat.le_refl _ | (simp; done) | (simp; omega) | omega))) | (with_reducible apply below_drewN) | (with_reducible apply Below.drew) | ((with_reducible apply bl_alloc); (focus (first | exact Nat.le_refl _ | (simp; done) | (simp; omega) | omega))) | ((with_reducible apply bl_setCell); (focus (first | exact Nat.le_refl _ | (simp; done) | (simp; omega) | omega))) | ((with_reducible apply up_tr); assumption)))⟩
  · have hd : decide (z < 0) = false := by simpa using hs
    rw [hd] at HM
    by_cases h0 : z = 0
    · have e : sgn z = 0 := by simp [sgn, h0]
      have hd2 : IsB (decide (enc z = 0)) true := decide_eq_true (hq.2 h0)
      rw [e]
      clear e hd hs hq h0
      unfold wideV at *
      go_enter Try.func22, Try.ntmps22
      go_wp2_with (first | ((with_reducible apply ld_rowP undW infoW); exact rfl; exact rfl; focus (repeat (first | assumption | ((with_reducible apply row_newc); (focus (first | rfl | (simp; done)))) | ((with_reducible apply row_newz); (focus (first | rfl | (simp; done)))) | (with_reducible apply row_same) | ((with_reducible apply row_else); (focus (first | (simp; done) | (simp; omega) | omega))) | (with_reducible apply row_alloc) | (with_reducible apply row_drew) | (with_reducible apply row_drewN) | ((with_reducible apply row_up); assumption)))) | ((with_reducible apply eqP); exact rfl; exact rfl; exact rfl; assumption; assumption; assumption) | ((with_reducible apply eqZP); exact rfl; exact rfl; exact rfl; assumption; assumption) | ((with_reducible apply neP); exact rfl; exact rfl; exact rfl; assumption; assumption; assumption) | ((with_reducible apply neZP); exact rfl; exact rfl; exact rfl; assumption; assumption) | (go_at_call 41; refine (HM.out _).mono ?_; rintro e w' ⟨rfl, hu⟩))
      go_ret
      exact ⟨rfl, (by repeat (first | assumption | (with_reducible apply Up.of) | (with_reducible exact Below.refl _ _) | (with_reducible exact Up.refl _) | ((with_reducible apply bl_setRow); (focus (first | exact Nat.le_refl _ | (simp; done) | (simp; omega) | omega))) | (with_reducible apply below_drewN) | (with_reducible apply Below.drew) | ((with_reducible apply bl_alloc); (focus (first | exact Nat.le_refl _ | (simp; done) | (simp; omega) | omega))) | ((with_reducible apply bl_setCell); (focus (first | exact Nat.le_refl _ | (simp; done) | (simp; omega) | omega))) | ((with_reducible apply up_tr); assumption)))⟩
    · have e : sgn z = 1 := by simp [sgn, h0, hs]
      have hd2 : IsB (decide (enc z = 0)) false := decide_eq_false fun h => h0 (hq.1 h)
      rw [e]
      clear e hd hs hq h0
      unfold wideV at *
      go_enter Try.func22, Try.ntmps22
      go_wp2_with (first | ((with_reducible apply ld_rowP undW infoW); exact rfl; exact rfl; focus (repeat (first | assumption | ((with_reducible apply row_newc); (focus (first | rfl | (simp; done)))) | ((with_reducible apply row_newz); (focus (first | rfl | (simp; done)))) | (with_reducible apply row_same) | ((with_reducible apply row_else); (focus (first | (simp; done) | (simp; omega) | omega))) | (with_reducible apply row_alloc) | (with_reducible apply row_drew) | (with_reducible apply row_drewN) | ((with_reducible apply row_up); assumption)))) | ((with_reducible apply eqP); exact rfl; exact rfl; exact rfl; assumption; assumption; assumption) | ((with_reducible apply eqZP); exact rfl; exact rfl; exact rfl; assumption; assumption) | ((with_reducible apply neP); exact rfl; exact rfl; exact rfl; assumption; assumption; assumption) | ((with_reducible apply neZP); exact rfl; exact rfl; exact rfl; assumption; assumption) | (go_at_call 41; refine (HM.out _).mono ?_; rintro e w' ⟨rfl, hu⟩))
      go_ret
      exact ⟨rfl, (by repeat (first | assumption | (with_reducible apply Up.of) | (with_reducible exact Below.refl _ _) | (with_reducible exact Up.refl _) | ((with_reducible apply bl_setRow); (focus (first | exact Nat.le_refl _ | (simp; done) | (simp; omega) | omega))) | (with_reducible apply below_drewN) | (with_reducible apply Below.drew) | ((with_reducible apply bl_alloc); (focus (first | exact Nat.le_refl _ | (simp; done) | (simp; omega) | omega))) | ((with_reducible apply bl_setCell); (focus (first | exact Nat.le_refl _ | (simp; done) | (simp; omega) | omega))) | ((with_reducible apply up_tr); assumption)))⟩
def cmpZ (a b : Int) : Int := if a < b then -1 else if b < a then 1 else 0
theorem ord_cmp {a b : Int} (ha : InR a) (hb' : InR b) (h : a < 0 ↔ b < 0) : ordZ (enc a) (enc b) = cmpZ a b := by
  have h1 := ha.out
  have h2 := hb'.out
  have h3 := bp16
  have hk : (enc a < enc b ↔ a < b) ∧ (enc b < enc a ↔ b < a) := by
    by_cases a0 : a < 0
    · have e1 := enc_neg ha a0
      have e2 := enc_neg hb' (h.1 a0)
      omega
    · have e1 := enc_nn ha (by omega)
      have e2 := enc_nn hb' (by omega)
      omega
  unfold ordZ cmpZ
  simp only [hk.1, hk.2]
set_option maxHeartbeats 400000 in
theorem cmp_z {a b : Int} (ha : InR a) (hb' : InR b) (w : World) :
    Calls Try.prog 20 #[wideV (enc a), wideV (enc b)] w fun e w' => e = .returned (.int .i64 (cmpZ a b)) ∧ Up w w' := by
  have HA := hid (fun w => minus_z ha w)
  have HB := hid (fun w => minus_z hb' w)
  have HO := hid (fun w => order_any (enc a) (enc b) (enc_lt a) (enc_lt b) w)
  have hoc := ord_cmp ha hb'
  by_cases a0 : a < 0
  · have hd : decide (a < 0) = true := by simpa using a0
    rw [hd] at HA
    by_cases b0 : b < 0
    · have hd2 : decide (b < 0) = true := by simpa using b0
      rw [hd2] at HB
      rw [hoc (by simp [a0, b0])] at HO
      clear hoc a0 b0 hd hd2
      generalize cmpZ a b = c at *
      unfold wideV at *
      go_enter Try.func20, Try.ntmps20
      go_wp2_with (first | ((with_reducible apply ld_rowP undW infoW); exact rfl; exact rfl; focus (repeat (first | assumption | ((with_reducible apply row_newc); (focus (first | rfl | (simp; done)))) | ((with_reducible apply row_newz); (focus (first | rfl | (simp; done)))) | (with_reducible apply row_same) | ((with_reducible apply row_else); (focus (first | (simp; done) | (simp; omega) | omega))) | (with_reducible apply row_alloc) | (with_reducible apply row_drew) | (with_reducible apply row_drewN) | ((with_reducible apply row_up); assumption)))) | (go_at_call_of 41 (Value.agg (cells 16 (limb (enc a)))); refine (HA.out _).mono ?_; rintro e w' ⟨rfl, hu⟩) | (go_at_call_of 41 (Value.agg (cells 16 (limb (enc b)))); refine (HB.out _).mono ?_; rintro e w' ⟨rfl, hu⟩) | (go_at_call 50; refine (HO.out _).mono ?_; rintro e w' ⟨rfl, hu⟩))
      go_ret
      exact ⟨rfl, (by repeat (first | assumption | (with_reducible apply Up.of) | (with_reducible exact Below.refl _ _) | (with_reducible exact Up.refl _) | ((with_reducible apply bl_setRow); (focus (first | exact Nat.le_refl _ | (simp; done) | (simp; omega) | omega))) | (with_reducible apply below_drewN) | (with_reducible apply Below.drew) | ((with_reducible apply bl_alloc); (focus (first | exact Nat.le_refl _ | (simp; done) | (simp; omega) | omega))) | ((with_reducible apply bl_setCell); (focus (first | exact Nat.le_refl _ | (simp; done) | (simp; omega) | omega))) | ((with_reducible apply up_tr); assumption)))⟩
    · have hd2 : decide (b < 0) = false := by simpa using b0
      have e : cmpZ a b = -1 := by simp [cmpZ]; omega
      rw [hd2] at HB
      rw [e]
      clear hoc a0 b0 hd hd2 e
      unfold wideV at *
      go_enter Try.func20, Try.ntmps20
      go_wp2_with (first | ((with_reducible apply ld_rowP undW infoW); exact rfl; exact rfl; focus (repeat (first | assumption | ((with_reducible apply row_newc); (focus (first | rfl | (simp; done)))) | ((with_reducible apply row_newz); (focus (first | rfl | (simp; done)))) | (with_reducible apply row_same) | ((with_reducible apply row_else); (focus (first | (simp; done) | (simp; omega) | omega))) | (with_reducible apply row_alloc) | (with_reducible apply row_drew) | (with_reducible apply row_drewN) | ((with_reducible apply row_up); assumption)))) | (go_at_call_of 41 (Value.agg (cells 16 (limb (enc a)))); refine (HA.out _).mono ?_; rintro e w' ⟨rfl, hu⟩) | (go_at_call_of 41 (Value.agg (cells 16 (limb (enc b)))); refine (HB.out _).mono ?_; rintro e w' ⟨rfl, hu⟩) | (go_at_call 50; refine (HO.out _).mono ?_; rintro e w' ⟨rfl, hu⟩))
      go_ret
      exact ⟨rfl, (by repeat (first | assumption | (with_reducible apply Up.of) | (with_reducible exact Below.refl _ _) | (with_reducible exact Up.refl _) | ((with_reducible apply bl_setRow); (focus (first | exact Nat.le_refl _ | (simp; done) | (simp; omega) | omega))) | (with_reducible apply below_drewN) | (with_reducible apply Below.drew) | ((with_reducible apply bl_alloc); (focus (first | exact Nat.le_refl _ | (simp; done) | (simp; omega) | omega))) | ((with_reducible apply bl_setCell); (focus (first | exact Nat.le_refl _ | (simp; done) | (simp; omega) | omega))) | ((with_reducible apply up_tr); assumption)))⟩
  · have hd : decide (a < 0) = false := by simpa using a0
    rw [hd] at HA
    by_cases b0 : b < 0
    · have hd2 : decide (b < 0) = true := by simpa using b0
      have e : cmpZ a b = 1 := by
        have h1 : ¬ a < b := by omega
        have h2 : b < a := by omega
        simp [cmpZ, h1, h2]
      rw [hd2] at HB
      rw [e]
      clear hoc a0 b0 hd hd2 e
      unfold wideV at *
      go_enter Try.func20, Try.ntmps20
      go_wp2_with (first | ((with_reducible apply ld_rowP undW infoW); exact rfl; exact rfl; focus (repeat (first | assumption | ((with_reducible apply row_newc); (focus (first | rfl | (simp; done)))) | ((with_reducible apply row_newz); (focus (first | rfl | (simp; done)))) | (with_reducible apply row_same) | ((with_reducible apply row_else); (focus (first | (simp; done) | (simp; omega) | omega))) | (with_reducible apply row_alloc) | (with_reducible apply row_drew) | (with_reducible apply row_drewN) | ((with_reducible apply row_up); assumption)))) | (go_at_call_of 41 (Value.agg (cells 16 (limb (enc a)))); refine (HA.out _).mono ?_; rintro e w' ⟨rfl, hu⟩) | (go_at_call_of 41 (Value.agg (cells 16 (limb (enc b)))); refine (HB.out _).mono ?_; rintro e w' ⟨rfl, hu⟩) | (go_at_call 50; refine (HO.out _).mono ?_; rintro e w' ⟨rfl, hu⟩))
      go_ret
      exact ⟨rfl, (by repeat (first | assumption | (with_reducible apply Up.of) | (with_reducible exact Below.refl _ _) | (with_reducible exact Up.refl _) | ((with_reducible apply bl_setRow); (focus (first | exact Nat.le_refl _ | (simp; done) | (simp; omega) | omega))) | (with_reducible apply below_drewN) | (with_reducible apply Below.drew) | ((with_reducible apply bl_alloc); (focus (first | exact Nat.le_refl _ | (simp; done) | (simp; omega) | omega))) | ((with_reducible apply bl_setCell); (focus (first | exact Nat.le_refl _ | (simp; done) | (simp; omega) | omega))) | ((with_reducible apply up_tr); assumption)))⟩
    · have hd2 : decide (b < 0) = false := by simpa using b0
      rw [hd2] at HB
      rw [hoc (by simp [a0, b0])] at HO
      clear hoc a0 b0 hd hd2
      generalize cmpZ a b = c at *
      unfold wideV at *
      go_enter Try.func20, Try.ntmps20
      go_wp2_with (first | ((with_reducible apply ld_rowP undW infoW); exact rfl; exact rfl; focus (repeat (first | assumption | ((with_reducible apply row_newc); (focus (first | rfl | (simp; done)))) | ((with_reducible apply row_newz); (focus (first | rfl | (simp; done)))) | (with_reducible apply row_same) | ((with_reducible apply row_else); (focus (first | (simp; done) | (simp; omega) | omega))) | (with_reducible apply row_alloc) | (with_reducible apply row_drew) | (with_reducible apply row_drewN) | ((with_reducible apply row_up); assumption)))) | (go_at_call_of 41 (Value.agg (cells 16 (limb (enc a)))); refine (HA.out _).mono ?_; rintro e w' ⟨rfl, hu⟩) | (go_at_call_of 41 (Value.agg (cells 16 (limb (enc b)))); refine (HB.out _).mono ?_; rintro e w' ⟨rfl, hu⟩) | (go_at_call 50; refine (HO.out _).mono ?_; rintro e w' ⟨rfl, hu⟩))
      go_ret
      exact ⟨rfl, (by repeat (first | assumption | (with_reducible apply Up.of) | (with_reducible exact Below.refl _ _) | (with_reducible exact Up.refl _) | ((with_reducible apply bl_setRow); (focus (first | exact Nat.le_refl _ | (simp; done) | (simp; omega) | omega))) | (with_reducible apply below_drewN) | (with_reducible apply Below.drew) | ((with_reducible apply bl_alloc); (focus (first | exact Nat.le_refl _ | (simp; done) | (simp; omega) | omega))) | ((with_reducible apply bl_setCell); (focus (first | exact Nat.le_refl _ | (simp; done) | (simp; omega) | omega))) | ((with_reducible apply up_tr); assumption)))⟩
end Go.Proofs.Ytlkolfnklbldcaa
