/-
  The laws' wide numbers: made of limbs, of so many bits, or near an edge.
-/
import Derived.Test.YtlkolfnklbldcaaTo
import Derived.Test.YtlkolfnklbldcaaOps
import Derived.Deep.DeepCutAuto
import Derived.Deep.CutBlock
import Derived.Deep.CutRange
namespace Go.Proofs.Ytlkolfnklbldcaa
open Go Go.RowKit
set_option maxRecDepth 100000

theorem limb_mask (X m i : Nat) : limb (X % 2 ^ m) i = if m ≤ 64 * i then 0 else if m - 64 * i < 64 then limb X i % 2 ^ (m - 64 * i) else limb X i := by
  have hp : bp i = 2 ^ (64 * i) := bp_two i
  split
  · rename_i h
    refine limb_of_small (k := i) ?_ (Nat.le_refl _)
    rw [hp]
    exact Nat.lt_of_lt_of_le (Nat.mod_lt _ (Nat.two_pow_pos _)) (Nat.pow_le_pow_right (by decide) h)
  · rename_i h
    have e : 2 ^ m = 2 ^ (64 * i) * 2 ^ (m - 64 * i) := by rw [← Nat.pow_add]; congr 1; omega
    unfold limb
    rw [hp, e, Nat.mod_mul_right_div_self]
    split
    · rename_i h2
      rw [Nat.mod_mod_of_dvd _ (Nat.pow_dvd_pow 2 (show m - 64 * i ≤ 64 by omega))]
      refine Nat.mod_eq_of_lt (Nat.lt_of_lt_of_le (Nat.mod_lt _ (Nat.two_pow_pos _)) ?_)
      exact Nat.pow_le_pow_right (n := 2) (by decide) (show m - 64 * i ≤ 64 by omega)
    · rename_i h2
      exact Nat.mod_mod_of_dvd _ (Nat.pow_dvd_pow 2 (show 64 ≤ m - 64 * i by omega))

/-- A slice of limbs that was handed in. -/
structure Lim (w : World) (ao : Option Addr) (len : Nat) (f : Nat → Nat) : Prop where
  le64 : len ≤ 9223372036854775807
  small : ∀ i, f i < 18446744073709551616
  cell : ∀ i, i < len → ∃ b off, ao = some ⟨b, off, none⟩ ∧ ∀ w', Up w w' → w'.cell? ⟨b, off + i, none⟩ = some (.int .u64 (f i : Nat))
theorem Lim.up {w w' : World} {ao : Option Addr} {len : Nat} {f : Nat → Nat} (h : Lim w ao len f) (hu : Up w w') : Lim w' ao len f :=
  ⟨h.le64, h.small, fun i hi => let ⟨b, off, e, hc⟩ := h.cell i hi; ⟨b, off, e, fun w'' hu' => hc w'' (hu.trans hu')⟩⟩
def padL (len : Nat) (f : Nat → Nat) : Nat → Nat := fun i => if i < len then f i else 0
theorem padL_in {len i : Nat} {f : Nat → Nat} (h : i < len) : padL len f i = f i := by simp [padL, h]
theorem padL_out {len i : Nat} {f : Nat → Nat} (h : ¬ i < len) : padL len f i = 0 := by simp [padL, h]
theorem row_other1 {w : World} {b g i v : Nat} {t : TypeId} {n : Nat} {f : Nat → Nat} (h : Row w b t n f) (hb : b ≠ g) : Row (w.setCell ⟨g, i, none⟩ (.int .u64 (v : Nat))) b t n f := h.other ⟨g, i, none⟩ _ hb
theorem least16 : (#[.int .u64 0, .int .u64 0, .int .u64 0, .int .u64 0, .int .u64 0, .int .u64 0, .int .u64 0, .int .u64 0, .int .u64 0, .int .u64 0, .int .u64 0, .int .u64 0, .int .u64 0, .int .u64 0, .int .u64 0, .int .u64 9223372036854775808] : Array Value) = cells 16 (limb hb) := by
  rw [cells_congr zeros_get]
  unfold cells
  rfl
theorem st_rowM {P : Program} {t : TypeId} {a : Act} {w : World} {ops : Array Oper} {rest : List Oper} {Q : Exit → Act → World → Prop} {d : Option Tmp} {s u : Tmp} {ty : TypeId} {pos : String} {af : Array Edge} (hi : (P.info? t).map (·.size) = some 16)
    {g : Nat} {f : Nat → Nat} (hx : a.eval (.tmp s) = .pointer (some ⟨g, 0, none⟩)) (hy : a.eval (.tmp u) = .agg #[.int .u64 0, .int .u64 0, .int .u64 0, .int .u64 0, .int .u64 0, .int .u64 0, .int .u64 0, .int .u64 0, .int .u64 0, .int .u64 0, .int .u64 0, .int .u64 0, .int .u64 0, .int .u64 0, .int .u64 0, .int .u64 9223372036854775808]) (hC : Row w g t 16 f) (h : wpList P ops Q rest (a.put d undef) (w.setRow g (cells 16 (limb hb)))) :
    wpList P ops Q ({ dst := d, op := .store t (.tmp s) (.tmp u), type := ty, pos := pos, after := af, guard := none } :: rest) a w := st_rowP hi hx (by rw [hy, least16]) hC h

/-- The limbs' number ahead of the sign. -/
def rawV (q m X : Nat) : Nat := if q = 0 then 0 else if q = 1 then hb - 1 else if q = 2 then hb else if q = 3 then (if m = 0 then 0 else 2 ^ (m - 1)) else X % 2 ^ m
theorem raw_lt {q m X : Nat} (hm : m ≤ 1024) : rawV q m X < bp 16 := by
  have h1 := bp16
  have h2 := hb_pos
  obtain ⟨c, hc⟩ : ∃ c, c = 1024 := ⟨_, rfl⟩
  have h3 := bp_two 16
  rw [show 64 * 16 = c by omega] at h3
  unfold rawV
  split
  · omega
  split
  · omega
  split
  · omega
  split
  · split
    · omega
    · rw [h3]
      exact Nat.pow_lt_pow_right (by decide) (by omega)
  · rw [h3]
    exact Nat.lt_of_lt_of_le (Nat.mod_lt _ (Nat.two_pow_pos _)) (Nat.pow_le_pow_right (by decide) (by omega))
theorem sum_max (n : Nat) : sumL (fun _ => 18446744073709551615) n + 1 = bp n := by
  induction n with
  | zero => simp [sumL_zero, bp_zero]
  | succ n ih => rw [sumL_succ, bp_succ]; omega
theorem most_get {S : Nat → Nat} (hS : ∀ j, j < 16 → S j = 18446744073709551615) : ∀ j, j < 16 → upd S 15 9223372036854775807 j = limb (hb - 1) j := by
  intro j hj
  have e : sumL (upd S 15 9223372036854775807) 16 = hb - 1 := by
    rw [sumL_upd_succ, sumL_congr (g := fun _ => 18446744073709551615) (fun i hi => hS i (by omega))]
    have h1 := sum_max 15
    unfold hb
    generalize sumL _ 15 = s at *
    omega
  rw [← e]
  exact (limb_sumL (n := 16) (upd_lt (fun i hi => by rw [hS i hi]; decide) (by decide)) hj).symm
def Rawd (w : World) (r : Nat) (wc : World) : Prop := Row wc w.heap.size 27 16 (fun _ => 0) ∧ Row wc (w.heap.size + 1) 27 16 (limb r) ∧ Below w.heap.size w wc
/-- What stands ahead of the switch: the limbs cut to m bits. -/
def Cutd (w : World) (X m : Nat) (wc : World) : Prop := Row wc w.heap.size 27 16 (fun _ => 0) ∧ Row wc (w.heap.size + 1) 27 16 (limb (X % 2 ^ m)) ∧ Below w.heap.size w wc
def Padd (w : World) (len : Nat) (f : Nat → Nat) (wc : World) : Prop := Row wc w.heap.size 27 16 (fun _ => 0) ∧ Row wc (w.heap.size + 1) 27 16 (padL len f) ∧ Below w.heap.size w wc
theorem padL_lt {len : Nat} {f : Nat → Nat} (h : ∀ i, f i < 18446744073709551616) (i : Nat) : padL len f i < 18446744073709551616 := by
  unfold padL; split
  · exact h i
  · omega
theorem cut_next {S F G : Nat → Nat} {i v : Nat} (h : ∀ j, S j = if j < i then G j else F j) (hv : v = G i) : ∀ j, upd S i v j = if j < i + 1 then G j else F j := by
  intro j
  unfold upd
  rw [h j]
  by_cases e : j = i
  · subst e; simp [hv]
  · rw [if_neg e]
    by_cases e2 : j < i
    · rw [if_pos e2, if_pos (by omega)]
    · rw [if_neg e2, if_neg (by omega)]
theorem cut_same {S F G : Nat → Nat} {i : Nat} (h : ∀ j, S j = if j < i then G j else F j) (hv : F i = G i) : ∀ j, S j = if j < i + 1 then G j else F j := by
  intro j
  rw [h j]
  by_cases e : j = i
  · subst e; simp [hv]
  · by_cases e2 : j < i
    · rw [if_pos e2, if_pos (by omega)]
    · rw [if_neg e2, if_neg (by omega)]
set_option maxHeartbeats 4000000 in
theorem wmade_w {ao : Option Addr} {len cap : Nat} {f : Nat → Nat} (n k : Nat) (hn : n < 65536) (_ : k < 256) (neg : Bool) (w : World) (hL : Lim w ao len f) {z : Int} (hz : InR z) (he : enc z = rawV (k % 8) (n % 1025) (sumL (padL len f) 16)) {yv : Nat} (hyv : yv = enc (if neg = true ∧ k % 8 ≠ 2 then (if InR (-z) then -z else 0) else z)) :
    Calls Try.prog 11 #[.slice ao len cap, .int .u16 n, .bool neg, .int .u8 k] w fun e w' => e = .returned (wideV yv) ∧ Up w w' := by
  obtain ⟨m, hm⟩ : ∃ m, n % 1025 = m := ⟨_, rfl⟩
  have hm2 : m ≤ 1024 := by omega
  have em : (n : Int).tmod 1025 = (m : Nat) := by
    rw [show (1025 : Int) = ((1025 : Nat) : Int) from rfl, ← Int.ofNat_tmod, hm]
  have HL := hid hL
  have hlen := hL.le64
  obtain ⟨q, hq⟩ : ∃ q, k % 8 = q := ⟨_, rfl⟩
  have hq8 : q < 8 := by omega
  have ek : (k : Int).tmod 8 = (q : Nat) := by
    rw [show (8 : Int) = ((8 : Nat) : Int) from rfl, ← Int.ofNat_tmod, hq]
  have EK := hid ek
  rw [hq, hm] at he
  rw [hq] at hyv
  have HYV := hid hyv
  clear hyv
  have hF := fun w => from_wide hz w
  have hna := enc_natAbs hz
  have hnz : nl (-z).natAbs < 50000 := by
    have := nl_le (x := (-z).natAbs) (k := 16) (by omega)
    omega
  clear hL hm hq ek hna
  have HE := hid he
  clear he
  go_enter Try.func11, Try.ntmps11
  go_upto_block 0 with (fail)
  go_cut [11] (fun _ wc => Padd w len f wc)
  case first =>
    clear em
    go_wp2_with fail
    go_loopw [11] (fun ti wr => ∃ (i : Nat) (S : Nat → Nat), i ≤ 16 ∧ ti = .int .i64 (i : Nat) ∧ (∀ j, S j = if j < i then padL len f j else 0) ∧
          Row wr w.heap.size 27 16 (fun _ => 0) ∧ Row wr (w.heap.size + 1) 27 16 S ∧ Below w.heap.size w wr)
        (fun ti _ => 16 - (intOf ti).toNat)
    case atStart => exact ⟨0, fun _ => 0, by omega, rfl, fun j => by simp, (by (repeat (first | assumption | ((with_reducible apply row_newc); (focus (first | rfl | (simp; done)))) | ((with_reducible apply row_newz); (focus (first | rfl | (simp; done)))) | (with_reducible apply row_same) | ((with_reducible apply row_else); (focus (first | (simp; done) | (simp; omega) | omega))) | (with_reducible apply row_alloc) | (with_reducible apply row_drew) | (with_reducible apply row_drewN) | ((with_reducible apply row_up); assumption)))), (by (repeat (first | assumption | ((with_reducible apply row_newc); (focus (first | rfl | (simp; done)))) | ((with_reducible apply row_newz); (focus (first | rfl | (simp; done)))) | (with_reducible apply row_same) | ((with_reducible apply row_else); (focus (first | (simp; done) | (simp; omega) | omega))) | (with_reducible apply row_alloc) | (with_reducible apply row_drew) | (with_reducible apply row_drewN) | ((with_reducible apply row_up); assumption)))), (by repeat (first | assumption | (with_reducible apply Up.of) | (with_reducible exact Below.refl _ _) | (with_reducible exact Up.refl _) | ((with_reducible apply bl_setRow); (focus (first | exact Nat.le_refl _ | (simp; done) | (simp; omega) | omega))) | (with_reducible apply below_drewN) | (with_reducible apply Below.drew) | ((with_reducible apply bl_alloc); (focus (first | exact Nat.le_refl _ | (simp; done) | (simp; omega) | omega))) | ((with_reducible apply bl_setCell); (focus (first | exact Nat.le_refl _ | (simp; done) | (simp; omega) | omega))) | ((with_reducible apply up_tr); assumption)))⟩
    case round =>
      obtain ⟨i, S, hi, rfl, hS, hZ, hR, hB⟩ := hrel
      have HS := hid hS
      clear hS
      by_cases hlt : i < 16 ∧ i < len
      · obtain ⟨hl1, hl2⟩ := hlt
        obtain ⟨b, off, rfl, hcA⟩ := HL.out.cell i hl2
        have hcx := hcA wr hB
        have hfx := hR.frozen i
        have hcr := hR.cell i hl1
        have gZ := hZ.other ⟨w.heap.size + 1, i, none⟩ (.int .u64 (f i : Nat)) (by simp)
        have gS := hR.set i (f i)
        have gB := hB.setCell (p := ⟨w.heap.size + 1, i, none⟩) (by simp) (.int .u64 (f i : Nat))
        clear hZ hR hB hcA
        go_wp2
        go_roundw
        case rel =>
          refine ⟨i + 1, upd S i (f i), by omega, by go_num, fun j => ?_, gZ, gS, gB⟩
          unfold upd
          rw [HS.out j]
          by_cases e : j = i
          · subst e; simp [padL, hl2]
          · rw [if_neg e]
            by_cases e2 : j < i
            · rw [if_pos e2, if_pos (by omega)]
            · rw [if_neg e2, if_neg (by omega)]
        case measure => simp [intOf] <;> omega
      · have hSp : ∀ j, j < 16 → S j = padL len f j := fun j hj => by
          rw [HS.out j]
          by_cases e : j < i
          · rw [if_pos e]
          · rw [if_neg e, padL_out (by omega)]
        have gR : Row wr (w.heap.size + 1) 27 16 (padL len f) := hR.congr hSp
        clear hR hSp HS
        have gP := hid (show Padd w len f wr from ⟨hZ, gR, hB⟩)
        clear hZ gR hB
        by_cases h : i < 16
        · have h2 : ¬ i < len := by omega
          clear hlt
          go_wp2
          go_meet
          case rel => exact gP.out
        · have h2 : ¬ i < 16 := h
          clear hlt
          go_wp2
          go_meet
          case rel => exact gP.out
  case rest =>
    obtain ⟨hZ, hR, hB⟩ := hcut
    have hpl := hid (padL_lt (len := len) HL.out.small)
    clear HL hlen
    generalize padL len f = F at *
    obtain ⟨X, hX⟩ : ∃ X, sumL F 16 = X := ⟨_, rfl⟩
    have hlX : ∀ i, i < 16 → limb X i = F i := fun i hi => by rw [← hX]; exact limb_sumL (fun i _ => hpl.out i) hi
    have HX := hid hlX
    have he := HE.out
    rw [hX] at he
    clear HE
    have HE := hid he
    clear hX hlX he
    go_upto_block 2 with (fail)
    go_cut [12] (fun _ wc => Cutd w X m wc)
    case first =>
      clear em
      go_wp2_with fail
      go_loopw [12] (fun ti wr => ∃ (i : Nat) (S : Nat → Nat), i ≤ 16 ∧ ti = .int .i64 (i : Nat) ∧ (∀ j, S j = if j < i then limb (X % 2 ^ m) j else F j) ∧
            Row wr w.heap.size 27 16 (fun _ => 0) ∧ Row wr (w.heap.size + 1) 27 16 S ∧ Below w.heap.size w wr)
          (fun ti _ => 16 - (intOf ti).toNat)
      case atStart => exact ⟨0, F, by omega, rfl, fun j => by simp, (by (repeat (first | assumption | ((with_reducible apply row_newc); (focus (first | rfl | (simp; done)))) | ((with_reducible apply row_newz); (focus (first | rfl | (simp; done)))) | (with_reducible apply row_same) | ((with_reducible apply row_else); (focus (first | (simp; done) | (simp; omega) | omega))) | (with_reducible apply row_alloc) | (with_reducible apply row_drew) | (with_reducible apply row_drewN) | ((with_reducible apply row_up); assumption)))), (by (repeat (first | assumption | ((with_reducible apply row_newc); (focus (first | rfl | (simp; done)))) | ((with_reducible apply row_newz); (focus (first | rfl | (simp; done)))) | (with_reducible apply row_same) | ((with_reducible apply row_else); (focus (first | (simp; done) | (simp; omega) | omega))) | (with_reducible apply row_alloc) | (with_reducible apply row_drew) | (with_reducible apply row_drewN) | ((with_reducible apply row_up); assumption)))), (by repeat (first | assumption | (with_reducible apply Up.of) | (with_reducible exact Below.refl _ _) | (with_reducible exact Up.refl _) | ((with_reducible apply bl_setRow); (focus (first | exact Nat.le_refl _ | (simp; done) | (simp; omega) | omega))) | (with_reducible apply below_drewN) | (with_reducible apply Below.drew) | ((with_reducible apply bl_alloc); (focus (first | exact Nat.le_refl _ | (simp; done) | (simp; omega) | omega))) | ((with_reducible apply bl_setCell); (focus (first | exact Nat.le_refl _ | (simp; done) | (simp; omega) | omega))) | ((with_reducible apply up_tr); assumption)))⟩
      case round =>
        clear hZ hR hB
        obtain ⟨i, S, hi, rfl, hS, hZ, hR, hB⟩ := hrel
        have HS := hid hS
        clear hS
        by_cases hlt : i < 16
        · have hSi : S i = F i := by rw [HS.out i, if_neg (by omega)]
          have hMk := limb_mask X m i
          rw [HX.out i hlt] at hMk
          have HM := hid hMk
          have hlF := hpl.out i
          clear hMk
          have e1 : IntKind.i64.wrap (64 * (i : Int)) = 64 * (i : Int) := IntWalk.i64_in _ (by omega)
          by_cases hc1 : m ≤ 64 * i
          · have hM2 := HM.out
            rw [if_pos hc1] at hM2
            have HM2 := hid hM2
            clear hM2 HM
            have hfx := hR.frozen i
            have hcr := hR.cell i hlt
            have gZ := hZ.other ⟨w.heap.size + 1, i, none⟩ (.int .u64 0) (by simp)
            have gS : Row (wr.setCell ⟨w.heap.size + 1, i, none⟩ (.int .u64 0)) (w.heap.size + 1) 27 16 (upd S i 0) := hR.set i 0
            have gB := hB.setCell (p := ⟨w.heap.size + 1, i, none⟩) (by simp) (.int .u64 0)
            clear hZ hR hB
            go_wp2
            go_roundw
            case rel => exact ⟨i + 1, upd S i 0, by omega, by go_num, cut_next HS.out HM2.out.symm, gZ, gS, gB⟩
            case measure => simp [intOf] <;> omega
          · have e2 : IntKind.i64.wrap ((m : Int) - 64 * (i : Int)) = ((m - 64 * i : Nat) : Int) := by rw [IntWalk.i64_in _ (by omega)]; omega
            have hM2 := HM.out
            rw [if_neg hc1] at hM2
            obtain ⟨s, hs⟩ : ∃ s, m - 64 * i = s := ⟨_, rfl⟩
            rw [hs] at e2 hM2
            by_cases hc2 : s < 64
            · rw [if_pos hc2] at hM2
              have HM2 := hid hM2
              have hsI := hid hSi
              clear hM2 HM hs hSi
              have hcr := hR.cell i hlt
              go_wp2
              refine wp_region_upS (S := (fun wq => Row wq w.heap.size 27 16 (fun _ => 0) ∧ Row wq (w.heap.size + 1) 27 16 S ∧ wq.cell? ⟨w.heap.size + 1, i, none⟩ = some (.int .u64 (S i : Nat)) ∧ Below w.heap.size w wq)) (req := (fun j => j != 11)) (by kernel_rfl) (fun _ _ h hu => ⟨(h.1).up hu, (h.2.1).up hu, hu.cell (h.2.2.1), below_up (h.2.2.2) hu⟩) ⟨(by (repeat (first | assumption | ((with_reducible apply row_newc); (focus (first | rfl | (simp; done)))) | ((with_reducible apply row_newz); (focus (first | rfl | (simp; done)))) | (with_reducible apply row_same) | ((with_reducible apply row_else); (focus (first | (simp; done) | (simp; omega) | omega))) | (with_reducible apply row_alloc) | (with_reducible apply row_drew) | (with_reducible apply row_drewN) | ((with_reducible apply row_up); assumption)))), (by (repeat (first | assumption | ((with_reducible apply row_newc); (focus (first | rfl | (simp; done)))) | ((with_reducible apply row_newz); (focus (first | rfl | (simp; done)))) | (with_reducible apply row_same) | ((with_reducible apply row_else); (focus (first | (simp; done) | (simp; omega) | omega))) | (with_reducible apply row_alloc) | (with_reducible apply row_drew) | (with_reducible apply row_drewN) | ((with_reducible apply row_up); assumption)))), (by first | assumption | (apply Blk.cell; (focus (repeat (first | assumption | ((with_reducible apply blk_new); (focus (first | rfl | (simp; done)))) | (with_reducible apply blk_alloc) | (with_reducible apply blk_drew) | (with_reducible apply blk_drewN) | ((with_reducible apply blk_up); assumption) | (with_reducible apply blk_same) | ((with_reducible apply blk_else); (focus (first | (simp; done) | (simp; omega) | omega)))))); exact rfl)), (by repeat (first | assumption | (with_reducible apply Up.of) | (with_reducible exact Below.refl _ _) | (with_reducible exact Up.refl _) | ((with_reducible apply bl_setRow); (focus (first | exact Nat.le_refl _ | (simp; done) | (simp; omega) | omega))) | (with_reducible apply below_drewN) | (with_reducible apply Below.drew) | ((with_reducible apply bl_alloc); (focus (first | exact Nat.le_refl _ | (simp; done) | (simp; omega) | omega))) | ((with_reducible apply bl_setCell); (focus (first | exact Nat.le_refl _ | (simp; done) | (simp; omega) | omega))) | ((with_reducible apply up_tr); assumption)))⟩ (fun wS hSS => ?_)
              have ⟨hS1, hS2, hS3, hSB⟩ := hSS
              refine wpAnyU_pure (i := 0) (d := (some 50)) (v := ?_) rfl rfl (by kernel_rfl) (fun _ _ _ h => h) (fun _ _ h hu => ⟨(h.1).up hu, (h.2.1).up hu, hu.cell (h.2.2.1), below_up (h.2.2.2) hu⟩) (Or.inl ⟨by rfl, fun w' _ => yu_value ?_⟩) ?_
              rotate_left
              · (go_simp; (try exact rfl))
              try simp only [Act.put, List.setIfInBounds_toArray, List.set_cons_zero, List.set_cons_succ]
              refine wpAnyU_pure (i := 1) (d := (some 51)) (v := ?_) rfl rfl (by kernel_rfl) (fun _ _ _ h => h) (fun _ _ h hu => ⟨(h.1).up hu, (h.2.1).up hu, hu.cell (h.2.2.1), below_up (h.2.2.2) hu⟩) (Or.inl ⟨by rfl, fun w' _ => yu_value ?_⟩) ?_
              rotate_left
              · (go_simp; (try exact rfl))
              try simp only [Act.put, List.setIfInBounds_toArray, List.set_cons_zero, List.set_cons_succ]
              refine wpAnyU_take (i := 2) (d := (some 52)) (v := ?_) rfl rfl (by kernel_rfl) (fun _ _ _ h => h) (fun _ _ h hu => ⟨(h.1).up hu, (h.2.1).up hu, hu.cell (h.2.2.1), below_up (h.2.2.2) hu⟩) hSS (Or.inl ⟨by rfl, fun w' hSw => yu_value ?_⟩) ?_
              rotate_left
              · ((try dsimp only at hSw); (try obtain ⟨_, _, _, _⟩ := hSw); go_simp; (try exact rfl))
              try simp only [Act.put, List.setIfInBounds_toArray, List.set_cons_zero, List.set_cons_succ]
              refine wpAnyU_pure (i := 3) (d := (some 53)) (v := ?_) rfl rfl (by kernel_rfl) (fun _ _ _ h => h) (fun _ _ h hu => ⟨(h.1).up hu, (h.2.1).up hu, hu.cell (h.2.2.1), below_up (h.2.2.2) hu⟩) (Or.inl ⟨by rfl, fun w' _ => yu_value ?_⟩) ?_
              rotate_left
              · (go_simp; (try exact rfl))
              try simp only [Act.put, List.setIfInBounds_toArray, List.set_cons_zero, List.set_cons_succ]
              refine wpAnyU_pure (i := 4) (d := (some 54)) (v := ?_) rfl rfl (by kernel_rfl) (fun _ _ _ h => h) (fun _ _ h hu => ⟨(h.1).up hu, (h.2.1).up hu, hu.cell (h.2.2.1), below_up (h.2.2.2) hu⟩) (Or.inl ⟨by rfl, fun w' _ => yu_value ?_⟩) ?_
              rotate_left
              · (go_simp; (try exact rfl))
              try simp only [Act.put, List.setIfInBounds_toArray, List.set_cons_zero, List.set_cons_succ]
              refine wpAnyU_pure (i := 5) (d := (some 55)) (v := ?_) rfl rfl (by kernel_rfl) (fun _ _ _ h => h) (fun _ _ h hu => ⟨(h.1).up hu, (h.2.1).up hu, hu.cell (h.2.2.1), below_up (h.2.2.2) hu⟩) (Or.inl ⟨by rfl, fun w' _ => yu_value ?_⟩) ?_
              rotate_left
              · (go_simp; (try exact rfl))
              try simp only [Act.put, List.setIfInBounds_toArray, List.set_cons_zero, List.set_cons_succ]
              refine wpAnyU_pure (i := 6) (d := (some 56)) (v := ?_) rfl rfl (by kernel_rfl) (fun _ _ _ h => h) (fun _ _ h hu => ⟨(h.1).up hu, (h.2.1).up hu, hu.cell (h.2.2.1), below_up (h.2.2.2) hu⟩) (Or.inl ⟨by rfl, fun w' _ => yu_value ?_⟩) ?_
              rotate_left
              · (go_simp; (try exact rfl))
              try simp only [Act.put, List.setIfInBounds_toArray, List.set_cons_zero, List.set_cons_succ]
              refine wpAnyU_pure (i := 7) (d := (some 57)) (v := _) rfl rfl (by kernel_rfl) (fun _ _ _ h => h) (fun _ _ h hu => ⟨(h.1).up hu, (h.2.1).up hu, hu.cell (h.2.2.1), below_up (h.2.2.2) hu⟩) (Or.inl ⟨by rfl, fun w' _ => yu_value (op_shl1 rfl rfl rfl hc2 _)⟩) ?_
              try simp only [Act.put, List.setIfInBounds_toArray, List.set_cons_zero, List.set_cons_succ]
              refine wpAnyU_pure (i := 8) (d := (some 58)) (v := _) rfl rfl (by kernel_rfl) (fun _ _ _ h => h) (fun _ _ h hu => ⟨(h.1).up hu, (h.2.1).up hu, hu.cell (h.2.2.1), below_up (h.2.2.2) hu⟩) (Or.inl ⟨by rfl, fun w' _ => yu_value (op_sub1 rfl rfl rfl hc2 _)⟩) ?_
              try simp only [Act.put, List.setIfInBounds_toArray, List.set_cons_zero, List.set_cons_succ]
              refine wpAnyU_pure (i := 9) (d := (some 59)) (v := _) rfl rfl (by kernel_rfl) (fun _ _ _ h => h) (fun _ _ h hu => ⟨(h.1).up hu, (h.2.1).up hu, hu.cell (h.2.2.1), below_up (h.2.2.2) hu⟩) (Or.inl ⟨by rfl, fun w' _ => yu_value (op_andM rfl rfl rfl (by rw [hsI.out]; exact hpl.out i) hc2 _)⟩) ?_
              try simp only [Act.put, List.setIfInBounds_toArray, List.set_cons_zero, List.set_cons_succ]
              refine wpAnyU_pure (i := 10) (d := (some 60)) (v := ?_) rfl rfl (by kernel_rfl) (fun _ _ _ h => h) (fun _ _ h hu => ⟨(h.1).up hu, (h.2.1).up hu, hu.cell (h.2.2.1), below_up (h.2.2.2) hu⟩) (Or.inl ⟨by rfl, fun w' _ => yu_value ?_⟩) ?_
              rotate_left
              · (go_simp; (try exact rfl))
              try simp only [Act.put, List.setIfInBounds_toArray, List.set_cons_zero, List.set_cons_succ]
              refine wpAnyU_one (i := 11) rfl (by kernel_rfl) (by rfl) fun w1 hw1 => ?_
              have hcW := (hS2.up hw1).cell i (by omega)
              have hfW := (hS2.up hw1).frozen i
              go_simp
              clear hcW hfW
              refine wpAnyU_done (by kernel_rfl) (fun wF huE => ?_) _
              have gZ := (row_other1 (i := i) (v := S i % 2 ^ s) (hS1.up hw1) (show w.heap.size ≠ w.heap.size + 1 by omega)).up huE
              have gS := ((hS2.up hw1).set i (S i % 2 ^ s)).up huE
              have gB := below_up ((below_up hSB hw1).setCell (p := ⟨w.heap.size + 1, i, none⟩) (by simp) (.int .u64 (S i % 2 ^ s : Nat))) huE
              clear hS1 hS2 hS3 hSB hSS hw1 huE hcr hZ hR hB
              go_wp2
              go_roundw
              case rel => exact ⟨i + 1, upd S i (S i % 2 ^ s), by omega, by go_num, cut_next HS.out (by rw [HM2.out, hsI.out]), gZ, gS, gB⟩
              case measure => simp [intOf] <;> omega
            · rw [if_neg hc2] at hM2
              have HM2 := hid hM2
              clear hM2 HM hs hSi
              go_wp2
              go_roundw
              case rel => exact ⟨i + 1, S, by omega, by go_num, cut_same HS.out HM2.out.symm, hZ, hR, hB⟩
              case measure => simp [intOf] <;> omega
        · have gR : Row wr (w.heap.size + 1) 27 16 (limb (X % 2 ^ m)) := hR.congr fun j hj => by rw [HS.out j, if_pos (by omega)]
          have gP := hid (show Cutd w X m wr from ⟨hZ, gR, hB⟩)
          clear hZ hR hB gR HS
          go_wp2
          go_meet
          case rel => exact gP.out
    case rest =>
      obtain ⟨hZ, hR, hB⟩ := hcut
      clear HX hpl
      have hr16 := hid (raw_lt (q := q) (m := m) (X := X) hm2)
      obtain ⟨r, hr⟩ : ∃ r, rawV q m X = r := ⟨_, rfl⟩
      rw [hr] at hr16
      have HR := hid hr
      have he := HE.out
      rw [hr] at he
      clear HE
      rw [he] at hF
      have HF := hid hF
      have HEr := hid he
      clear hr he hF
      have ek := EK.out
      go_upto_block 4 with (fail)
      go_cut [61] (fun _ wc => Rawd w r wc)
      case first =>
        clear em
        have hrv := HR.out
        unfold rawV at hrv
        have hqq : q = 0 ∨ q = 1 ∨ q = 2 ∨ q = 3 ∨ 4 ≤ q := by omega
        rcases hqq with rfl | rfl | rfl | rfl | hq4
        · rw [if_pos rfl] at hrv
          subst hrv
          have ez : limb 0 = fun _ => 0 := by funext i; exact limb_of_small (k := 0) (by rw [bp_zero]; omega) (Nat.zero_le _)
          go_wp2_with (first | ((with_reducible apply st_rowP infoW); exact rfl; exact rfl; focus (repeat (first | assumption | ((with_reducible apply row_newc); (focus (first | rfl | (simp; done)))) | ((with_reducible apply row_newz); (focus (first | rfl | (simp; done)))) | (with_reducible apply row_same) | ((with_reducible apply row_else); (focus (first | (simp; done) | (simp; omega) | omega))) | (with_reducible apply row_alloc) | (with_reducible apply row_drew) | (with_reducible apply row_drewN) | ((with_reducible apply row_up); assumption)))) | ((with_reducible apply st_rowZ infoW); exact rfl; exact rfl; focus (repeat (first | assumption | ((with_reducible apply row_newc); (focus (first | rfl | (simp; done)))) | ((with_reducible apply row_newz); (focus (first | rfl | (simp; done)))) | (with_reducible apply row_same) | ((with_reducible apply row_else); (focus (first | (simp; done) | (simp; omega) | omega))) | (with_reducible apply row_alloc) | (with_reducible apply row_drew) | (with_reducible apply row_drewN) | ((with_reducible apply row_up); assumption)))))
          go_meet
          case rel => exact ⟨(by (repeat (first | assumption | ((with_reducible apply row_newc); (focus (first | rfl | (simp; done)))) | ((with_reducible apply row_newz); (focus (first | rfl | (simp; done)))) | (with_reducible apply row_same) | ((with_reducible apply row_else); (focus (first | (simp; done) | (simp; omega) | omega))) | (with_reducible apply row_alloc) | (with_reducible apply row_drew) | (with_reducible apply row_drewN) | ((with_reducible apply row_up); assumption)))), by rw [ez]; exact (by (repeat (first | assumption | ((with_reducible apply row_newc); (focus (first | rfl | (simp; done)))) | ((with_reducible apply row_newz); (focus (first | rfl | (simp; done)))) | (with_reducible apply row_same) | ((with_reducible apply row_else); (focus (first | (simp; done) | (simp; omega) | omega))) | (with_reducible apply row_alloc) | (with_reducible apply row_drew) | (with_reducible apply row_drewN) | ((with_reducible apply row_up); assumption)))), (by repeat (first | assumption | (with_reducible apply Up.of) | (with_reducible exact Below.refl _ _) | (with_reducible exact Up.refl _) | ((with_reducible apply bl_setRow); (focus (first | exact Nat.le_refl _ | (simp; done) | (simp; omega) | omega))) | (with_reducible apply below_drewN) | (with_reducible apply Below.drew) | ((with_reducible apply bl_alloc); (focus (first | exact Nat.le_refl _ | (simp; done) | (simp; omega) | omega))) | ((with_reducible apply bl_setCell); (focus (first | exact Nat.le_refl _ | (simp; done) | (simp; omega) | omega))) | ((with_reducible apply up_tr); assumption)))⟩
        · rw [if_neg (by decide), if_pos rfl] at hrv
          go_wp2_with fail
          go_loopw [13] (fun ti wr => ∃ (i : Nat) (S : Nat → Nat), i ≤ 16 ∧ ti = .int .i64 (i : Nat) ∧ (∀ j, j < i → S j = 18446744073709551615) ∧
              Row wr w.heap.size 27 16 (fun _ => 0) ∧ Row wr (w.heap.size + 1) 27 16 S ∧ Below w.heap.size w wr)
            (fun ti _ => 16 - (intOf ti).toNat)
          case atStart => exact ⟨0, limb (X % 2 ^ m), by omega, rfl, fun j hj => by omega, (by (repeat (first | assumption | ((with_reducible apply row_newc); (focus (first | rfl | (simp; done)))) | ((with_reducible apply row_newz); (focus (first | rfl | (simp; done)))) | (with_reducible apply row_same) | ((with_reducible apply row_else); (focus (first | (simp; done) | (simp; omega) | omega))) | (with_reducible apply row_alloc) | (with_reducible apply row_drew) | (with_reducible apply row_drewN) | ((with_reducible apply row_up); assumption)))), (by (repeat (first | assumption | ((with_reducible apply row_newc); (focus (first | rfl | (simp; done)))) | ((with_reducible apply row_newz); (focus (first | rfl | (simp; done)))) | (with_reducible apply row_same) | ((with_reducible apply row_else); (focus (first | (simp; done) | (simp; omega) | omega))) | (with_reducible apply row_alloc) | (with_reducible apply row_drew) | (with_reducible apply row_drewN) | ((with_reducible apply row_up); assumption)))), (by repeat (first | assumption | (with_reducible apply Up.of) | (with_reducible exact Below.refl _ _) | (with_reducible exact Up.refl _) | ((with_reducible apply bl_setRow); (focus (first | exact Nat.le_refl _ | (simp; done) | (simp; omega) | omega))) | (with_reducible apply below_drewN) | (with_reducible apply Below.drew) | ((with_reducible apply bl_alloc); (focus (first | exact Nat.le_refl _ | (simp; done) | (simp; omega) | omega))) | ((with_reducible apply bl_setCell); (focus (first | exact Nat.le_refl _ | (simp; done) | (simp; omega) | omega))) | ((with_reducible apply up_tr); assumption)))⟩
          case round =>
            clear hZ hR hB
            obtain ⟨i, S, hi, rfl, hS, hZ, hR, hB⟩ := hrel
            have HS := hid hS
            clear hS
            by_cases hlt : i < 16
            · have hfx := hR.frozen i
              have hcr := hR.cell i hlt
              have gZ := row_other1 (i := i) (v := 18446744073709551615) hZ (show w.heap.size ≠ w.heap.size + 1 by omega)
              have gS := hR.set i 18446744073709551615
              have gB := hB.setCell (p := ⟨w.heap.size + 1, i, none⟩) (by simp) (.int .u64 (18446744073709551615 : Nat))
              clear hZ hR hB
              go_wp2
              go_roundw
              case rel =>
                refine ⟨i + 1, upd S i 18446744073709551615, by omega, by go_num, fun j hj => ?_, gZ, gS, gB⟩
                by_cases e : j = i
                · rw [e, upd_same]
                · rw [upd_other _ _ _ e]; exact HS.out j (by omega)
              case measure => simp [intOf] <;> omega
            · have hfx := hR.frozen 15
              have hcr := hR.cell 15 (by decide)
              have gZ := row_other1 (i := 15) (v := 9223372036854775807) hZ (show w.heap.size ≠ w.heap.size + 1 by omega)
              have gS := (hR.set 15 9223372036854775807).congr (most_get fun j hj => HS.out j (by omega))
              have gB := hB.setCell (p := ⟨w.heap.size + 1, 15, none⟩) (by simp) (.int .u64 (9223372036854775807 : Nat))
              rw [hrv] at gS
              clear hZ hR hB
              go_wp2
              go_meet
              case rel => exact ⟨gZ, gS, gB⟩
        · rw [if_neg (by decide), if_neg (by decide), if_pos rfl] at hrv
          subst hrv
          go_wp2_with (first | ((with_reducible apply st_rowM infoW); exact rfl; exact rfl; focus (repeat (first | assumption | ((with_reducible apply row_newc); (focus (first | rfl | (simp; done)))) | ((with_reducible apply row_newz); (focus (first | rfl | (simp; done)))) | (with_reducible apply row_same) | ((with_reducible apply row_else); (focus (first | (simp; done) | (simp; omega) | omega))) | (with_reducible apply row_alloc) | (with_reducible apply row_drew) | (with_reducible apply row_drewN) | ((with_reducible apply row_up); assumption)))))
          go_meet
          case rel => exact ⟨(by (repeat (first | assumption | ((with_reducible apply row_newc); (focus (first | rfl | (simp; done)))) | ((with_reducible apply row_newz); (focus (first | rfl | (simp; done)))) | (with_reducible apply row_same) | ((with_reducible apply row_else); (focus (first | (simp; done) | (simp; omega) | omega))) | (with_reducible apply row_alloc) | (with_reducible apply row_drew) | (with_reducible apply row_drewN) | ((with_reducible apply row_up); assumption)))), (by (repeat (first | assumption | ((with_reducible apply row_newc); (focus (first | rfl | (simp; done)))) | ((with_reducible apply row_newz); (focus (first | rfl | (simp; done)))) | (with_reducible apply row_same) | ((with_reducible apply row_else); (focus (first | (simp; done) | (simp; omega) | omega))) | (with_reducible apply row_alloc) | (with_reducible apply row_drew) | (with_reducible apply row_drewN) | ((with_reducible apply row_up); assumption)))), (by repeat (first | assumption | (with_reducible apply Up.of) | (with_reducible exact Below.refl _ _) | (with_reducible exact Up.refl _) | ((with_reducible apply bl_setRow); (focus (first | exact Nat.le_refl _ | (simp; done) | (simp; omega) | omega))) | (with_reducible apply below_drewN) | (with_reducible apply Below.drew) | ((with_reducible apply bl_alloc); (focus (first | exact Nat.le_refl _ | (simp; done) | (simp; omega) | omega))) | ((with_reducible apply bl_setCell); (focus (first | exact Nat.le_refl _ | (simp; done) | (simp; omega) | omega))) | ((with_reducible apply up_tr); assumption)))⟩
        · rw [if_neg (by decide), if_neg (by decide), if_neg (by decide), if_pos rfl] at hrv
          by_cases hm0 : m = 0
          · rw [if_pos hm0] at hrv
            subst hrv
            subst hm0
            have ez : limb 0 = fun _ => 0 := by funext i; exact limb_of_small (k := 0) (by rw [bp_zero]; omega) (Nat.zero_le _)
            go_wp2_with (first | ((with_reducible apply st_rowP infoW); exact rfl; exact rfl; focus (repeat (first | assumption | ((with_reducible apply row_newc); (focus (first | rfl | (simp; done)))) | ((with_reducible apply row_newz); (focus (first | rfl | (simp; done)))) | (with_reducible apply row_same) | ((with_reducible apply row_else); (focus (first | (simp; done) | (simp; omega) | omega))) | (with_reducible apply row_alloc) | (with_reducible apply row_drew) | (with_reducible apply row_drewN) | ((with_reducible apply row_up); assumption)))) | ((with_reducible apply st_rowZ infoW); exact rfl; exact rfl; focus (repeat (first | assumption | ((with_reducible apply row_newc); (focus (first | rfl | (simp; done)))) | ((with_reducible apply row_newz); (focus (first | rfl | (simp; done)))) | (with_reducible apply row_same) | ((with_reducible apply row_else); (focus (first | (simp; done) | (simp; omega) | omega))) | (with_reducible apply row_alloc) | (with_reducible apply row_drew) | (with_reducible apply row_drewN) | ((with_reducible apply row_up); assumption)))))
            go_meet
            case rel => exact ⟨(by (repeat (first | assumption | ((with_reducible apply row_newc); (focus (first | rfl | (simp; done)))) | ((with_reducible apply row_newz); (focus (first | rfl | (simp; done)))) | (with_reducible apply row_same) | ((with_reducible apply row_else); (focus (first | (simp; done) | (simp; omega) | omega))) | (with_reducible apply row_alloc) | (with_reducible apply row_drew) | (with_reducible apply row_drewN) | ((with_reducible apply row_up); assumption)))), by rw [ez]; exact (by (repeat (first | assumption | ((with_reducible apply row_newc); (focus (first | rfl | (simp; done)))) | ((with_reducible apply row_newz); (focus (first | rfl | (simp; done)))) | (with_reducible apply row_same) | ((with_reducible apply row_else); (focus (first | (simp; done) | (simp; omega) | omega))) | (with_reducible apply row_alloc) | (with_reducible apply row_drew) | (with_reducible apply row_drewN) | ((with_reducible apply row_up); assumption)))), (by repeat (first | assumption | (with_reducible apply Up.of) | (with_reducible exact Below.refl _ _) | (with_reducible exact Up.refl _) | ((with_reducible apply bl_setRow); (focus (first | exact Nat.le_refl _ | (simp; done) | (simp; omega) | omega))) | (with_reducible apply below_drewN) | (with_reducible apply Below.drew) | ((with_reducible apply bl_alloc); (focus (first | exact Nat.le_refl _ | (simp; done) | (simp; omega) | omega))) | ((with_reducible apply bl_setCell); (focus (first | exact Nat.le_refl _ | (simp; done) | (simp; omega) | omega))) | ((with_reducible apply up_tr); assumption)))⟩
          · rw [if_neg hm0] at hrv
            obtain ⟨c, hc⟩ : ∃ c, m - 1 = c := ⟨_, rfl⟩
            have hc2 : c < 1024 := by omega
            rw [hc] at hrv
            have d1 : 0 < m := by omega
            have e1 : IntKind.i64.wrap ((m : Int) - 1) = (c : Nat) := by rw [IntWalk.i64_in _ (by omega)]; omega
            obtain ⟨s, hs⟩ : ∃ s, c % 64 = s := ⟨_, rfl⟩
            have hu16 : c / 64 < 16 := by omega
            have hs64 : s < 64 := by omega
            have e3 : (c : Int).tmod 64 = (s : Nat) := by
              rw [show (64 : Int) = ((64 : Nat) : Int) from rfl, ← Int.ofNat_tmod, hs]
            have e5 : (2 : Int) ^ s = ((2 ^ s : Nat) : Int) := by simp
            have e4 : IntKind.u64.wrap ((2 : Int) ^ s) = (2 : Int) ^ s := by
              have h1 : 2 ^ s < 2 ^ 64 := Nat.pow_lt_pow_right (by decide) hs64
              rw [IntKind.wrap_u64, e5]
              generalize 2 ^ s = q at *
              omega
            have E5 := hid e5
            have gP := hid (fun j => limb_pow c j)
            rw [hs, hrv] at gP
            have hW := hR.setRow (fun _ => 0)
            have hZ2 := hZ.row_other (cells 16 (fun _ => 0)) (show w.heap.size ≠ w.heap.size + 1 by omega)
            have hB2 := below_setRow hB (show w.heap.size ≤ w.heap.size + 1 by omega) (cells 16 (fun _ => 0))
            have hcr := hW.cell (c / 64) hu16
            have hfx := hW.frozen (c / 64)
            have gS : Row ((wc.setRow (w.heap.size + 1) (cells 16 (fun _ => 0))).setCell ⟨w.heap.size + 1, c / 64, none⟩ (.int .u64 ((2 : Int) ^ s))) (w.heap.size + 1) 27 16 (limb r) := by
              rw [e5]
              exact (hW.set (c / 64) (2 ^ s)).congr fun j _ => ((gP.out j).trans (by unfold upd; rfl)).symm
            have gZ : Row ((wc.setRow (w.heap.size + 1) (cells 16 (fun _ => 0))).setCell ⟨w.heap.size + 1, c / 64, none⟩ (.int .u64 ((2 : Int) ^ s))) w.heap.size 27 16 (fun _ => 0) := hZ2.other _ _ (by simp)
            have gB := hB2.setCell (p := ⟨w.heap.size + 1, c / 64, none⟩) (by simp) (.int .u64 ((2 : Int) ^ s))
            clear hrv hc hs hm0 e5 hW hZ2 hB2 hZ hB
            go_wp2_with (first | ((with_reducible apply st_rowP infoW); exact rfl; exact rfl; focus (repeat (first | assumption | ((with_reducible apply row_newc); (focus (first | rfl | (simp; done)))) | ((with_reducible apply row_newz); (focus (first | rfl | (simp; done)))) | (with_reducible apply row_same) | ((with_reducible apply row_else); (focus (first | (simp; done) | (simp; omega) | omega))) | (with_reducible apply row_alloc) | (with_reducible apply row_drew) | (with_reducible apply row_drewN) | ((with_reducible apply row_up); assumption)))) | ((with_reducible apply st_rowZ infoW); exact rfl; exact rfl; focus (repeat (first | assumption | ((with_reducible apply row_newc); (focus (first | rfl | (simp; done)))) | ((with_reducible apply row_newz); (focus (first | rfl | (simp; done)))) | (with_reducible apply row_same) | ((with_reducible apply row_else); (focus (first | (simp; done) | (simp; omega) | omega))) | (with_reducible apply row_alloc) | (with_reducible apply row_drew) | (with_reducible apply row_drewN) | ((with_reducible apply row_up); assumption)))))
            go_meet
            case rel => exact ⟨gZ, gS, gB⟩
        · rw [if_neg (by omega), if_neg (by omega), if_neg (by omega), if_neg (by omega)] at hrv
          subst hrv
          go_wp2
          go_meet
          case rel => exact ⟨hZ, hR, hB⟩
      case rest =>
        obtain ⟨hZ, hR, hB⟩ := hcut
        clear em hm2 HR hr16
        by_cases hs : neg = true ∧ q ≠ 2
        · obtain ⟨rfl, hq2⟩ := hs
          have hy := HYV.out
          rw [if_pos ⟨rfl, hq2⟩] at hy
          obtain ⟨d, ho⟩ : ∃ (d : Bool), opt (-z) = .tuple #[.agg (cells 16 (limb yv)), .bool d] := ⟨_, by rw [hy]; rfl⟩
          have HO := hid ho
          have hF := HF.out
          unfold wideV at hF
          have HF2 := hid hF
          clear ho hy hF HYV HF
          have hsR := hR.lt
          go_wp2_with (first | ((with_reducible apply ld_rowP undW infoW); exact rfl; exact rfl; focus (repeat (first | assumption | ((with_reducible apply row_newc); (focus (first | rfl | (simp; done)))) | ((with_reducible apply row_newz); (focus (first | rfl | (simp; done)))) | (with_reducible apply row_same) | ((with_reducible apply row_else); (focus (first | (simp; done) | (simp; omega) | omega))) | (with_reducible apply row_alloc) | (with_reducible apply row_drew) | (with_reducible apply row_drewN) | ((with_reducible apply row_up); assumption)))) | ((with_reducible apply st_rowP infoW); exact rfl; exact rfl; focus (repeat (first | assumption | ((with_reducible apply row_newc); (focus (first | rfl | (simp; done)))) | ((with_reducible apply row_newz); (focus (first | rfl | (simp; done)))) | (with_reducible apply row_same) | ((with_reducible apply row_else); (focus (first | (simp; done) | (simp; omega) | omega))) | (with_reducible apply row_alloc) | (with_reducible apply row_drew) | (with_reducible apply row_drewN) | ((with_reducible apply row_up); assumption)))) | ((with_reducible apply st_rowZ infoW); exact rfl; exact rfl; focus (repeat (first | assumption | ((with_reducible apply row_newc); (focus (first | rfl | (simp; done)))) | ((with_reducible apply row_newz); (focus (first | rfl | (simp; done)))) | (with_reducible apply row_same) | ((with_reducible apply row_else); (focus (first | (simp; done) | (simp; omega) | omega))) | (with_reducible apply row_alloc) | (with_reducible apply row_drew) | (with_reducible apply row_drewN) | ((with_reducible apply row_up); assumption)))) | (go_at_call 12; (with_reducible refine (HF2.out _).mono ?_); rintro e wV ⟨huV, v, rfl, hBV⟩; obtain ⟨b1, a1, n1, c1, rfl, hBN⟩ := big_neg hBV; have hsV := huV.size) | (go_at_call 36; (with_reducible refine (neg_any _ _ _ _ _).mono ?_); rintro e wN ⟨rfl, huN⟩; have hsN := huN.size) | (go_at_call 31; (with_reducible refine (to_any (hBN.up huN) hnz).mono ?_); rintro e wT ⟨rfl, huT⟩; rw [HO.out]; have hsT := huT.size))
          exact bodyPost_ret (res1 rfl undW infoW _ _ rfl (by (repeat (first | assumption | ((with_reducible apply row_newc); (focus (first | rfl | (simp; done)))) | ((with_reducible apply row_newz); (focus (first | rfl | (simp; done)))) | (with_reducible apply row_same) | ((with_reducible apply row_else); (focus (first | (simp; done) | (simp; omega) | omega))) | (with_reducible apply row_alloc) | (with_reducible apply row_drew) | (with_reducible apply row_drewN) | ((with_reducible apply row_up); assumption))))) rfl ⟨rfl, (by repeat (first | assumption | (with_reducible apply Up.of) | (with_reducible exact Below.refl _ _) | (with_reducible exact Up.refl _) | ((with_reducible apply bl_setRow); (focus (first | exact Nat.le_refl _ | (simp; done) | (simp; omega) | omega))) | (with_reducible apply below_drewN) | (with_reducible apply Below.drew) | ((with_reducible apply bl_alloc); (focus (first | exact Nat.le_refl _ | (simp; done) | (simp; omega) | omega))) | ((with_reducible apply bl_setCell); (focus (first | exact Nat.le_refl _ | (simp; done) | (simp; omega) | omega))) | ((with_reducible apply up_tr); assumption)))⟩
        · have hy := HYV.out
          rw [if_neg hs, HEr.out] at hy
          have HY := hid (show Ending.returned (.agg (cells 16 (limb r))) = .returned (wideV yv) by rw [hy]; rfl)
          have hcc : neg = false ∨ (neg = true ∧ q = 2) := by
            cases neg
            · left; rfl
            · right; refine ⟨rfl, ?_⟩
              rcases Nat.lt_trichotomy q 2 with h | h | h
              · exact absurd ⟨rfl, by omega⟩ hs
              · exact h
              · exact absurd ⟨rfl, by omega⟩ hs
          clear hs hy HYV
          rcases hcc with rfl | ⟨rfl, rfl⟩
          · go_wp2_with (first | ((with_reducible apply ld_rowP undW infoW); exact rfl; exact rfl; focus (repeat (first | assumption | ((with_reducible apply row_newc); (focus (first | rfl | (simp; done)))) | ((with_reducible apply row_newz); (focus (first | rfl | (simp; done)))) | (with_reducible apply row_same) | ((with_reducible apply row_else); (focus (first | (simp; done) | (simp; omega) | omega))) | (with_reducible apply row_alloc) | (with_reducible apply row_drew) | (with_reducible apply row_drewN) | ((with_reducible apply row_up); assumption)))) | ((with_reducible apply st_rowP infoW); exact rfl; exact rfl; focus (repeat (first | assumption | ((with_reducible apply row_newc); (focus (first | rfl | (simp; done)))) | ((with_reducible apply row_newz); (focus (first | rfl | (simp; done)))) | (with_reducible apply row_same) | ((with_reducible apply row_else); (focus (first | (simp; done) | (simp; omega) | omega))) | (with_reducible apply row_alloc) | (with_reducible apply row_drew) | (with_reducible apply row_drewN) | ((with_reducible apply row_up); assumption)))) | ((with_reducible apply st_rowZ infoW); exact rfl; exact rfl; focus (repeat (first | assumption | ((with_reducible apply row_newc); (focus (first | rfl | (simp; done)))) | ((with_reducible apply row_newz); (focus (first | rfl | (simp; done)))) | (with_reducible apply row_same) | ((with_reducible apply row_else); (focus (first | (simp; done) | (simp; omega) | omega))) | (with_reducible apply row_alloc) | (with_reducible apply row_drew) | (with_reducible apply row_drewN) | ((with_reducible apply row_up); assumption)))))
            exact bodyPost_ret (res1 rfl undW infoW _ _ rfl (by (repeat (first | assumption | ((with_reducible apply row_newc); (focus (first | rfl | (simp; done)))) | ((with_reducible apply row_newz); (focus (first | rfl | (simp; done)))) | (with_reducible apply row_same) | ((with_reducible apply row_else); (focus (first | (simp; done) | (simp; omega) | omega))) | (with_reducible apply row_alloc) | (with_reducible apply row_drew) | (with_reducible apply row_drewN) | ((with_reducible apply row_up); assumption))))) rfl ⟨HY.out, (by repeat (first | assumption | (with_reducible apply Up.of) | (with_reducible exact Below.refl _ _) | (with_reducible exact Up.refl _) | ((with_reducible apply bl_setRow); (focus (first | exact Nat.le_refl _ | (simp; done) | (simp; omega) | omega))) | (with_reducible apply below_drewN) | (with_reducible apply Below.drew) | ((with_reducible apply bl_alloc); (focus (first | exact Nat.le_refl _ | (simp; done) | (simp; omega) | omega))) | ((with_reducible apply bl_setCell); (focus (first | exact Nat.le_refl _ | (simp; done) | (simp; omega) | omega))) | ((with_reducible apply up_tr); assumption)))⟩
          · have ek2 : (k : Int).tmod 8 = 2 := ek
            clear ek
            go_wp2_with (first | ((with_reducible apply ld_rowP undW infoW); exact rfl; exact rfl; focus (repeat (first | assumption | ((with_reducible apply row_newc); (focus (first | rfl | (simp; done)))) | ((with_reducible apply row_newz); (focus (first | rfl | (simp; done)))) | (with_reducible apply row_same) | ((with_reducible apply row_else); (focus (first | (simp; done) | (simp; omega) | omega))) | (with_reducible apply row_alloc) | (with_reducible apply row_drew) | (with_reducible apply row_drewN) | ((with_reducible apply row_up); assumption)))) | ((with_reducible apply st_rowP infoW); exact rfl; exact rfl; focus (repeat (first | assumption | ((with_reducible apply row_newc); (focus (first | rfl | (simp; done)))) | ((with_reducible apply row_newz); (focus (first | rfl | (simp; done)))) | (with_reducible apply row_same) | ((with_reducible apply row_else); (focus (first | (simp; done) | (simp; omega) | omega))) | (with_reducible apply row_alloc) | (with_reducible apply row_drew) | (with_reducible apply row_drewN) | ((with_reducible apply row_up); assumption)))) | ((with_reducible apply st_rowZ infoW); exact rfl; exact rfl; focus (repeat (first | assumption | ((with_reducible apply row_newc); (focus (first | rfl | (simp; done)))) | ((with_reducible apply row_newz); (focus (first | rfl | (simp; done)))) | (with_reducible apply row_same) | ((with_reducible apply row_else); (focus (first | (simp; done) | (simp; omega) | omega))) | (with_reducible apply row_alloc) | (with_reducible apply row_drew) | (with_reducible apply row_drewN) | ((with_reducible apply row_up); assumption)))))
            exact bodyPost_ret (res1 rfl undW infoW _ _ rfl (by (repeat (first | assumption | ((with_reducible apply row_newc); (focus (first | rfl | (simp; done)))) | ((with_reducible apply row_newz); (focus (first | rfl | (simp; done)))) | (with_reducible apply row_same) | ((with_reducible apply row_else); (focus (first | (simp; done) | (simp; omega) | omega))) | (with_reducible apply row_alloc) | (with_reducible apply row_drew) | (with_reducible apply row_drewN) | ((with_reducible apply row_up); assumption))))) rfl ⟨HY.out, (by repeat (first | assumption | (with_reducible apply Up.of) | (with_reducible exact Below.refl _ _) | (with_reducible exact Up.refl _) | ((with_reducible apply bl_setRow); (focus (first | exact Nat.le_refl _ | (simp; done) | (simp; omega) | omega))) | (with_reducible apply below_drewN) | (with_reducible apply Below.drew) | ((with_reducible apply bl_alloc); (focus (first | exact Nat.le_refl _ | (simp; done) | (simp; omega) | omega))) | ((with_reducible apply bl_setCell); (focus (first | exact Nat.le_refl _ | (simp; done) | (simp; omega) | omega))) | ((with_reducible apply up_tr); assumption)))⟩
theorem wmade_any {ao : Option Addr} {len : Nat} {f : Nat → Nat} (n k : Nat) (hn : n < 65536) (hk : k < 256) (neg : Bool) (w : World) (hL : Lim w ao len f) :
    ∃ z : Int, InR z ∧ (4 ≤ k % 8 → n % 1025 < 1023 → z.natAbs < 2 ^ (n % 1025)) ∧ ∀ (cap : Nat) (w' : World), Up w w' →
      Calls Try.prog 11 #[.slice ao len cap, .int .u16 n, .bool neg, .int .u8 k] w' fun e w'' => e = .returned (wideV (enc z)) ∧ Up w' w'' := by
  obtain ⟨z, hz, he⟩ := enc_surj (raw_lt (q := k % 8) (m := n % 1025) (X := sumL (padL len f) 16) (by omega))
  refine ⟨if neg = true ∧ k % 8 ≠ 2 then (if InR (-z) then -z else 0) else z, ?_, ?_, fun cap w' hu => wmade_w n k hn hk neg w' (hL.up hu) hz he rfl⟩
  · split
    · split
      · assumption
      · exact InR.mk' (by have := hb_pos; omega)
    · exact hz
  · intro hk4 hn2
    have h0 : z.natAbs < 2 ^ (n % 1025) := by
      unfold rawV at he
      rw [if_neg (by omega), if_neg (by omega), if_neg (by omega), if_neg (by omega)] at he
      have h1 := Nat.mod_lt (sumL (padL len f) 16) (Nat.two_pow_pos (n % 1025))
      rw [← he] at h1
      obtain ⟨c, hc⟩ : ∃ c, c = 1023 := ⟨_, rfl⟩
      have h2 : 2 ^ (n % 1025) ≤ 2 ^ c := Nat.pow_le_pow_right (by decide) (by omega)
      rw [← hb_pow c hc] at h2
      have h3 := (enc_neg_iff hz)
      have h4 := enc_nn hz
      omega
    have h5 := Nat.two_pow_pos (n % 1025)
    split
    · split
      · omega
      · simpa using h5
    · exact h0
end Go.Proofs.Ytlkolfnklbldcaa
