/-
  The reference's sums and differences of amounts.
-/
import Derived.Test.YtlkolfnklbldcaaRefA
namespace Go.Proofs.Ytlkolfnklbldcaa
open Go Go.RowKit
set_option maxRecDepth 100000

theorem undS : Try.prog.underlying 22 = some (.slice 25) := by kernel_rfl
theorem infoU : (Try.prog.info? 25).map (fun i => (i.zero, i.size, i.bytes)) = some (some (.int .u64 0), 1, 8) := by kernel_rfl
theorem zeros_made (n : Nat) : madeCells (Value.int .u64 0).cells n = cells n (fun _ => 0) := by
  unfold cells
  apply Array.ext
  · simp [madeCells]
  · intro i h1 h2
    simp [madeCells, Value.cells, Nat.mod_one]
theorem mkP {ops : Array Oper} {rest : List Oper} {Q : Exit → Act → World → Prop} {a : Act} {w : World} {d : Option Tmp} {l : Tmp} {ty : TypeId} {pos : String} {af : Array Edge} {L : Int} {n : Nat} (hl : a.eval (.tmp l) = .int .i64 L) (hL : L = (n : Int)) (hn : n < 1000000)
    (h : wpList Try.prog ops Q rest (a.put d (.slice (some ⟨w.heap.size, 0, none⟩) n n)) (w.alloc (.cells (cells n (fun _ => 0)) 25))) :
    wpList Try.prog ops Q ({ dst := d, op := .makeSlice 22 (.tmp l) (.tmp l), type := ty, pos := pos, after := af, guard := none } :: rest) a w := by
  refine wpList_plain rfl fun _ hK => ?_
  have hi := infoU
  cases hq : Try.prog.info? 25 with
  | none => rw [hq] at hi; simp at hi
  | some i =>
    rw [hq] at hi
    simp only [Option.map_some, Option.some.injEq, Prod.mk.injEq] at hi
    have hr := run_make (P := Try.prog) (w := w) 22 25 i (.int .u64 0) undS hq hi.1 .i64 .i64 L L (by omega) (by omega) (by rw [hi.2.2]; omega) (by omega)
    rw [hi.2.1, Nat.mul_one, hL, Int.toNat_natCast, zeros_made] at hr
    unfold Oper.wp execOp
    simp only [hl, hL, Sem.run_bind, Sem.run_pure, Result.andThen_ok, hr]
    exact hK _ _ h
theorem plus_end {S : Nat → Nat} {x y k c : Nat} (_ : ∀ j, j < k + 1 → S j < 18446744073709551616) (hx : nl x ≤ k) (hy : nl y ≤ k) (h : sumL S (k + 1) + c * bp (k + 1) = sumL (limb x) (k + 1) + sumL (limb y) (k + 1)) : sumL S (k + 1) = x + y := by
  have h1 := bp_mono hx
  have h2 := bp_mono hy
  have h3 := lt_bp_nl x
  have h4 := lt_bp_nl y
  have h5 := bp_succ k
  rw [sumL_limb, sumL_limb, Nat.mod_eq_of_lt (show x < bp (k + 1) by omega), Nat.mod_eq_of_lt (show y < bp (k + 1) by omega)] at h
  rcases Nat.eq_zero_or_pos c with h0 | h0
  · subst h0; omega
  · have : 1 * bp (k + 1) ≤ c * bp (k + 1) := Nat.mul_le_mul_right _ h0
    omega
theorem minus_end {S : Nat → Nat} {x y k c : Nat} (hS : ∀ j, j < k → S j < 18446744073709551616) (hx : nl x ≤ k) (hxy : y ≤ x) (h : sumL S k + sumL (limb y) k = sumL (limb x) k + c * bp k) : sumL S k = x - y := by
  have h1 := bp_mono hx
  have h3 := lt_bp_nl x
  have h5 := sumL_lt hS
  rw [sumL_limb, sumL_limb, Nat.mod_eq_of_lt (show x < bp k by omega), Nat.mod_eq_of_lt (show y < bp k by omega)] at h
  rcases Nat.eq_zero_or_pos c with h0 | h0
  · subst h0; omega
  · have : 1 * bp k ≤ c * bp k := Nat.mul_le_mul_right _ h0
    omega
theorem padd_step {S : Nat → Nat} {X Y A B c r c' i : Nat} (h : sumL S i + c * bp i = A + B) (hr : r + c' * 18446744073709551616 = X + Y + c) : sumL (upd S i r) (i + 1) + c' * bp (i + 1) = A + X * bp i + (B + Y * bp i) := by
  rw [sumL_upd_succ, bp_succ]
  have h2 : (r + c' * 18446744073709551616) * bp i = (X + Y + c) * bp i := by rw [hr]
  have h3 : r * bp i + c' * (bp i * 18446744073709551616) = X * bp i + Y * bp i + c * bp i := by grind
  omega
theorem psub_step {S : Nat → Nat} {X Y A B c r c' i : Nat} (h : sumL S i + B = A + c * bp i) (hr : r + Y + c = X + c' * 18446744073709551616) : sumL (upd S i r) (i + 1) + (B + Y * bp i) = A + X * bp i + c' * bp (i + 1) := by
  rw [sumL_upd_succ, bp_succ]
  have h2 : (r + Y + c) * bp i = (X + c' * 18446744073709551616) * bp i := by rw [hr]
  have h3 : r * bp i + Y * bp i + c * bp i = X * bp i + c' * (bp i * 18446744073709551616) := by grind
  omega
set_option maxHeartbeats 1000000 in
theorem plus_am {x y : Nat} {va vb : Value} {w : World} (ha : Am w va x) (hb : Am w vb y) (hx : nl x < 100000) (hy : nl y < 100000) :
    Calls Try.prog 46 #[va, vb] w fun e w' => Up w w' ∧ ∃ v, e = .returned v ∧ Am w' v (x + y) := by
  obtain ⟨a, ca, rfl, hca1, hca0⟩ := ha.open
  obtain ⟨b, cb, rfl, hcb1, hcb0⟩ := hb.open
  obtain ⟨k, hk, hk1, hk2, hk3⟩ : ∃ k : Nat, max ((nl x : Nat) : Int) (nl y : Nat) = (k : Nat) ∧ nl x ≤ k ∧ nl y ≤ k ∧ k < 100000 := ⟨max (nl x) (nl y), by omega, by omega, by omega, by omega⟩
  clear ha hb
  go_enter Try.func46, Try.ntmps46
  go_wp2_with (first | ((with_reducible apply mkP (n := k + 1)); exact rfl; (first | rfl | omega); omega))
  go_loopw [7, 8] (fun tc ti wr => ∃ (i cc : Nat) (S : Nat → Nat), i ≤ k + 1 ∧ tc = .int .u64 (cc : Nat) ∧ ti = .int .i64 (i : Nat) ∧ cc ≤ 1 ∧ (∀ j, j < k + 1 → S j < 18446744073709551616) ∧ sumL S i + cc * bp i = sumL (limb x) i + sumL (limb y) i ∧ Row wr w.heap.size 25 (k + 1) S ∧ Below w.heap.size w wr)
    (fun _ ti _ => k + 1 - (intOf ti).toNat)
  case atStart => exact ⟨0, 0, fun _ => 0, by omega, rfl, rfl, by omega, fun _ _ => by simp, by simp [sumL_zero], row_newc _ _ _ rfl, (by repeat (first | assumption | (with_reducible apply Up.of) | (with_reducible exact Below.refl _ _) | ((with_reducible apply bl_setCell); (focus (first | exact Nat.le_refl _ | (simp; done) | (simp; omega) | omega))) | ((with_reducible apply bl_alloc); (focus (first | exact Nat.le_refl _ | (simp; done) | (simp; omega) | omega)))))⟩
  case round =>
    obtain ⟨i, cc, S, hi, rfl, rfl, hcc, hSb, hsum, hS, hB⟩ := hrel
    have HSb := hid hSb
    have Hsum := hid hsum
    clear hSb hsum
    by_cases hlt : i < k + 1
    · by_cases hp : i < nl x
      · by_cases hq : i < nl y
        · have h_ := hp
          obtain ⟨ba, rfl, hba, hca⟩ := hca0 i hp
          have hcx := hca wr hB
          obtain ⟨bb, rfl, hbb, hcb⟩ := hcb0 i hq
          have hcy := hcb wr hB
          obtain ⟨r, c', hadd, hrc, hrl, hc1⟩ : ∃ r c' : Nat, (∀ w, (callFunc 39 #[.int .u64 (limb x i : Nat), .int .u64 (limb y i : Nat), .int .u64 (cc : Nat)]).run Try.prog w = .ok (.value (.tuple #[.int .u64 (r : Nat), .int .u64 (c' : Nat)])) w) ∧ Hid (r + c' * 18446744073709551616 = limb x i + limb y i + cc) ∧ r < 18446744073709551616 ∧ c' ≤ 1 := by
            have hl1 := limb_lt x i
            have hl2 := limb_lt y i
            have h := run_add (limb x i) (limb y i) cc (by omega)
            exact ⟨_, _, h, hid (by omega), Nat.mod_lt _ (by decide), by omega⟩
          have hcs := hS.cell i (by omega)
          have hfs := hS.frozen i
          have gS := hS.set i r
          have gB := hB.setCell (p := ⟨w.heap.size, i, none⟩) (Nat.le_refl _) (.int .u64 (r : Nat))
          have hip : (decide ((i : Int) < (nl x : Nat))) = true := decide_eq_true (by omega)
          have hiq : decide ((i : Int) < (nl y : Nat)) = true := decide_eq_true (by omega)
          clear hB hS
          go_wp2
          go_roundw
          case rel =>
            refine ⟨i + 1, c', upd S i r, by omega, rfl, by go_num, hc1, upd_lt HSb.out hrl, ?_, gS, gB⟩
            rw [sumL_succ (limb x) i, sumL_succ (limb y) i]
            exact padd_step Hsum.out hrc.out
          case measure => simp [intOf] <;> omega
        · have h_ := hp
          obtain ⟨ba, rfl, hba, hca⟩ := hca0 i hp
          have hcx := hca wr hB
          have hzy := limb_nl (x := y) (i := i) (by omega)
          obtain ⟨r, c', hadd, hrc, hrl, hc1⟩ : ∃ r c' : Nat, (∀ w, (callFunc 39 #[.int .u64 (limb x i : Nat), .int .u64 0, .int .u64 (cc : Nat)]).run Try.prog w = .ok (.value (.tuple #[.int .u64 (r : Nat), .int .u64 (c' : Nat)])) w) ∧ Hid (r + c' * 18446744073709551616 = limb x i + limb y i + cc) ∧ r < 18446744073709551616 ∧ c' ≤ 1 := by
            have hl1 := limb_lt x i
            have hl2 := limb_lt y i
            have h := run_add (limb x i) (0) cc (by omega)
            simp only [show ((0 : Nat) : Int) = 0 from rfl] at h
            exact ⟨_, _, h, hid (by omega), Nat.mod_lt _ (by decide), by omega⟩
          have hcs := hS.cell i (by omega)
          have hfs := hS.frozen i
          have gS := hS.set i r
          have gB := hB.setCell (p := ⟨w.heap.size, i, none⟩) (Nat.le_refl _) (.int .u64 (r : Nat))
          have hip : (decide ((i : Int) < (nl x : Nat))) = true := decide_eq_true (by omega)
          have hiq : decide ((i : Int) < (nl y : Nat)) = false := decide_eq_false (by omega)
          clear hB hS
          go_wp2
          go_roundw
          case rel =>
            refine ⟨i + 1, c', upd S i r, by omega, rfl, by go_num, hc1, upd_lt HSb.out hrl, ?_, gS, gB⟩
            rw [sumL_succ (limb x) i, sumL_succ (limb y) i]
            exact padd_step Hsum.out hrc.out
          case measure => simp [intOf] <;> omega
      · by_cases hq : i < nl y
        · have h_ := hq
          have hzx := limb_nl (x := x) (i := i) (by omega)
          obtain ⟨bb, rfl, hbb, hcb⟩ := hcb0 i hq
          have hcy := hcb wr hB
          obtain ⟨r, c', hadd, hrc, hrl, hc1⟩ : ∃ r c' : Nat, (∀ w, (callFunc 39 #[.int .u64 0, .int .u64 (limb y i : Nat), .int .u64 (cc : Nat)]).run Try.prog w = .ok (.value (.tuple #[.int .u64 (r : Nat), .int .u64 (c' : Nat)])) w) ∧ Hid (r + c' * 18446744073709551616 = limb x i + limb y i + cc) ∧ r < 18446744073709551616 ∧ c' ≤ 1 := by
            have hl1 := limb_lt x i
            have hl2 := limb_lt y i
            have h := run_add (0) (limb y i) cc (by omega)
            simp only [show ((0 : Nat) : Int) = 0 from rfl] at h
            exact ⟨_, _, h, hid (by omega), Nat.mod_lt _ (by decide), by omega⟩
          have hcs := hS.cell i (by omega)
          have hfs := hS.frozen i
          have gS := hS.set i r
          have gB := hB.setCell (p := ⟨w.heap.size, i, none⟩) (Nat.le_refl _) (.int .u64 (r : Nat))
          have hip : (decide ((i : Int) < (nl x : Nat))) = false := decide_eq_false (by omega)
          have hiq : decide ((i : Int) < (nl y : Nat)) = true := decide_eq_true (by omega)
          clear hB hS
          go_wp2
          go_roundw
          case rel =>
            refine ⟨i + 1, c', upd S i r, by omega, rfl, by go_num, hc1, upd_lt HSb.out hrl, ?_, gS, gB⟩
            rw [sumL_succ (limb x) i, sumL_succ (limb y) i]
            exact padd_step Hsum.out hrc.out
          case measure => simp [intOf] <;> omega
        · have h_ := hq
          have hzx := limb_nl (x := x) (i := i) (by omega)
          have hzy := limb_nl (x := y) (i := i) (by omega)
          obtain ⟨r, c', hadd, hrc, hrl, hc1⟩ : ∃ r c' : Nat, (∀ w, (callFunc 39 #[.int .u64 0, .int .u64 0, .int .u64 (cc : Nat)]).run Try.prog w = .ok (.value (.tuple #[.int .u64 (r : Nat), .int .u64 (c' : Nat)])) w) ∧ Hid (r + c' * 18446744073709551616 = limb x i + limb y i + cc) ∧ r < 18446744073709551616 ∧ c' ≤ 1 := by
            have hl1 := limb_lt x i
            have hl2 := limb_lt y i
            have h := run_add (0) (0) cc (by omega)
            simp only [show ((0 : Nat) : Int) = 0 from rfl] at h
            exact ⟨_, _, h, hid (by omega), Nat.mod_lt _ (by decide), by omega⟩
          have hcs := hS.cell i (by omega)
          have hfs := hS.frozen i
          have gS := hS.set i r
          have gB := hB.setCell (p := ⟨w.heap.size, i, none⟩) (Nat.le_refl _) (.int .u64 (r : Nat))
          have hip : (decide ((i : Int) < (nl x : Nat))) = false := decide_eq_false (by omega)
          have hiq : decide ((i : Int) < (nl y : Nat)) = false := decide_eq_false (by omega)
          clear hB hS
          go_wp2
          go_roundw
          case rel =>
            refine ⟨i + 1, c', upd S i r, by omega, rfl, by go_num, hc1, upd_lt HSb.out hrl, ?_, gS, gB⟩
            rw [sumL_succ (limb x) i, sumL_succ (limb y) i]
            exact padd_step Hsum.out hrc.out
          case measure => simp [intOf] <;> omega
    · obtain rfl : i = k + 1 := by omega
      have he := plus_end HSb.out hk1 hk2 Hsum.out
      have ht := trim_row w.heap.size (k + 1) (k + 1) (k + 1) S wr hS (Nat.le_refl _) (Nat.le_refl _) (by omega)
      have hres := am_row (c := k + 1) hS (Nat.le_refl _) (Nat.le_refl _) HSb.out
      rw [he] at hres
      have HT := hid ht
      have HR := hid hres
      clear ht hres he HSb Hsum hS
      go_wp2_with (go_at_call 38; (with_reducible refine HT.out.mono ?_); rintro e w' ⟨rfl, hu⟩)
      go_ret
      exact ⟨below_up hB hu, _, rfl, HR.out.up hu⟩
set_option maxHeartbeats 1000000 in
theorem minus_am {x y : Nat} {va vb : Value} {w : World} (ha : Am w va x) (hb : Am w vb y) (hx : nl x < 100000) (hxy : y ≤ x) :
    Calls Try.prog 48 #[va, vb] w fun e w' => Up w w' ∧ ∃ v, e = .returned v ∧ Am w' v (x - y) := by
  obtain ⟨a, ca, rfl, hca1, hca0⟩ := ha.open
  obtain ⟨b, cb, rfl, hcb1, hcb0⟩ := hb.open
  obtain ⟨k, hk⟩ : ∃ k : Nat, k = nl x := ⟨_, rfl⟩
  have hqk : nl y ≤ nl x := nl_le (Nat.lt_of_le_of_lt hxy (lt_bp_nl x))
  clear ha hb
  go_enter Try.func48, Try.ntmps48
  go_wp2_with (first | ((with_reducible apply mkP (n := nl x)); exact rfl; (first | rfl | omega); omega))
  go_loopw [6, 7] (fun tc ti wr => ∃ (i cc : Nat) (S : Nat → Nat), i ≤ nl x ∧ tc = .int .u64 (cc : Nat) ∧ ti = .int .i64 (i : Nat) ∧ cc ≤ 1 ∧ (∀ j, j < nl x → S j < 18446744073709551616) ∧ sumL S i + sumL (limb y) i = sumL (limb x) i + cc * bp i ∧ Row wr w.heap.size 25 (nl x) S ∧ Below w.heap.size w wr)
    (fun _ ti _ => nl x - (intOf ti).toNat)
  case atStart => exact ⟨0, 0, fun _ => 0, by omega, rfl, rfl, by omega, fun _ _ => by simp, by simp [sumL_zero], row_newc _ _ _ rfl, (by repeat (first | assumption | (with_reducible apply Up.of) | (with_reducible exact Below.refl _ _) | ((with_reducible apply bl_setCell); (focus (first | exact Nat.le_refl _ | (simp; done) | (simp; omega) | omega))) | ((with_reducible apply bl_alloc); (focus (first | exact Nat.le_refl _ | (simp; done) | (simp; omega) | omega)))))⟩
  case round =>
    obtain ⟨i, cc, S, hi, rfl, rfl, hcc, hSb, hsum, hS, hB⟩ := hrel
    have HSb := hid hSb
    have Hsum := hid hsum
    clear hSb hsum
    by_cases hlt : i < nl x
    · have hp := hlt
      by_cases hq : i < nl y
      · have h_ := hp
        obtain ⟨ba, rfl, hba, hca⟩ := hca0 i hp
        have hcx := hca wr hB
        obtain ⟨bb, rfl, hbb, hcb⟩ := hcb0 i hq
        have hcy := hcb wr hB
        obtain ⟨r, c', hadd, hrc, hrl, hc1⟩ : ∃ r c' : Nat, (∀ w, (callFunc 56 #[.int .u64 (limb x i : Nat), .int .u64 (limb y i : Nat), .int .u64 (cc : Nat)]).run Try.prog w = .ok (.value (.tuple #[.int .u64 (r : Nat), .int .u64 (c' : Nat)])) w) ∧ Hid (r + limb y i + cc = limb x i + c' * 18446744073709551616) ∧ r < 18446744073709551616 ∧ c' ≤ 1 := by
          have hl1 := limb_lt x i
          have hl2 := limb_lt y i
          have h := run_sub (limb x i) (limb y i) cc (by omega)
          exact ⟨_, _, h, hid (by split <;> omega), Nat.mod_lt _ (by decide), by split <;> omega⟩
        have hcs := hS.cell i (by omega)
        have hfs := hS.frozen i
        have gS := hS.set i r
        have gB := hB.setCell (p := ⟨w.heap.size, i, none⟩) (Nat.le_refl _) (.int .u64 (r : Nat))
        have hip : (decide ((i : Int) < (nl x : Nat))) = true := decide_eq_true (by omega)
        have hiq : decide ((i : Int) < (nl y : Nat)) = true := decide_eq_true (by omega)
        clear hB hS
        go_wp2
        go_roundw
        case rel =>
          refine ⟨i + 1, c', upd S i r, by omega, rfl, by go_num, hc1, upd_lt HSb.out hrl, ?_, gS, gB⟩
          rw [sumL_succ (limb x) i, sumL_succ (limb y) i]
          exact psub_step Hsum.out hrc.out
        case measure => simp [intOf] <;> omega
      · have h_ := hp
        obtain ⟨ba, rfl, hba, hca⟩ := hca0 i hp
        have hcx := hca wr hB
        have hzy := limb_nl (x := y) (i := i) (by omega)
        obtain ⟨r, c', hadd, hrc, hrl, hc1⟩ : ∃ r c' : Nat, (∀ w, (callFunc 56 #[.int .u64 (limb x i : Nat), .int .u64 0, .int .u64 (cc : Nat)]).run Try.prog w = .ok (.value (.tuple #[.int .u64 (r : Nat), .int .u64 (c' : Nat)])) w) ∧ Hid (r + limb y i + cc = limb x i + c' * 18446744073709551616) ∧ r < 18446744073709551616 ∧ c' ≤ 1 := by
          have hl1 := limb_lt x i
          have hl2 := limb_lt y i
          have h := run_sub (limb x i) (0) cc (by omega)
          simp only [show ((0 : Nat) : Int) = 0 from rfl] at h
          exact ⟨_, _, h, hid (by split <;> omega), Nat.mod_lt _ (by decide), by split <;> omega⟩
        have hcs := hS.cell i (by omega)
        have hfs := hS.frozen i
        have gS := hS.set i r
        have gB := hB.setCell (p := ⟨w.heap.size, i, none⟩) (Nat.le_refl _) (.int .u64 (r : Nat))
        have hip : (decide ((i : Int) < (nl x : Nat))) = true := decide_eq_true (by omega)
        have hiq : decide ((i : Int) < (nl y : Nat)) = false := decide_eq_false (by omega)
        clear hB hS
        go_wp2
        go_roundw
        case rel =>
          refine ⟨i + 1, c', upd S i r, by omega, rfl, by go_num, hc1, upd_lt HSb.out hrl, ?_, gS, gB⟩
          rw [sumL_succ (limb x) i, sumL_succ (limb y) i]
          exact psub_step Hsum.out hrc.out
        case measure => simp [intOf] <;> omega
    · obtain rfl : i = nl x := by omega
      have he := minus_end HSb.out (Nat.le_refl _) hxy Hsum.out
      have ht := trim_row w.heap.size (nl x) (nl x) (nl x) S wr hS (Nat.le_refl _) (Nat.le_refl _) (by omega)
      have hres := am_row (c := nl x) hS (Nat.le_refl _) (Nat.le_refl _) HSb.out
      rw [he] at hres
      have HT := hid ht
      have HR := hid hres
      clear ht hres he HSb Hsum hS
      go_wp2_with (go_at_call 38; (with_reducible refine HT.out.mono ?_); rintro e w' ⟨rfl, hu⟩)
      go_ret
      exact ⟨below_up hB hu, _, rfl, HR.out.up hu⟩
end Go.Proofs.Ytlkolfnklbldcaa
