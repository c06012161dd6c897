import Derived.Test.YtnpaodlhhcnbgaaGreatDoorPb
import Derived.ChangeSame
import Derived.Lib.MinMax
import Derived.Laws.AppendOwnNone
import Derived.Deep.AppendLies
import Derived.BigQuiet
import Derived.Deep.QuietTactic
import Derived.Deep.MidRow
import Derived.Laws.CopyRow
import Derived.Great.BuildSlice
namespace Go.Proofs.YtnpaodlhhcnbgaaGreatDoor
open Go Go.RowKit
set_option maxRecDepth 100000
theorem hb_big : 9223372036854775808 ≤ hb := by
  have h := bp16
  have h2 : bp 16 = bp 15 * 18446744073709551616 := bp_succ 15
  have := bp_pos 15
  omega
def roundV (a b : Int) : Value :=
  if 0 < b ∧ InR (a + a) ∧ InR (b + b) ∧ InR (a + a + b) then .tuple #[wideV (enc ((2 * a + b) / (2 * b))), .bool true] else .tuple #[.agg (cells 16 (fun _ => 0)), .bool false]
theorem opt_parts (z : Int) : ∃ (p : Int) (k : Bool), opt z = .tuple #[wideV (enc p), .bool k] ∧ InR p ∧ (k = true ↔ InR z) ∧ (InR z → p = z) := by
  by_cases h : InR z
  · exact ⟨z, true, opt_yes h, h, by simp [h], fun _ => rfl⟩
  · refine ⟨0, false, ?_, InR.mk' (by have := hb_pos; omega), by simp [h], fun h' => absurd h' h⟩
    rw [opt_no h, zero_limb]; rfl
theorem round_floor {s d : Int} (hd : 0 < d) : s / d = if s.tmod d < 0 then s.tdiv d - 1 else s.tdiv d := by
  have h1 := Int.mul_tdiv_add_tmod s d
  have h2 := Int.tmod_lt_of_pos s hd
  have h3 : -d < s.tmod d := by
    have := Int.tmod_lt_of_pos (-s) hd
    rw [Int.neg_tmod] at this
    omega
  generalize s.tdiv d = q at *
  generalize s.tmod d = r at *
  split
  · rw [← h1, show d * q + r = (d + r) + d * (q - 1) by rw [Int.mul_sub]; omega, Int.add_mul_ediv_left _ _ (by omega), Int.ediv_eq_zero_of_lt (by omega) (by omega)]
    omega
  · rw [← h1, Int.add_comm, Int.add_mul_ediv_left _ _ (by omega), Int.ediv_eq_zero_of_lt (by omega) (by omega)]
    omega
theorem tdiv_in {s d : Int} (hs : InR s) (hd : 0 < d) : InR (s.tdiv d) ∧ (s.tmod d < 0 → InR (s.tdiv d - 1)) := by
  have h := hs.out
  have hp := hb_pos
  obtain ⟨m, f⟩ : ∃ m : Nat, d = (m : Int) := ⟨d.natAbs, by omega⟩
  have hm : 0 < m := by omega
  by_cases h0 : s < 0
  · obtain ⟨n, e⟩ : ∃ n : Nat, s = -(n : Int) := ⟨s.natAbs, by omega⟩
    rw [e, f, Int.neg_tdiv, Int.neg_tmod, ← Int.ofNat_tdiv, ← Int.ofNat_tmod]
    have h1 := Nat.div_le_self n m
    have h2 := Nat.div_add_mod n m
    have h3 : 1 * (n / m) ≤ m * (n / m) := Nat.mul_le_mul_right _ hm
    generalize n / m = q at *
    generalize n % m = r at *
    generalize m * q = mq at *
    exact ⟨InR.mk' (by omega), fun h4 => InR.mk' (by omega)⟩
  · obtain ⟨n, e⟩ : ∃ n : Nat, s = (n : Int) := ⟨s.natAbs, by omega⟩
    rw [e, f, ← Int.ofNat_tdiv, ← Int.ofNat_tmod]
    have h1 := Nat.div_le_self n m
    generalize n / m = q at *
    generalize n % m = r at *
    exact ⟨InR.mk' (by omega), fun h4 => by omega⟩
set_option maxHeartbeats 4000000 in
theorem round_z {a b : Int} (ha : InR a) (hb' : InR b)
    (hDV : 0 < b → InR (a + a) → InR (b + b) → InR (a + a + b) → ∀ w, Calls Tryz.prog 132 #[wideV (a + a + b).natAbs, wideV (b + b).natAbs] w fun e w' => e = .returned (divV (a + a + b).natAbs (b + b).natAbs) ∧ Up w w') (w : World) :
    Calls Tryz.prog 99 #[wideV (enc a), wideV (enc b)] w fun e w' => e = .returned (roundV a b) ∧ Up w w' := by
  have HSB := hid (fun w => sign_z hb' w)
  by_cases hb0 : 0 < b
  · have es : sgn b = 1 := by
      have h1 : ¬ b < 0 := by omega
      have h2 : ¬ b = 0 := by omega
      simp [sgn, h1, h2]
    rw [es] at HSB
    obtain ⟨pA, kA, eA, iA, jA, vA⟩ := opt_parts (a + a)
    obtain ⟨pB, kB, eB, iB, jB, vB⟩ := opt_parts (b + b)
    obtain ⟨pS, kS, eS, iS, jS, vS⟩ := opt_parts (pA + b)
    have hA := fun w => add_z ha ha w
    rw [eA] at hA
    have hB := fun w => add_z hb' hb' w
    rw [eB] at hB
    have hS := fun w => add_z iA hb' w
    rw [eS] at hS
    have HA := hid hA
    have HB := hid hB
    have HS := hid hS
    clear hA hB hS eA eB eS es
    by_cases hall : kA = true ∧ kB = true ∧ kS = true
    · obtain ⟨rfl, rfl, rfl⟩ := hall
      have iA' := jA.1 rfl
      have iB' := jB.1 rfl
      have eA := vA iA'
      have iS' := jS.1 rfl
      have eS := vS iS'
      have eB := vB iB'
      rw [eA] at iS' eS
      have hspec : roundV a b = .tuple #[wideV (enc ((2 * a + b) / (2 * b))), .bool true] := by unfold roundV; rw [if_pos ⟨hb0, iA', iB', iS'⟩]
      rw [hspec, show 2 * a + b = pS by omega, show 2 * b = pB by omega]
      have hpB : 0 < pB := by omega
      have hfl := round_floor (s := pS) hpB
      obtain ⟨hq1, hq2⟩ := tdiv_in iS hpB
      have hD := fun w => div_z iS iB (fun _ => by rw [eS, eB]; exact hDV hb0 iA' iB' iS') w
      have edv : divZV pS pB = .tuple #[wideV (enc (pS.tdiv pB)), wideV (enc (pS.tmod pB)), .bool true] := by
        unfold divZV
        rw [if_neg (fun h => h.elim (fun h => by omega) (fun h => h hq1))]
      rw [edv] at hD
      have HD := hid hD
      have HSR := hid (fun w => sign_z (tmod_in (b := pB) iS) w)
      rw [hfl]
      clear hDV hspec edv hD jA vA jB vB jS vS iA' iB' iS' eA eS eB hfl
      by_cases hr : pS.tmod pB < 0
      · rw [if_pos hr]
        have e2 : sgn (pS.tmod pB) = -1 := by simp [sgn, hr]
        rw [e2] at HSR
        have i1 : InR 1 := InR.mk' (by have := hb_big; omega)
        have h1 := fun w => sub_z hq1 i1 w
        rw [opt_yes (hq2 hr)] at h1
        have HSU := hid h1
        have HO := hid (fun w => of_any 1 (by decide) (by decide) w)
        clear e2 h1 hr hq1 hq2
        generalize enc (pS.tmod pB) = er at *
        generalize enc (pS.tdiv pB) = eq at *
        generalize enc (pS.tdiv pB - 1) = eq1 at *
        generalize enc 1 = e1 at *
        unfold wideV at *
        go_enter Tryz.func99, Tryz.ntmps99
        go_wp2_with (first | ((with_reducible apply ld_rowP undW infoW); exact rfl; exact rfl; exact gRow) | ((with_reducible apply st_rowP infoW); exact rfl; exact rfl; exact gRow) | ((with_reducible apply st_rowZ infoW); exact rfl; exact rfl; exact gRow) | (go_at_call_of 47 (Value.agg (cells 16 (limb (enc b)))); refine (HSB.out _).mono ?_; rintro e w' ⟨rfl, hu⟩; have hsz0 := hu.size; (try simp at hsz0)) | (go_at_call_of 103 (Value.agg (cells 16 (limb (enc pA)))); refine (HS.out _).mono ?_; rintro e w' ⟨rfl, hu⟩; have hsz3 := hu.size; (try simp at hsz3)) | (go_at_call_of 103 (Value.agg (cells 16 (limb (enc a)))); refine (HA.out _).mono ?_; rintro e w' ⟨rfl, hu⟩; have hsz1 := hu.size; (try simp at hsz1)) | (go_at_call_of 103 (Value.agg (cells 16 (limb (enc b)))); refine (HB.out _).mono ?_; rintro e w' ⟨rfl, hu⟩; have hsz2 := hu.size; (try simp at hsz2)) | (go_at_call 111; refine (HD.out _).mono ?_; rintro e wD ⟨rfl, hu⟩; have hsz4 := hu.size; (try simp at hsz4)) | (go_at_call 47; refine (HSR.out _).mono ?_; rintro e w' ⟨rfl, hu⟩; skip))
        refine opU (S := (fun wq => Row wq wD.heap.size 33 16 (limb eq) ∧ Row wq (w.heap.size + 1 + 1) 33 16 (fun _ => 0) ∧ Below w.heap.size w wq)) (req := (fun j => j != 5)) (fun _ _ h hu => ⟨(h.1).up hu, (h.2.1).up hu, below_up (h.2.2) hu⟩) ⟨gRow, gRow, gUp⟩ (fun wS hSS hSu => ?_)
        have ⟨hS1, hS2, hSB⟩ := hSS
        refine tkT 0 (some 58) rfl hSu hSS ?_ (hy := fun w' hSw => run_ld undW infoW _ rfl _ rfl hSw.1)
        refine tkC 1 (some 59) rfl hSu hSS ?_ (hy := fun w' hSw => (HO.out _))
        refine tkC 2 (some 60) rfl hSu hSS ?_ (hy := fun w' hSw => (HSU.out _))
        refine tkP 3 (some 61) hSu ?_
        refine tkP 4 (some 62) hSu ?_
        refine wpAnyU_one (i := 5) rfl (by kernel_rfl) (by rfl) fun w9 hw9 => ?_
        refine wp_st_rowN infoW rfl _ _ rfl _ rfl rfl ((hS2.up hw9)) ?_
        refine ⟨fun h => by simp at h, ?_⟩
        try simp only [Act.put, pu1, pu2, pu3]
        refine tkP 6 (some 5) hSu ?_
        refine wpAnyU_done (by kernel_rfl) (fun wF huE => ?_) _
        have gR := ((hS2.up hw9).setRow (limb eq1)).up huE
        have gB := below_up (below_setRow (below_up hSB hw9) (show w.heap.size ≤ w.heap.size + 1 + 1 by omega) (cells 16 (limb eq1))) huE
        clear hS1 hS2 hSB hSS hw9 huE
        go_wp2
        exact bodyPost_ret (res2 rfl undW infoW _ _ rfl gR) rfl ⟨rfl, gB⟩
      · rw [if_neg hr]
        have e2 : 0 ≤ sgn (pS.tmod pB) := by
          simp only [sgn, hr, if_false]
          split <;> omega
        obtain ⟨sr, esr⟩ : ∃ sr, sgn (pS.tmod pB) = sr := ⟨_, rfl⟩
        rw [esr] at HSR e2
        have hneg : ¬ sr < 0 := by omega
        clear e2 esr hr hq1 hq2
        generalize enc (pS.tmod pB) = er at *
        generalize enc (pS.tdiv pB) = eq at *
        unfold wideV at *
        go_enter Tryz.func99, Tryz.ntmps99
        go_wp2_with (first | ((with_reducible apply ld_rowP undW infoW); exact rfl; exact rfl; exact gRow) | ((with_reducible apply st_rowP infoW); exact rfl; exact rfl; exact gRow) | ((with_reducible apply st_rowZ infoW); exact rfl; exact rfl; exact gRow) | (go_at_call_of 47 (Value.agg (cells 16 (limb (enc b)))); refine (HSB.out _).mono ?_; rintro e w' ⟨rfl, hu⟩; have hsz0 := hu.size; (try simp at hsz0)) | (go_at_call_of 103 (Value.agg (cells 16 (limb (enc pA)))); refine (HS.out _).mono ?_; rintro e w' ⟨rfl, hu⟩; have hsz3 := hu.size; (try simp at hsz3)) | (go_at_call_of 103 (Value.agg (cells 16 (limb (enc a)))); refine (HA.out _).mono ?_; rintro e w' ⟨rfl, hu⟩; have hsz1 := hu.size; (try simp at hsz1)) | (go_at_call_of 103 (Value.agg (cells 16 (limb (enc b)))); refine (HB.out _).mono ?_; rintro e w' ⟨rfl, hu⟩; have hsz2 := hu.size; (try simp at hsz2)) | (go_at_call 111; refine (HD.out _).mono ?_; rintro e wD ⟨rfl, hu⟩; have hsz4 := hu.size; (try simp at hsz4)) | (go_at_call 47; refine (HSR.out _).mono ?_; rintro e w' ⟨rfl, hu⟩; skip))
        exact bodyPost_ret (res2 rfl undW infoW _ _ rfl gRow) rfl ⟨rfl, gUp⟩
    · have hspec : roundV a b = .tuple #[.agg (cells 16 (fun _ => 0)), .bool false] := by
        unfold roundV
        rw [if_neg]
        rintro ⟨_, h1, h2, h3⟩
        have := jA.2 h1
        have e := vA h1
        rw [← e] at h3
        exact hall ⟨this, jB.2 h2, jS.2 h3⟩
      rw [hspec]
      clear hspec hDV jA vA jB vB jS vS
      cases kA <;> cases kB <;> cases kS
      case true.true.true => exact absurd ⟨rfl, rfl, rfl⟩ hall
      all_goals
        clear hall
        unfold wideV at *
        go_enter Tryz.func99, Tryz.ntmps99
        go_wp2_with (first | ((with_reducible apply ld_rowP undW infoW); exact rfl; exact rfl; exact gRow) | ((with_reducible apply st_rowP infoW); exact rfl; exact rfl; exact gRow) | ((with_reducible apply st_rowZ infoW); exact rfl; exact rfl; exact gRow) | (go_at_call_of 47 (Value.agg (cells 16 (limb (enc b)))); refine (HSB.out _).mono ?_; rintro e w' ⟨rfl, hu⟩; have hsz0 := hu.size; (try simp at hsz0)) | (go_at_call_of 103 (Value.agg (cells 16 (limb (enc pA)))); refine (HS.out _).mono ?_; rintro e w' ⟨rfl, hu⟩; have hsz3 := hu.size; (try simp at hsz3)) | (go_at_call_of 103 (Value.agg (cells 16 (limb (enc a)))); refine (HA.out _).mono ?_; rintro e w' ⟨rfl, hu⟩; have hsz1 := hu.size; (try simp at hsz1)) | (go_at_call_of 103 (Value.agg (cells 16 (limb (enc b)))); refine (HB.out _).mono ?_; rintro e w' ⟨rfl, hu⟩; have hsz2 := hu.size; (try simp at hsz2)))
        exact bodyPost_ret (res2 rfl undW infoW _ _ rfl gRow) rfl ⟨rfl, gUp⟩
  · have hspec : roundV a b = .tuple #[.agg (cells 16 (fun _ => 0)), .bool false] := by
      unfold roundV
      rw [if_neg fun h => hb0 h.1]
    rw [hspec]
    have es : sgn b ≤ 0 := by
      unfold sgn
      split
      · decide
      · rw [if_pos (by omega)]; decide
    obtain ⟨sb, esb⟩ : ∃ sb, sgn b = sb := ⟨_, rfl⟩
    rw [esb] at HSB es
    clear hspec hDV esb hb0
    unfold wideV at *
    go_enter Tryz.func99, Tryz.ntmps99
    go_wp2_with (first | ((with_reducible apply ld_rowP undW infoW); exact rfl; exact rfl; exact gRow) | ((with_reducible apply st_rowP infoW); exact rfl; exact rfl; exact gRow) | ((with_reducible apply st_rowZ infoW); exact rfl; exact rfl; exact gRow) | (go_at_call 47; refine (HSB.out _).mono ?_; rintro e w' ⟨rfl, hu⟩))
    exact bodyPost_ret (res2 rfl undW infoW _ _ rfl gRow) rfl ⟨rfl, gUp⟩
theorem op_eqS {o : Oper} {a : Act} {x y : Operand} {u : TypeId} (ho : o.op = .binOp .eql 33 x y u) {p : Nat} (hx : a.eval x = .agg (cells 16 (limb p))) (hy : a.eval y = .agg (cells 16 (limb p))) (hp : p < bp 16) (w : World) :
    (execOp a.eval o).run Tryz.prog w = .ok (.value (.bool true)) w := by
  have h := op_eqW ho hx hy hp hp w
  simpa using h
end Go.Proofs.YtnpaodlhhcnbgaaGreatDoor
namespace Go.Proofs.YtnpaodlhhcnbgaaGreatDoor
open Go Go.RowKit Go.ChangeShapes
theorem hb_pow (i : Nat) (h : i = 1023) : hb = 2 ^ i := by
  have h1 := bp16
  rw [bp_two, show 64 * 16 = i + 1 by omega, Nat.pow_succ] at h1
  omega
section
variable {H : Type} {enc : TypeId × Value → H} {P : Program}
end
end Go.Proofs.YtnpaodlhhcnbgaaGreatDoor
namespace Go.Proofs.YtnpaodlhhcnbgaaGreatDoor
open Go Go.RowKit
set_option maxRecDepth 100000
theorem lt_bp_self (x : Nat) : x < bp x := by
  induction x with
  | zero => rw [bp_zero]; omega
  | succ n ih => rw [bp_succ]; omega
def nl (x : Nat) : Nat := lenL (limb x) x
theorem sum_len {x N : Nat} (h : x < bp N) : sumL (limb x) (lenL (limb x) N) = x := by
  rw [lenL_sum, sumL_limb, Nat.mod_eq_of_lt h]
theorem lt_bp_len {x N : Nat} (h : x < bp N) : x < bp (lenL (limb x) N) := by
  have h1 := sum_len h
  have h2 := sumL_lt (f := limb x) (k := lenL (limb x) N) fun i _ => limb_lt x i
  omega
theorem nl_eq {x N : Nat} (h : x < bp N) : lenL (limb x) N = nl x := by
  have h1 := lt_bp_len h
  have h2 := lenL_top (limb x) N
  have hle : lenL (limb x) N ≤ x ∨ lenL (limb x) N = 0 := by
    rcases Nat.eq_zero_or_pos (lenL (limb x) N) with h0 | h0
    · exact .inr h0
    · have h3 := bp_le_of_len (limb x) N h0
      rw [sumL_limb, Nat.mod_eq_of_lt h] at h3
      have h4 := lt_bp_self (lenL (limb x) N - 1)
      exact .inl (by omega)
  refine (lenL_of (limb x) (by omega) (fun i hi _ => limb_of_small h1 hi) ?_).symm
  rcases Nat.eq_zero_or_pos (lenL (limb x) N) with h0 | h0
  · exact .inl h0
  · exact .inr (h2 h0)
theorem lt_bp_nl (x : Nat) : x < bp (nl x) := lt_bp_len (lt_bp_self x)
theorem bp_le_nl {x : Nat} (h : 0 < nl x) : bp (nl x - 1) ≤ x := by
  have h3 := bp_le_of_len (limb x) x h
  rw [sumL_limb, Nat.mod_eq_of_lt (lt_bp_self x)] at h3
  exact h3
theorem nl_le {x k : Nat} (h : x < bp k) : nl x ≤ k := by rw [← nl_eq h]; exact lenL_le _ _
theorem nl_zero : nl 0 = 0 := rfl
theorem nl_pos {x : Nat} (h : 0 < x) : 0 < nl x := by
  rcases Nat.eq_zero_or_pos (nl x) with h0 | h0
  · have := lt_bp_nl x
    rw [h0, bp_zero] at this
    omega
  · exact h0
theorem nl_pos_iff {x : Nat} : 0 < nl x ↔ 0 < x := by
  constructor
  · intro h
    rcases Nat.eq_zero_or_pos x with h0 | h0
    · subst h0; simp [nl_zero] at h
    · exact h0
  · exact nl_pos
theorem limb_nl {x i : Nat} (h : nl x ≤ i) : limb x i = 0 := limb_of_small (lt_bp_nl x) h
theorem sum_nl (x : Nat) : sumL (limb x) (nl x) = x := sum_len (lt_bp_self x)
theorem nl_sum {S : Nat → Nat} {n : Nat} (hS : ∀ i, i < n → S i < 18446744073709551616) : nl (sumL S n) = lenL S n := by
  rw [← nl_eq (sumL_lt hS)]
  exact lenL_congr fun i hi => limb_sumL hS hi
def Am (w : World) (v : Value) (x : Nat) : Prop :=
  ∃ a c, v = .slice a (nl x) c ∧ nl x ≤ c ∧ (0 < nl x → ∃ b C, a = some ⟨b, 0, none⟩ ∧ Blk w b 31 C ∧ ∀ i, i < nl x → C[i]? = some (.int .u64 (limb x i : Nat)))
theorem Am.up {w w' : World} {v : Value} {x : Nat} (h : Am w v x) (hu : Up w w') : Am w' v x := by
  obtain ⟨a, c, h1, h2, h3⟩ := h
  refine ⟨a, c, h1, h2, fun h0 => ?_⟩
  obtain ⟨b, C, h4, h6, h7⟩ := h3 h0
  exact ⟨b, C, h4, h6.up hu, h7⟩
theorem Am.open {w : World} {v : Value} {x : Nat} (h : Am w v x) : ∃ a c, v = .slice a (nl x) c ∧ nl x ≤ c ∧
    ∀ i, i < nl x → ∃ b, a = some ⟨b, 0, none⟩ ∧ b < w.heap.size ∧ ∀ w', Up w w' → w'.cell? ⟨b, i, none⟩ = some (.int .u64 (limb x i : Nat)) := by
  obtain ⟨a, c, h1, h2, h3⟩ := h
  refine ⟨a, c, h1, h2, fun i hi => ?_⟩
  obtain ⟨b, C, h4, h6, h7⟩ := h3 (by omega)
  exact ⟨b, h4, h6.lt, fun w' hu => (h6.up hu).cell i (h7 i hi)⟩
theorem am_nil (w : World) : Am w (.slice none 0 0) 0 := ⟨none, 0, by rw [nl_zero], by rw [nl_zero]; exact Nat.le_refl _, fun h => by rw [nl_zero] at h; omega⟩
theorem am_blk {w : World} {b n c : Nat} {S : Nat → Nat} {C : Array Value} (hB : Blk w b 31 C) (hC : ∀ i, i < n → C[i]? = some (.int .u64 (S i : Nat))) (hc : n ≤ c) (hS : ∀ i, i < n → S i < 18446744073709551616) :
    Am w (.slice (some ⟨b, 0, none⟩) (lenL S n) c) (sumL S n) := by
  have h1 := lenL_le S n
  refine ⟨_, c, by rw [nl_sum hS], by rw [nl_sum hS]; omega, fun _ => ⟨b, C, rfl, hB, fun i hi => ?_⟩⟩
  rw [nl_sum hS] at hi
  rw [limb_sumL hS (by omega)]
  exact hC i (by omega)
theorem am_row {w : World} {b n N c : Nat} {S : Nat → Nat} (hR : Row w b 31 N S) (hN : n ≤ N) (hc : n ≤ c) (hS : ∀ i, i < n → S i < 18446744073709551616) :
    Am w (.slice (some ⟨b, 0, none⟩) (lenL S n) c) (sumL S n) := am_blk hR (fun i hi => cells_get N S i (by omega)) hc hS
def slen : Value → Nat
  | .slice _ n _ => n
  | _ => 0
set_option maxHeartbeats 400000 in
theorem trim_cells (b n c : Nat) (S : Nat → Nat) (w : World) (hR : ∀ i, i < n → w.cell? ⟨b, i, none⟩ = some (.int .u64 (S i : Nat))) (hc : n ≤ c) (hn : n < 1000000) :
    Calls Tryz.prog 74 #[.slice (some ⟨b, 0, none⟩) n c] w fun e w' => e = .returned (.slice (some ⟨b, 0, none⟩) (lenL S n) c) ∧ Up w w' := by
  go_enter Tryz.func74, Tryz.ntmps74
  go_wp2
  go_loopw [0] (fun t wr => ∃ k : Nat, k ≤ n ∧ t = .slice (some ⟨b, 0, none⟩) k c ∧ lenL S k = lenL S n ∧ wr = w) (fun t _ => slen t)
  case atStart => exact ⟨n, Nat.le_refl _, rfl, rfl, rfl⟩
  case round =>
    obtain ⟨k, hk, rfl, hl, rfl⟩ := hrel
    by_cases h0 : 0 < k
    · obtain ⟨j, rfl⟩ : ∃ j, k = j + 1 := ⟨k - 1, by omega⟩
      have hcx := hR j (by omega)
      have hstep := lenL_succ S j
      have hjc : (j : Int) ≤ c := by omega
      generalize S j = s at *
      by_cases hs : s = 0
      · subst hs
        rw [if_pos rfl] at hstep
        have HL := hid (hstep.symm.trans hl)
        clear hstep hl
        go_wp2
        go_roundw
        case rel => exact ⟨j, by omega, rfl, HL.out, trivial⟩
        case measure => simp [slen]
      · rw [if_neg hs] at hstep
        have HL := hid (hstep.symm.trans hl)
        have hb : ((s : Int) == 0) = false := by simpa using hs
        clear hstep hl hs
        go_wp2
        go_ret
        exact ⟨by rw [← HL.out]; rfl, gUp⟩
    · obtain rfl : k = 0 := by omega
      have HL := hid hl
      clear hl
      go_wp2
      go_ret
      exact ⟨by rw [← HL.out]; rfl, gUp⟩
theorem trim_row (b n N c : Nat) (S : Nat → Nat) (w : World) (hR : Row w b 31 N S) (hN : n ≤ N) (hc : n ≤ c) (hn : n < 1000000) :
    Calls Tryz.prog 74 #[.slice (some ⟨b, 0, none⟩) n c] w fun e w' => e = .returned (.slice (some ⟨b, 0, none⟩) (lenL S n) c) ∧ Up w w' :=
  trim_cells b n c S w (fun i hi => hR.cell i (by omega)) hc hn
theorem undS : Tryz.prog.underlying 44 = some (.slice 31) := by kernel_rfl
theorem infoU : (Tryz.prog.info? 31).map (fun i => (i.zero, i.size, i.bytes)) = some (some (.int .u64 0), 1, 8) := by kernel_rfl
theorem zeros_made (n : Nat) : madeCells (Value.int .u64 0).cells n = cells n (fun _ => 0) := by
  unfold cells
  apply Array.ext
  · simp [madeCells]
  · intro i h1 h2
    simp [madeCells, Value.cells, Nat.mod_one]
theorem mkP {ops : Array Oper} {rest : List Oper} {Q : Exit → Act → World → Prop} {a : Act} {w : World} {d : Option Tmp} {l : Tmp} {ty : TypeId} {pos : String} {af : Array Edge} {L : Int} {n : Nat} (hl : a.eval (.tmp l) = .int .i64 L) (hL : L = (n : Int)) (hn : n < 1000000)
    (h : wpList Tryz.prog ops Q rest (a.put d (.slice (some ⟨w.heap.size, 0, none⟩) n n)) (w.alloc (.cells (cells n (fun _ => 0)) 31))) :
    wpList Tryz.prog ops Q ({ dst := d, op := .makeSlice 44 (.tmp l) (.tmp l), type := ty, pos := pos, after := af, guard := none } :: rest) a w := by
  refine wpList_plain rfl fun _ hK => ?_
  have hi := infoU
  cases hq : Tryz.prog.info? 31 with
  | none => rw [hq] at hi; simp at hi
  | some i =>
    rw [hq] at hi
    simp only [Option.map_some, Option.some.injEq, Prod.mk.injEq] at hi
    have hr := run_make (P := Tryz.prog) (w := w) 44 31 i (.int .u64 0) undS hq hi.1 .i64 .i64 L L (by omega) (by omega) (by rw [hi.2.2]; omega) (by omega)
    rw [hi.2.1, Nat.mul_one, hL, Int.toNat_natCast, zeros_made] at hr
    unfold Oper.wp execOp
    simp only [hl, hL, Sem.run_bind, Sem.run_pure, Result.andThen_ok, hr]
    exact hK _ _ h
theorem plus_end {S : Nat → Nat} {x y k c : Nat} (_ : ∀ j, j < k + 1 → S j < 18446744073709551616) (hx : nl x ≤ k) (hy : nl y ≤ k) (h : sumL S (k + 1) + c * bp (k + 1) = sumL (limb x) (k + 1) + sumL (limb y) (k + 1)) : sumL S (k + 1) = x + y := by
  have h1 := bp_mono hx
  have h2 := bp_mono hy
  have h3 := lt_bp_nl x
  have h4 := lt_bp_nl y
  have h5 := bp_succ k
  rw [sumL_limb, sumL_limb, Nat.mod_eq_of_lt (show x < bp (k + 1) by omega), Nat.mod_eq_of_lt (show y < bp (k + 1) by omega)] at h
  rcases Nat.eq_zero_or_pos c with h0 | h0
  · subst h0; omega
  · have : 1 * bp (k + 1) ≤ c * bp (k + 1) := Nat.mul_le_mul_right _ h0
    omega
theorem minus_end {S : Nat → Nat} {x y k c : Nat} (hS : ∀ j, j < k → S j < 18446744073709551616) (hx : nl x ≤ k) (hxy : y ≤ x) (h : sumL S k + sumL (limb y) k = sumL (limb x) k + c * bp k) : sumL S k = x - y := by
  have h1 := bp_mono hx
  have h3 := lt_bp_nl x
  have h5 := sumL_lt hS
  rw [sumL_limb, sumL_limb, Nat.mod_eq_of_lt (show x < bp k by omega), Nat.mod_eq_of_lt (show y < bp k by omega)] at h
  rcases Nat.eq_zero_or_pos c with h0 | h0
  · subst h0; omega
  · have : 1 * bp k ≤ c * bp k := Nat.mul_le_mul_right _ h0
    omega
theorem padd_step {S : Nat → Nat} {X Y A B c r c' i : Nat} (h : sumL S i + c * bp i = A + B) (hr : r + c' * 18446744073709551616 = X + Y + c) : sumL (upd S i r) (i + 1) + c' * bp (i + 1) = A + X * bp i + (B + Y * bp i) := by
  rw [sumL_upd_succ, bp_succ]
  have h2 : (r + c' * 18446744073709551616) * bp i = (X + Y + c) * bp i := by rw [hr]
  have h3 : r * bp i + c' * (bp i * 18446744073709551616) = X * bp i + Y * bp i + c * bp i := by grind
  omega
theorem psub_step {S : Nat → Nat} {X Y A B c r c' i : Nat} (h : sumL S i + B = A + c * bp i) (hr : r + Y + c = X + c' * 18446744073709551616) : sumL (upd S i r) (i + 1) + (B + Y * bp i) = A + X * bp i + c' * bp (i + 1) := by
  rw [sumL_upd_succ, bp_succ]
  have h2 : (r + Y + c) * bp i = (X + c' * 18446744073709551616) * bp i := by rw [hr]
  have h3 : r * bp i + Y * bp i + c * bp i = X * bp i + c' * (bp i * 18446744073709551616) := by grind
  omega
set_option maxHeartbeats 1000000 in
theorem plus_am {x y : Nat} {va vb : Value} {w : World} (ha : Am w va x) (hb : Am w vb y) (hx : nl x < 100000) (hy : nl y < 100000) :
    Calls Tryz.prog 105 #[va, vb] w fun e w' => Up w w' ∧ ∃ v, e = .returned v ∧ Am w' v (x + y) := by
  obtain ⟨a, ca, rfl, hca1, hca0⟩ := ha.open
  obtain ⟨b, cb, rfl, hcb1, hcb0⟩ := hb.open
  obtain ⟨k, hk, hk1, hk2, hk3⟩ : ∃ k : Nat, max ((nl x : Nat) : Int) (nl y : Nat) = (k : Nat) ∧ nl x ≤ k ∧ nl y ≤ k ∧ k < 100000 := ⟨max (nl x) (nl y), by omega, by omega, by omega, by omega⟩
  clear ha hb
  go_enter Tryz.func105, Tryz.ntmps105
  go_wp2_with (first | ((with_reducible apply mkP (n := k + 1)); exact rfl; (first | rfl | omega); omega))
  go_loopw [7, 8] (fun tc ti wr => ∃ (i cc : Nat) (S : Nat → Nat), i ≤ k + 1 ∧ tc = .int .u64 (cc : Nat) ∧ ti = .int .i64 (i : Nat) ∧ cc ≤ 1 ∧ (∀ j, j < k + 1 → S j < 18446744073709551616) ∧ sumL S i + cc * bp i = sumL (limb x) i + sumL (limb y) i ∧ Row wr w.heap.size 31 (k + 1) S ∧ Below w.heap.size w wr)
    (fun _ ti _ => k + 1 - (intOf ti).toNat)
  case atStart => exact ⟨0, 0, fun _ => 0, by omega, rfl, rfl, by omega, fun _ _ => by simp, by simp [sumL_zero], row_newc _ _ _ rfl, (by repeat (first | assumption | (with_reducible apply Up.of) | (with_reducible exact Below.refl _ _) | ((with_reducible apply bl_setCell); (focus (first | exact Nat.le_refl _ | (simp; done) | (simp; omega) | omega))) | ((with_reducible apply bl_alloc); (focus (first | exact Nat.le_refl _ | (simp; done) | (simp; omega) | omega)))))⟩
  case round =>
    obtain ⟨i, cc, S, hi, rfl, rfl, hcc, hSb, hsum, hS, hB⟩ := hrel
    have HSb := hid hSb
    have Hsum := hid hsum
    clear hSb hsum
    by_cases hlt : i < k + 1
    · by_cases hp : i < nl x
      · by_cases hq : i < nl y
        · have h_ := hp
          obtain ⟨ba, rfl, hba, hca⟩ := hca0 i hp
          have hcx := hca wr hB
          obtain ⟨bb, rfl, hbb, hcb⟩ := hcb0 i hq
          have hcy := hcb wr hB
          obtain ⟨r, c', hadd, hrc, hrl, hc1⟩ : ∃ r c' : Nat, (∀ w, (callFunc 88 #[.int .u64 (limb x i : Nat), .int .u64 (limb y i : Nat), .int .u64 (cc : Nat)]).run Tryz.prog w = .ok (.value (.tuple #[.int .u64 (r : Nat), .int .u64 (c' : Nat)])) w) ∧ Hid (r + c' * 18446744073709551616 = limb x i + limb y i + cc) ∧ r < 18446744073709551616 ∧ c' ≤ 1 := by
            have hl1 := limb_lt x i
            have hl2 := limb_lt y i
            have h := run_add (limb x i) (limb y i) cc (by omega)
            exact ⟨_, _, h, hid (by omega), Nat.mod_lt _ (by decide), by omega⟩
          have hcs := hS.cell i (by omega)
          have hfs := hS.frozen i
          have gS := hS.set i r
          have gB := hB.setCell (p := ⟨w.heap.size, i, none⟩) (Nat.le_refl _) (.int .u64 (r : Nat))
          have hip : (decide ((i : Int) < (nl x : Nat))) = true := decide_eq_true (by omega)
          have hiq : decide ((i : Int) < (nl y : Nat)) = true := decide_eq_true (by omega)
          clear hB hS
          go_wp2
          go_roundw
          case rel =>
            refine ⟨i + 1, c', upd S i r, by omega, rfl, by go_num, hc1, upd_lt HSb.out hrl, ?_, gS, gB⟩
            rw [sumL_succ (limb x) i, sumL_succ (limb y) i]
            exact padd_step Hsum.out hrc.out
          case measure => simp [intOf] <;> omega
        · have h_ := hp
          obtain ⟨ba, rfl, hba, hca⟩ := hca0 i hp
          have hcx := hca wr hB
          have hzy := limb_nl (x := y) (i := i) (by omega)
          obtain ⟨r, c', hadd, hrc, hrl, hc1⟩ : ∃ r c' : Nat, (∀ w, (callFunc 88 #[.int .u64 (limb x i : Nat), .int .u64 0, .int .u64 (cc : Nat)]).run Tryz.prog w = .ok (.value (.tuple #[.int .u64 (r : Nat), .int .u64 (c' : Nat)])) w) ∧ Hid (r + c' * 18446744073709551616 = limb x i + limb y i + cc) ∧ r < 18446744073709551616 ∧ c' ≤ 1 := by
            have hl1 := limb_lt x i
            have hl2 := limb_lt y i
            have h := run_add (limb x i) (0) cc (by omega)
            simp only [show ((0 : Nat) : Int) = 0 from rfl] at h
            exact ⟨_, _, h, hid (by omega), Nat.mod_lt _ (by decide), by omega⟩
          have hcs := hS.cell i (by omega)
          have hfs := hS.frozen i
          have gS := hS.set i r
          have gB := hB.setCell (p := ⟨w.heap.size, i, none⟩) (Nat.le_refl _) (.int .u64 (r : Nat))
          have hip : (decide ((i : Int) < (nl x : Nat))) = true := decide_eq_true (by omega)
          have hiq : decide ((i : Int) < (nl y : Nat)) = false := decide_eq_false (by omega)
          clear hB hS
          go_wp2
          go_roundw
          case rel =>
            refine ⟨i + 1, c', upd S i r, by omega, rfl, by go_num, hc1, upd_lt HSb.out hrl, ?_, gS, gB⟩
            rw [sumL_succ (limb x) i, sumL_succ (limb y) i]
            exact padd_step Hsum.out hrc.out
          case measure => simp [intOf] <;> omega
      · by_cases hq : i < nl y
        · have h_ := hq
          have hzx := limb_nl (x := x) (i := i) (by omega)
          obtain ⟨bb, rfl, hbb, hcb⟩ := hcb0 i hq
          have hcy := hcb wr hB
          obtain ⟨r, c', hadd, hrc, hrl, hc1⟩ : ∃ r c' : Nat, (∀ w, (callFunc 88 #[.int .u64 0, .int .u64 (limb y i : Nat), .int .u64 (cc : Nat)]).run Tryz.prog w = .ok (.value (.tuple #[.int .u64 (r : Nat), .int .u64 (c' : Nat)])) w) ∧ Hid (r + c' * 18446744073709551616 = limb x i + limb y i + cc) ∧ r < 18446744073709551616 ∧ c' ≤ 1 := by
            have hl1 := limb_lt x i
            have hl2 := limb_lt y i
            have h := run_add (0) (limb y i) cc (by omega)
            simp only [show ((0 : Nat) : Int) = 0 from rfl] at h
            exact ⟨_, _, h, hid (by omega), Nat.mod_lt _ (by decide), by omega⟩
          have hcs := hS.cell i (by omega)
          have hfs := hS.frozen i
          have gS := hS.set i r
          have gB := hB.setCell (p := ⟨w.heap.size, i, none⟩) (Nat.le_refl _) (.int .u64 (r : Nat))
          have hip : (decide ((i : Int) < (nl x : Nat))) = false := decide_eq_false (by omega)
          have hiq : decide ((i : Int) < (nl y : Nat)) = true := decide_eq_true (by omega)
          clear hB hS
          go_wp2
          go_roundw
          case rel =>
            refine ⟨i + 1, c', upd S i r, by omega, rfl, by go_num, hc1, upd_lt HSb.out hrl, ?_, gS, gB⟩
            rw [sumL_succ (limb x) i, sumL_succ (limb y) i]
            exact padd_step Hsum.out hrc.out
          case measure => simp [intOf] <;> omega
        · have h_ := hq
          have hzx := limb_nl (x := x) (i := i) (by omega)
          have hzy := limb_nl (x := y) (i := i) (by omega)
          obtain ⟨r, c', hadd, hrc, hrl, hc1⟩ : ∃ r c' : Nat, (∀ w, (callFunc 88 #[.int .u64 0, .int .u64 0, .int .u64 (cc : Nat)]).run Tryz.prog w = .ok (.value (.tuple #[.int .u64 (r : Nat), .int .u64 (c' : Nat)])) w) ∧ Hid (r + c' * 18446744073709551616 = limb x i + limb y i + cc) ∧ r < 18446744073709551616 ∧ c' ≤ 1 := by
            have hl1 := limb_lt x i
            have hl2 := limb_lt y i
            have h := run_add (0) (0) cc (by omega)
            simp only [show ((0 : Nat) : Int) = 0 from rfl] at h
            exact ⟨_, _, h, hid (by omega), Nat.mod_lt _ (by decide), by omega⟩
          have hcs := hS.cell i (by omega)
          have hfs := hS.frozen i
          have gS := hS.set i r
          have gB := hB.setCell (p := ⟨w.heap.size, i, none⟩) (Nat.le_refl _) (.int .u64 (r : Nat))
          have hip : (decide ((i : Int) < (nl x : Nat))) = false := decide_eq_false (by omega)
          have hiq : decide ((i : Int) < (nl y : Nat)) = false := decide_eq_false (by omega)
          clear hB hS
          go_wp2
          go_roundw
          case rel =>
            refine ⟨i + 1, c', upd S i r, by omega, rfl, by go_num, hc1, upd_lt HSb.out hrl, ?_, gS, gB⟩
            rw [sumL_succ (limb x) i, sumL_succ (limb y) i]
            exact padd_step Hsum.out hrc.out
          case measure => simp [intOf] <;> omega
    · obtain rfl : i = k + 1 := by omega
      have he := plus_end HSb.out hk1 hk2 Hsum.out
      have ht := trim_row w.heap.size (k + 1) (k + 1) (k + 1) S wr hS (Nat.le_refl _) (Nat.le_refl _) (by omega)
      have hres := am_row (c := k + 1) hS (Nat.le_refl _) (Nat.le_refl _) HSb.out
      rw [he] at hres
      have HT := hid ht
      have HR := hid hres
      clear ht hres he HSb Hsum hS
      go_wp2_with (go_at_call 74; (with_reducible refine HT.out.mono ?_); rintro e w' ⟨rfl, hu⟩)
      go_ret
      exact ⟨below_up hB hu, _, rfl, HR.out.up hu⟩
set_option maxHeartbeats 1000000 in
theorem minus_am {x y : Nat} {va vb : Value} {w : World} (ha : Am w va x) (hb : Am w vb y) (hx : nl x < 100000) (hxy : y ≤ x) :
    Calls Tryz.prog 106 #[va, vb] w fun e w' => Up w w' ∧ ∃ v, e = .returned v ∧ Am w' v (x - y) := by
  obtain ⟨a, ca, rfl, hca1, hca0⟩ := ha.open
  obtain ⟨b, cb, rfl, hcb1, hcb0⟩ := hb.open
  obtain ⟨k, hk⟩ : ∃ k : Nat, k = nl x := ⟨_, rfl⟩
  have hqk : nl y ≤ nl x := nl_le (Nat.lt_of_le_of_lt hxy (lt_bp_nl x))
  clear ha hb
  go_enter Tryz.func106, Tryz.ntmps106
  go_wp2_with (first | ((with_reducible apply mkP (n := nl x)); exact rfl; (first | rfl | omega); omega))
  go_loopw [6, 7] (fun tc ti wr => ∃ (i cc : Nat) (S : Nat → Nat), i ≤ nl x ∧ tc = .int .u64 (cc : Nat) ∧ ti = .int .i64 (i : Nat) ∧ cc ≤ 1 ∧ (∀ j, j < nl x → S j < 18446744073709551616) ∧ sumL S i + sumL (limb y) i = sumL (limb x) i + cc * bp i ∧ Row wr w.heap.size 31 (nl x) S ∧ Below w.heap.size w wr)
    (fun _ ti _ => nl x - (intOf ti).toNat)
  case atStart => exact ⟨0, 0, fun _ => 0, by omega, rfl, rfl, by omega, fun _ _ => by simp, by simp [sumL_zero], row_newc _ _ _ rfl, (by repeat (first | assumption | (with_reducible apply Up.of) | (with_reducible exact Below.refl _ _) | ((with_reducible apply bl_setCell); (focus (first | exact Nat.le_refl _ | (simp; done) | (simp; omega) | omega))) | ((with_reducible apply bl_alloc); (focus (first | exact Nat.le_refl _ | (simp; done) | (simp; omega) | omega)))))⟩
  case round =>
    obtain ⟨i, cc, S, hi, rfl, rfl, hcc, hSb, hsum, hS, hB⟩ := hrel
    have HSb := hid hSb
    have Hsum := hid hsum
    clear hSb hsum
    by_cases hlt : i < nl x
    · have hp := hlt
      by_cases hq : i < nl y
      · have h_ := hp
        obtain ⟨ba, rfl, hba, hca⟩ := hca0 i hp
        have hcx := hca wr hB
        obtain ⟨bb, rfl, hbb, hcb⟩ := hcb0 i hq
        have hcy := hcb wr hB
        obtain ⟨r, c', hadd, hrc, hrl, hc1⟩ : ∃ r c' : Nat, (∀ w, (callFunc 130 #[.int .u64 (limb x i : Nat), .int .u64 (limb y i : Nat), .int .u64 (cc : Nat)]).run Tryz.prog w = .ok (.value (.tuple #[.int .u64 (r : Nat), .int .u64 (c' : Nat)])) w) ∧ Hid (r + limb y i + cc = limb x i + c' * 18446744073709551616) ∧ r < 18446744073709551616 ∧ c' ≤ 1 := by
          have hl1 := limb_lt x i
          have hl2 := limb_lt y i
          have h := run_sub (limb x i) (limb y i) cc (by omega)
          exact ⟨_, _, h, hid (by split <;> omega), Nat.mod_lt _ (by decide), by split <;> omega⟩
        have hcs := hS.cell i (by omega)
        have hfs := hS.frozen i
        have gS := hS.set i r
        have gB := hB.setCell (p := ⟨w.heap.size, i, none⟩) (Nat.le_refl _) (.int .u64 (r : Nat))
        have hip : (decide ((i : Int) < (nl x : Nat))) = true := decide_eq_true (by omega)
        have hiq : decide ((i : Int) < (nl y : Nat)) = true := decide_eq_true (by omega)
        clear hB hS
        go_wp2
        go_roundw
        case rel =>
          refine ⟨i + 1, c', upd S i r, by omega, rfl, by go_num, hc1, upd_lt HSb.out hrl, ?_, gS, gB⟩
          rw [sumL_succ (limb x) i, sumL_succ (limb y) i]
          exact psub_step Hsum.out hrc.out
        case measure => simp [intOf] <;> omega
      · have h_ := hp
        obtain ⟨ba, rfl, hba, hca⟩ := hca0 i hp
        have hcx := hca wr hB
        have hzy := limb_nl (x := y) (i := i) (by omega)
        obtain ⟨r, c', hadd, hrc, hrl, hc1⟩ : ∃ r c' : Nat, (∀ w, (callFunc 130 #[.int .u64 (limb x i : Nat), .int .u64 0, .int .u64 (cc : Nat)]).run Tryz.prog w = .ok (.value (.tuple #[.int .u64 (r : Nat), .int .u64 (c' : Nat)])) w) ∧ Hid (r + limb y i + cc = limb x i + c' * 18446744073709551616) ∧ r < 18446744073709551616 ∧ c' ≤ 1 := by
          have hl1 := limb_lt x i
          have hl2 := limb_lt y i
          have h := run_sub (limb x i) (0) cc (by omega)
          simp only [show ((0 : Nat) : Int) = 0 from rfl] at h
          exact ⟨_, _, h, hid (by split <;> omega), Nat.mod_lt _ (by decide), by split <;> omega⟩
        have hcs := hS.cell i (by omega)
        have hfs := hS.frozen i
        have gS := hS.set i r
        have gB := hB.setCell (p := ⟨w.heap.size, i, none⟩) (Nat.le_refl _) (.int .u64 (r : Nat))
        have hip : (decide ((i : Int) < (nl x : Nat))) = true := decide_eq_true (by omega)
        have hiq : decide ((i : Int) < (nl y : Nat)) = false := decide_eq_false (by omega)
        clear hB hS
        go_wp2
        go_roundw
        case rel =>
          refine ⟨i + 1, c', upd S i r, by omega, rfl, by go_num, hc1, upd_lt HSb.out hrl, ?_, gS, gB⟩
          rw [sumL_succ (limb x) i, sumL_succ (limb y) i]
          exact psub_step Hsum.out hrc.out
        case measure => simp [intOf] <;> omega
    · obtain rfl : i = nl x := by omega
      have he := minus_end HSb.out (Nat.le_refl _) hxy Hsum.out
      have ht := trim_row w.heap.size (nl x) (nl x) (nl x) S wr hS (Nat.le_refl _) (Nat.le_refl _) (by omega)
      have hres := am_row (c := nl x) hS (Nat.le_refl _) (Nat.le_refl _) HSb.out
      rw [he] at hres
      have HT := hid ht
      have HR := hid hres
      clear ht hres he HSb Hsum hS
      go_wp2_with (go_at_call 74; (with_reducible refine HT.out.mono ?_); rintro e w' ⟨rfl, hu⟩)
      go_ret
      exact ⟨below_up hB hu, _, rfl, HR.out.up hu⟩
theorem undB0 : (match Tryz.prog.underlying 46 with | some (.struct _) => true | _ => false) = true := by kernel_rfl
theorem undB : ∃ fs, Tryz.prog.underlying 46 = some (.struct fs) := by
  have h := undB0
  split at h
  · exact ⟨_, by assumption⟩
  · cases h
theorem infoB : (Tryz.prog.info? 46).map (·.size) = some 2 := by kernel_rfl
theorem blk_new {w : World} {b : Nat} {t : TypeId} {C : Array Value} (h : b = w.heap.size) : Blk (w.alloc (.cells C t)) b t C := Blk.new _ _ h
theorem blk_alloc {w : World} {b : Nat} {t : TypeId} {C : Array Value} {o : Obj} (h : Blk w b t C) : Blk (w.alloc o) b t C := h.old o
theorem blk_up {w w' : World} {b : Nat} {t : TypeId} {C : Array Value} (hu : Up w w') (h : Blk w b t C) : Blk w' b t C := h.up hu
theorem blk_same {w : World} {b : Nat} {t : TypeId} {C D : Array Value} (h : Blk w b t C) : Blk (w.setRow b D) b t D := h.setRow D
theorem blk_else {w : World} {b g : Nat} {t : TypeId} {C D : Array Value} (hb : b ≠ g) (h : Blk w b t C) : Blk (w.setRow g D) b t C := h.row_other D hb
theorem gBlk {w : World} {b : Nat} {t : TypeId} {C : Array Value} (h : Blk w b t C := by (repeat (first | assumption | ((with_reducible apply blk_new); (focus (first | rfl | (simp; done)))) | (with_reducible apply blk_alloc) | (with_reducible apply blk_drew) | (with_reducible apply blk_drewN) | ((with_reducible apply blk_up); assumption) | (with_reducible apply blk_same) | ((with_reducible apply blk_else); (focus (first | (simp; done) | (simp; omega) | omega)))))) : Blk w b t C := h
theorem one2 (b : Bool) (a : Option Addr) (n c : Nat) : (#[Value.bool b, Value.slice a n c]).all (·.oneCell') = true := by simp [Value.oneCell']
section
variable {ops : Array Oper} {rest : List Oper} {Q : Exit → Act → World → Prop} {a : Act} {w : World} {d : Option Tmp} {s u : Tmp} {ty : TypeId} {pos : String} {af : Array Edge} {gd : Option (Nat × Bool)} {g : Nat} {C D : Array Value}
theorem run_ldB {o : Oper} {x : Operand} (ho : o.op = .load 46 x) (hx : a.eval x = .pointer (some ⟨g, 0, none⟩)) (hC : Blk w g 46 C) (h2 : C.size = 2) : (execOp a.eval o).run Tryz.prog w = .ok (.value (.agg C)) w := by
  obtain ⟨fs, hu⟩ := undB
  unfold execOp
  simp only [ho, hx, Instr.loadAt, Instr.sureAddr, Sem.run_bind, Sem.run_pure, Result.andThen_ok, run_loadVar_row w g _ 46 C (0, 0) _ hC hu rfl (by rw [infoB, h2])]
theorem ldB_P (hw : Region.wanted { dst := d, op := .load 46 (.tmp s), type := ty, pos := pos, after := af, guard := gd } (yielded ops a.tmps) = true) (hx : a.eval (.tmp s) = .pointer (some ⟨g, 0, none⟩)) (hC : Blk w g 46 C) (h2 : C.size = 2)
    (h : wpList Tryz.prog ops Q rest (a.put d (.agg C)) w) : wpList Tryz.prog ops Q ({ dst := d, op := .load 46 (.tmp s), type := ty, pos := pos, after := af, guard := gd } :: rest) a w :=
  wpList_run hw (run_ldB rfl hx hC h2) h
theorem stB_P (hx : a.eval (.tmp s) = .pointer (some ⟨g, 0, none⟩)) (hy : a.eval (.tmp u) = .agg D) (hC : Blk w g 46 C) (h2 : C.size = 2) (h3 : D.size = 2) (h1 : D.all (·.oneCell') = true)
    (h : wpList Tryz.prog ops Q rest (a.put d undef) (w.setRow g D)) :
    wpList Tryz.prog ops Q ({ dst := d, op := .store 46 (.tmp s) (.tmp u), type := ty, pos := pos, after := af, guard := none } :: rest) a w :=
  wpList_plain rfl fun _ hK => wp_store_row _ _ _ rfl g D hx hy _ C hC (by rw [infoB, h3]) (by rw [h2, h3]) h1 (hK _ _ h)
theorem wp_stB {o : Oper} {K : Act → World → Prop} (hd : o.dst = none) {x y : Operand} (ho : o.op = .store 46 x y) (hx : a.eval x = .pointer (some ⟨g, 0, none⟩)) (hy : a.eval y = .agg D) (hC : Blk w g 46 C) (h2 : C.size = 2) (h3 : D.size = 2) (h1 : D.all (·.oneCell') = true)
    (h : K a (w.setRow g D)) : o.wp Tryz.prog a w K Q :=
  wp_store_row _ _ _ ho g D hx hy _ C hC (by rw [infoB, h3]) (by rw [h2, h3]) h1 (by rw [hd]; exact h)
end
theorem resB {fn : Func} {p : Tmp} (h : fn.results = #[.cell p 46]) {tmps : Array Value} {w : World} {g : Nat} {C : Array Value} (hp : tmps.getD p undef = .pointer (some ⟨g, 0, none⟩)) (hC : Blk w g 46 C) (h2 : C.size = 2) :
    (results fn tmps).run Tryz.prog w = .ok (.agg C) w := undB.elim fun _ hu => results_cell_row h tmps w g _ C (0, 0) _ hp hC hu rfl (by rw [infoB, h2])
section
variable {P : Program} {ops : Array Oper} {Q : Exit → Act → World → Prop} {md : Region.Mode} {S : World → Prop} {req : Nat → Bool}
theorem wpAnyU_callE {i : Nat} {o : Oper} {d : Option Tmp} {fuel : Nat} {listed : Array Bool} {a : Act} {w : World} {f : FuncId} {args : Array Value} {R : Value → World → Prop} (hi : ops[i]? = some o) (hd : o.dst = d) (hr : Region.ready md ops listed = [i]) (hw : Region.wanted o (yielded ops a.tmps) = true)
    (hSup : ∀ w w', S w → Up w w' → S w') (hrun : ∀ w', (execOp a.eval o).run P w' = .ok (.enter f args) w') (hc : ∀ w', Up w w' → Calls P f args w' fun e w'' => Up w' w'' ∧ ∃ v, e = .returned v ∧ R v w'')
    (h : ∀ v w'', Up w w'' → R v w'' → wpAnyU P md ops Q S req fuel (listed.setIfInBounds i true) (a.put d v) w'') : wpAnyU P md ops Q S req (fuel + 1) listed a w := by
  refine wpAnyU_one hi hr hw fun w' hw' => ?_
  unfold Oper.wp
  rw [hrun w']
  subst hd
  refine Calls.mono (hc w' hw') fun e w'' he => ?_
  obtain ⟨hu, v, rfl, hR⟩ := he
  exact ⟨fun _ hs => hSup _ _ hs hu, h v w'' (hw'.trans hu) hR⟩
end
theorem callE_of {P : Program} {f : FuncId} {args : Array Value} {w : World} {v : Value} (h : Calls P f args w fun e w' => e = .returned v ∧ Up w w') : Calls P f args w fun e w' => Up w w' ∧ ∃ u, e = .returned u ∧ u = v :=
  h.mono fun _ _ he => ⟨he.2, v, he.1, rfl⟩
def Big (w : World) (v : Value) (z : Int) : Prop := ∃ a c, v = .agg #[.bool (decide (z < 0)), .slice a (nl z.natAbs) c] ∧ Am w (.slice a (nl z.natAbs) c) z.natAbs
theorem Big.up {w w' : World} {v : Value} {z : Int} (h : Big w v z) (hu : Up w w') : Big w' v z := by
  obtain ⟨a, c, h1, h2⟩ := h
  exact ⟨a, c, h1, h2.up hu⟩
theorem Am.shape {w : World} {v : Value} {x : Nat} (h : Am w v x) : ∃ a c, v = .slice a (nl x) c := by
  obtain ⟨a, c, h1, _⟩ := h
  exact ⟨a, c, h1⟩
theorem pm_abs (neg : Bool) (x : Nat) : (pm neg x).natAbs = x := by cases neg <;> simp [pm]
theorem pm_neg (neg : Bool) (x : Nat) : decide (pm neg x < 0) = (neg && decide (0 < nl x)) := by
  rw [Bool.eq_iff_iff]
  cases neg <;> simp [pm, nl_pos_iff] <;> omega
theorem big_made {w : World} {a : Option Addr} {c x : Nat} (neg : Bool) (h : Am w (.slice a (nl x) c) x) : Big w (.agg #[.bool (neg && decide (0 < nl x)), .slice a (nl x) c]) (pm neg x) :=
  ⟨a, c, by rw [pm_neg, pm_abs], by rw [pm_abs]; exact h⟩
theorem made_any (neg : Bool) (a : Option Addr) (n c : Nat) (w : World) :
    Calls Tryz.prog 58 #[.bool neg, .slice a n c] w fun e w' => e = .returned (.agg #[.bool (neg && decide (0 < n)), .slice a n c]) ∧ Up w w' := by
  cases neg with
  | false =>
    rw [Bool.false_and]
    go_enter Tryz.func58, Tryz.ntmps58
    go_wp2
    exact bodyPost_ret (resB rfl rfl (by (repeat (first | assumption | ((with_reducible apply blk_new); (focus (first | rfl | (simp; done)))) | (with_reducible apply blk_alloc) | (with_reducible apply blk_drew) | (with_reducible apply blk_drewN) | ((with_reducible apply blk_up); assumption) | (with_reducible apply blk_same) | ((with_reducible apply blk_else); (focus (first | (simp; done) | (simp; omega) | omega)))))) rfl) rfl ⟨rfl, (by repeat (first | assumption | (with_reducible apply Up.of) | (with_reducible exact Below.refl _ _) | (with_reducible exact Up.refl _) | ((with_reducible apply bl_setRow); (focus (first | exact Nat.le_refl _ | (simp; done) | (simp; omega) | omega))) | (with_reducible apply below_drewN) | (with_reducible apply Below.drew) | ((with_reducible apply bl_alloc); (focus (first | exact Nat.le_refl _ | (simp; done) | (simp; omega) | omega))) | ((with_reducible apply bl_setCell); (focus (first | exact Nat.le_refl _ | (simp; done) | (simp; omega) | omega))) | ((with_reducible apply up_tr); assumption)))⟩
  | true =>
    rw [Bool.true_and]
    go_enter Tryz.func58, Tryz.ntmps58
    go_wp2
    exact bodyPost_ret (resB rfl rfl (by (repeat (first | assumption | ((with_reducible apply blk_new); (focus (first | rfl | (simp; done)))) | (with_reducible apply blk_alloc) | (with_reducible apply blk_drew) | (with_reducible apply blk_drewN) | ((with_reducible apply blk_up); assumption) | (with_reducible apply blk_same) | ((with_reducible apply blk_else); (focus (first | (simp; done) | (simp; omega) | omega)))))) rfl) rfl ⟨by first | rfl | simp, (by repeat (first | assumption | (with_reducible apply Up.of) | (with_reducible exact Below.refl _ _) | (with_reducible exact Up.refl _) | ((with_reducible apply bl_setRow); (focus (first | exact Nat.le_refl _ | (simp; done) | (simp; omega) | omega))) | (with_reducible apply below_drewN) | (with_reducible apply Below.drew) | ((with_reducible apply bl_alloc); (focus (first | exact Nat.le_refl _ | (simp; done) | (simp; omega) | omega))) | ((with_reducible apply bl_setCell); (focus (first | exact Nat.le_refl _ | (simp; done) | (simp; omega) | omega))) | ((with_reducible apply up_tr); assumption)))⟩
theorem neg_any (b : Bool) (a : Option Addr) (n c : Nat) (w : World) :
    Calls Tryz.prog 53 #[.agg #[.bool b, .slice a n c]] w fun e w' => e = .returned (.agg #[.bool (!b && decide (0 < n)), .slice a n c]) ∧ Up w w' := by
  have HM := hid (fun w => made_any (!b) a n c w)
  go_enter Tryz.func53, Tryz.ntmps53
  go_wp2_with (first | ((with_reducible apply stB_P); exact rfl; exact rfl; (focus (repeat (first | assumption | ((with_reducible apply blk_new); (focus (first | rfl | (simp; done)))) | (with_reducible apply blk_alloc) | (with_reducible apply blk_drew) | (with_reducible apply blk_drewN) | ((with_reducible apply blk_up); assumption) | (with_reducible apply blk_same) | ((with_reducible apply blk_else); (focus (first | (simp; done) | (simp; omega) | omega)))))); exact rfl; exact rfl; exact one2 _ _ _ _) | (go_at_call 58; refine (HM.out _).mono ?_; rintro e w' ⟨rfl, hu⟩))
  exact bodyPost_ret (resB rfl rfl (by (repeat (first | assumption | ((with_reducible apply blk_new); (focus (first | rfl | (simp; done)))) | (with_reducible apply blk_alloc) | (with_reducible apply blk_drew) | (with_reducible apply blk_drewN) | ((with_reducible apply blk_up); assumption) | (with_reducible apply blk_same) | ((with_reducible apply blk_else); (focus (first | (simp; done) | (simp; omega) | omega)))))) rfl) rfl ⟨rfl, (by repeat (first | assumption | (with_reducible apply Up.of) | (with_reducible exact Below.refl _ _) | (with_reducible exact Up.refl _) | ((with_reducible apply bl_setRow); (focus (first | exact Nat.le_refl _ | (simp; done) | (simp; omega) | omega))) | (with_reducible apply below_drewN) | (with_reducible apply Below.drew) | ((with_reducible apply bl_alloc); (focus (first | exact Nat.le_refl _ | (simp; done) | (simp; omega) | omega))) | ((with_reducible apply bl_setCell); (focus (first | exact Nat.le_refl _ | (simp; done) | (simp; omega) | omega))) | ((with_reducible apply up_tr); assumption)))⟩
def bsign (b : Bool) (n : Nat) : Int := if n = 0 then 0 else if b then -1 else 1
theorem bsign_any (b : Bool) (a : Option Addr) (n c : Nat) (w : World) :
    Calls Tryz.prog 52 #[.agg #[.bool b, .slice a n c]] w fun e w' => e = .returned (.int .i64 (bsign b n)) ∧ Up w w' := by
  by_cases h0 : n = 0
  · subst h0
    go_enter Tryz.func52, Tryz.ntmps52
    go_wp2
    go_ret
    exact ⟨rfl, (by repeat (first | assumption | (with_reducible apply Up.of) | (with_reducible exact Below.refl _ _) | (with_reducible exact Up.refl _) | ((with_reducible apply bl_setRow); (focus (first | exact Nat.le_refl _ | (simp; done) | (simp; omega) | omega))) | (with_reducible apply below_drewN) | (with_reducible apply Below.drew) | ((with_reducible apply bl_alloc); (focus (first | exact Nat.le_refl _ | (simp; done) | (simp; omega) | omega))) | ((with_reducible apply bl_setCell); (focus (first | exact Nat.le_refl _ | (simp; done) | (simp; omega) | omega))) | ((with_reducible apply up_tr); assumption)))⟩
  · have hb : ((n : Int) == 0) = false := by simpa using h0
    have e : bsign b n = if b then -1 else 1 := by unfold bsign; rw [if_neg h0]
    rw [e]
    clear e h0
    go_enter Tryz.func52, Tryz.ntmps52
    cases b <;> (go_wp2; go_ret; exact ⟨rfl, (by repeat (first | assumption | (with_reducible apply Up.of) | (with_reducible exact Below.refl _ _) | (with_reducible exact Up.refl _) | ((with_reducible apply bl_setRow); (focus (first | exact Nat.le_refl _ | (simp; done) | (simp; omega) | omega))) | (with_reducible apply below_drewN) | (with_reducible apply Below.drew) | ((with_reducible apply bl_alloc); (focus (first | exact Nat.le_refl _ | (simp; done) | (simp; omega) | omega))) | ((with_reducible apply bl_setCell); (focus (first | exact Nat.le_refl _ | (simp; done) | (simp; omega) | omega))) | ((with_reducible apply up_tr); assumption)))⟩)
theorem big_neg {w : World} {v : Value} {z : Int} (h : Big w v z) : ∃ b a n c, v = .agg #[.bool b, .slice a n c] ∧ Big w (.agg #[.bool (!b && decide (0 < n)), .slice a n c]) (-z) := by
  obtain ⟨a, c, rfl, hA⟩ := h
  refine ⟨_, a, _, c, rfl, a, c, ?_, by rw [Int.natAbs_neg]; exact hA⟩
  rw [Int.natAbs_neg]
  have : (!decide (z < 0) && decide (0 < nl z.natAbs)) = decide (-z < 0) := by
    rw [Bool.eq_iff_iff]
    simp [nl_pos_iff]
    omega
  rw [this]
theorem sgn_big {z : Int} : bsign (decide (z < 0)) (nl z.natAbs) = sgn z := by
  unfold bsign sgn
  by_cases h : nl z.natAbs = 0
  · have : ¬ 0 < z.natAbs := fun h1 => by have := nl_pos h1; omega
    rw [if_pos h, show z = 0 by omega]; rfl
  · have := nl_pos_iff.1 (Nat.pos_of_ne_zero h)
    rw [if_neg h]
    by_cases h1 : z < 0
    · simp [h1]
    · have h2 : z ≠ 0 := by omega
      simp [h1, h2]
theorem undM0 : (match Tryz.prog.underlying 24 with | some (.struct _) => true | _ => false) = true := by kernel_rfl
theorem undM : ∃ fs, Tryz.prog.underlying 24 = some (.struct fs) := by
  have h := undM0
  split at h
  · exact ⟨_, by assumption⟩
  · cases h
theorem infoM : (Tryz.prog.info? 24).map (·.size) = some 2 := by kernel_rfl
theorem two2 (k : IntKind) (n : Int) (a : Option Addr) (m c : Nat) : (#[Value.int k n, Value.slice a m c]).all (·.oneCell') = true := by simp [Value.oneCell']
section
variable {ops : Array Oper} {rest : List Oper} {Q : Exit → Act → World → Prop} {a : Act} {w : World} {d : Option Tmp} {s u : Tmp} {ty : TypeId} {pos : String} {af : Array Edge} {gd : Option (Nat × Bool)} {g : Nat} {C D : Array Value}
theorem run_ldM {o : Oper} {x : Operand} (ho : o.op = .load 24 x) (hx : a.eval x = .pointer (some ⟨g, 0, none⟩)) (hC : Blk w g 24 C) (h2 : C.size = 2) : (execOp a.eval o).run Tryz.prog w = .ok (.value (.agg C)) w := by
  obtain ⟨fs, hu⟩ := undM
  unfold execOp
  simp only [ho, hx, Instr.loadAt, Instr.sureAddr, Sem.run_bind, Sem.run_pure, Result.andThen_ok, run_loadVar_row w g _ 24 C (0, 0) _ hC hu rfl (by rw [infoM, h2])]
theorem ldM_P (hw : Region.wanted { dst := d, op := .load 24 (.tmp s), type := ty, pos := pos, after := af, guard := gd } (yielded ops a.tmps) = true) (hx : a.eval (.tmp s) = .pointer (some ⟨g, 0, none⟩)) (hC : Blk w g 24 C) (h2 : C.size = 2)
    (h : wpList Tryz.prog ops Q rest (a.put d (.agg C)) w) : wpList Tryz.prog ops Q ({ dst := d, op := .load 24 (.tmp s), type := ty, pos := pos, after := af, guard := gd } :: rest) a w :=
  wpList_run hw (run_ldM rfl hx hC h2) h
theorem stM_P (hx : a.eval (.tmp s) = .pointer (some ⟨g, 0, none⟩)) (hy : a.eval (.tmp u) = .agg D) (hC : Blk w g 24 C) (h2 : C.size = 2) (h3 : D.size = 2) (h1 : D.all (·.oneCell') = true)
    (h : wpList Tryz.prog ops Q rest (a.put d undef) (w.setRow g D)) :
    wpList Tryz.prog ops Q ({ dst := d, op := .store 24 (.tmp s) (.tmp u), type := ty, pos := pos, after := af, guard := none } :: rest) a w :=
  wpList_plain rfl fun _ hK => wp_store_row _ _ _ rfl g D hx hy _ C hC (by rw [infoM, h3]) (by rw [h2, h3]) h1 (hK _ _ h)
theorem wp_stM {o : Oper} {K : Act → World → Prop} (hd : o.dst = none) {x y : Operand} (ho : o.op = .store 24 x y) (hx : a.eval x = .pointer (some ⟨g, 0, none⟩)) (hy : a.eval y = .agg D) (hC : Blk w g 24 C) (h2 : C.size = 2) (h3 : D.size = 2) (h1 : D.all (·.oneCell') = true)
    (h : K a (w.setRow g D)) : o.wp Tryz.prog a w K Q :=
  wp_store_row _ _ _ ho g D hx hy _ C hC (by rw [infoM, h3]) (by rw [h2, h3]) h1 (by rw [hd]; exact h)
end
theorem resM {fn : Func} {p : Tmp} (h : fn.results = #[.cell p 24]) {tmps : Array Value} {w : World} {g : Nat} {C : Array Value} (hp : tmps.getD p undef = .pointer (some ⟨g, 0, none⟩)) (hC : Blk w g 24 C) (h2 : C.size = 2) :
    (results fn tmps).run Tryz.prog w = .ok (.agg C) w := undM.elim fun _ hu => results_cell_row h tmps w g _ C (0, 0) _ hp hC hu rfl (by rw [infoM, h2])
theorem undI : Tryz.prog.underlying 22 = some (.slice 2) := by kernel_rfl
theorem infoI : (Tryz.prog.info? 2).map (fun i => (i.zero, i.size, i.bytes)) = some (some (.int .i64 0), 1, 8) := by kernel_rfl
def vals (l : List Int) : List Value := l.map (Value.int .i64)
def OwnI (w : World) (base : Nat) (v : Value) (l : List Int) : Prop := w.ownsRow base 2 1 v l.length (vals l)
theorem OwnI.up {w w' : World} {base : Nat} {v : Value} {l : List Int} (hu : Up w w') (h : OwnI w base v l) : OwnI w' base v l := World.ownsRow.up h hu
theorem OwnI.nil (w : World) (base : Nat) : OwnI w base (.slice none 0 0) [] := World.ownsRow_nil _ _ _ _
theorem vals_get {l : List Int} {i : Nat} (h : i < l.length) : (vals l)[i]? = some (.int .i64 (zth l i)) := by
  unfold vals; rw [List.getElem?_map, zth_get h, List.getElem?_eq_getElem h]; rfl
theorem OwnI.open {w : World} {base : Nat} {v : Value} {l : List Int} (h : OwnI w base v l) (h0 : 0 < l.length) :
    ∃ g cap C, v = .slice (some ⟨g, 0, none⟩) l.length cap ∧ base ≤ g ∧ Blk w g 2 C ∧ l.length ≤ cap ∧ cap ≤ maxLen ∧ C.size = cap ∧ C.toList.take l.length = vals l := by
  obtain ⟨_, h1 | ⟨g, cap, cur, hv, hb, hB, hc, hm, hs, ht⟩⟩ := h
  · omega
  · exact ⟨g, cap, cur, hv, hb, hB, hc, hm, by omega, by rw [← ht, Nat.mul_one]⟩
theorem OwnI.vw {w : World} {base : Nat} {v : Value} {l : List Int} (h : OwnI w base v l) : Vw w v l := by
  rcases Nat.eq_zero_or_pos l.length with h0 | h0
  · have hl := List.length_eq_zero_iff.1 h0
    subst hl
    obtain ⟨_, ⟨rfl, _⟩ | ⟨g, cap, cur, rfl, _⟩⟩ := h
    · exact ⟨none, 0, rfl, ⟨Nat.le_refl _, fun _ => rfl⟩, fun i hi => absurd hi (Nat.not_lt_zero _)⟩
    · exact ⟨_, cap, rfl, ⟨Nat.zero_le _, fun e => by cases e⟩, fun i hi => absurd hi (Nat.not_lt_zero _)⟩
  · obtain ⟨g, cap, C, rfl, _, hB, hc, _, _, ht⟩ := h.open h0
    refine ⟨_, cap, rfl, ⟨hc, fun e => by cases e⟩, fun i hi => ⟨_, rfl, ?_⟩⟩
    have h1 : C[i]? = some (.int .i64 (zth l i)) := by
      rw [← Array.getElem?_toList, ← List.getElem?_take_of_lt hi, ht, vals_get hi]
    have h2 := hB.cell i h1
    have e : Addr.add ⟨g, 0, none⟩ i = ⟨g, i, none⟩ := by unfold Addr.add; simp; omega
    rw [e]
    exact h2
theorem vals_set (l : List Int) (k : Nat) (z : Int) : vals (l.set k z) = (vals l).set k (.int .i64 z) := by unfold vals; rw [List.map_set]
theorem OwnI.set {w : World} {base g n cap : Nat} {l : List Int} (h : OwnI w base (.slice (some ⟨g, 0, none⟩) n cap) l) {k : Nat} (hk : k < l.length) (z : Int) :
    OwnI (w.setCell ⟨g, k, none⟩ (.int .i64 z)) base (.slice (some ⟨g, 0, none⟩) n cap) (l.set k z) := by
  obtain ⟨g', cap', C, hv, hb, hB, hc, hm, hs, ht⟩ := h.open (by omega)
  injection hv with e1 e2 e3
  injection e1 with e1
  injection e1 with e1
  subst e1 e2 e3
  refine ⟨by rw [vals_set, List.length_set, List.length_set]; unfold vals; simp, .inr ⟨g, cap, _, by rw [List.length_set], hb, hB.set k (.int .i64 z), by rw [List.length_set]; exact hc, hm, by simp [hs], ?_⟩⟩
  rw [vals_set, List.length_set, Nat.mul_one, Array.toList_setIfInBounds, ← ht, List.take_set]
theorem OwnI.cells {w : World} {base g n cap : Nat} {l : List Int} (h : OwnI w base (.slice (some ⟨g, 0, none⟩) n cap) l) {k : Nat} (hk : k < l.length) :
    w.cell? ⟨g, k, none⟩ = some (.int .i64 (zth l k)) ∧ w.frozen? ⟨g, k, none⟩ = false := by
  obtain ⟨g', cap', C, hv, hb, hB, hc, hm, hs, ht⟩ := h.open (by omega)
  injection hv with e1 e2 e3
  injection e1 with e1
  injection e1 with e1
  subst e1 e2 e3
  have h1 : C[k]? = some (.int .i64 (zth l k)) := by
    rw [← Array.getElem?_toList, ← List.getElem?_take_of_lt hk, ht, vals_get hk]
  exact ⟨hB.cell k h1, hB.frozen k⟩
theorem vals_append (l m : List Int) : vals (l ++ m) = vals l ++ vals m := by unfold vals; rw [List.map_append]
theorem appV {ops : Array Oper} {rest : List Oper} {Q : Exit → Act → World → Prop} {a : Act} {w : World} {d : Option Tmp} {s u : Operand} {ty : TypeId} {pos : String} {af : Array Edge} {base : Nat} {v x : Value} {l m : List Int}
    (hs : a.eval s = v) (hu : a.eval u = x) (hown : OwnI w base v l) (hV : Vw w x m) (hbase : base ≤ w.heap.size) (hl : l.length < 1000000) (hm : m.length < 1000000)
    (h : ∀ v' w', OwnI w' base v' (l ++ m) → Below base w w' → wpList Tryz.prog ops Q rest (a.put d v') w') :
    wpList Tryz.prog ops Q ({ dst := d, op := .call { callee := .builtin .append, args := #[s, u], argTypes := #[22, 22] }, type := ty, pos := pos, after := af, guard := none } :: rest) a w := by
  obtain ⟨i0, hi0, he⟩ := Option.map_eq_some_iff.1 infoI
  simp only [Prod.mk.injEq] at he
  have hlt := World.ownsRow.lt hown
  have hfin : ∀ v' w', w'.ownsRow base 2 1 v' (l.length + m.length) (vals l ++ vals m) → w.grownBy w' v.ownBlock → wpList Tryz.prog ops Q rest (a.put d v') w' := by
    intro v' w' h1 h2
    refine h v' w' (by unfold OwnI; rw [List.length_append, vals_append]; exact h1) ⟨h2.os, h2.tape, h2.output, h2.size, fun k hk => h2.block k (by omega) ?_⟩
    intro e
    have := hlt k e.symm
    omega
  obtain ⟨p, cap, rfl, hcap, hc⟩ := hV
  cases p with
  | none =>
    have h0 : m.length = 0 := by
      rcases Nat.eq_zero_or_pos m.length with h0 | h0
      · exact h0
      · obtain ⟨ad, h1, _⟩ := hc 0 h0; cases h1
    have hm0 := List.length_eq_zero_iff.1 h0
    subst hm0
    obtain rfl := hcap.2 rfl
    refine wpList_append_own_none (P := Tryz.prog) (w := w) rfl s u 22 rfl base 2 i0 1 undI hi0 v l.length (vals l) hs hown hu ?_
    exact hfin v w (by simpa [vals, OwnI] using hown) (World.grownBy.refl w _)
  | some ad =>
    have hcell : ∀ j x, (vals m)[j]? = some x → w.cell? (ad.add j) = some x := by
      intro j x hx
      have hj : j < m.length := by
        have := (List.getElem?_eq_some_iff.1 hx).1
        unfold vals at this
        simpa using this
      obtain ⟨a2, e2, h2⟩ := hc j hj
      injection e2 with e2
      subst e2
      rw [vals_get hj] at hx
      rw [h2]; exact hx
    refine wpList_append_own w rfl s u 22 rfl base 2 i0 (.int .i64 0) 1 8 undI hi0 he.1 he.2.1 he.2.2 rfl (by decide) v l.length (vals l) hs hown ad m.length cap (vals m) hu (by unfold vals; simp) hcell ?_ (by unfold maxLen; omega) (by omega) hbase ?_
    · intro x hx
      unfold vals at hx
      obtain ⟨z, _, rfl⟩ := List.mem_map.1 hx
      rfl
    · intro v' w' h1 h2 _
      exact hfin v' w' h1 h2
def Errs (w : World) (u : Value) (e : Int) : Prop := (e = 0 ∧ u = .nilIface) ∨ (e ≠ 0 ∧ ∃ t x, u = .iface t x ∧ IsEr w u (.flt symB (.num e)))
theorem Errs.none_ (w : World) : Errs w .nilIface 0 := .inl ⟨rfl, rfl⟩
theorem Errs.some_ {w : World} {t : TypeId} {x : Value} {n : Int} (h0 : n ≠ 0) (h : IsEr w (.iface t x) (.flt symB (.num n))) : Errs w (.iface t x) n := .inr ⟨h0, t, x, rfl, h⟩
def rng (N i j : Int) : Bool := decide ((0 ≤ i ∧ i < N) ∧ (0 ≤ j ∧ j < N))
def atC (N : Int) (l : List Int) (i j : Int) : Int := if rt N l then (if rng N i j then 0 else 20) else 23
def ent (N : Int) (l : List Int) (i j : Int) : Int := zth l (idx N i j).toNat
def atV (N : Int) (l : List Int) (i j : Int) : Int := if atC N l i j = 0 then ent N l i j else 0
theorem rt_spec {N : Int} {l : List Int} (h : rt N l = true) : 0 ≤ N ∧ N ≤ 8 ∧ (l.length : Int) = tri N ∧ ∀ i, i < l.length → fit (zth l i) = true := by
  unfold rt at h
  rw [Bool.and_eq_true] at h
  obtain ⟨h1, h2, h3⟩ := of_decide_eq_true h.1
  refine ⟨h1, h2, h3, fun i hi => ?_⟩
  rw [zth_get hi]
  exact List.all_eq_true.1 h.2 _ (List.getElem_mem hi)
theorem idx_nat {N : Int} {l : List Int} {i j : Int} (hR : rt N l = true) (hr : rng N i j = true) : ∃ k : Nat, idx N i j = (k : Int) ∧ k < l.length ∧ ent N l i j = zth l k := by
  obtain ⟨h1, h2, h3, _⟩ := rt_spec hR
  obtain ⟨⟨i0, i1⟩, j0, j1⟩ := of_decide_eq_true hr
  obtain ⟨x1, x2⟩ := idx_in h2 i0 i1 j0 j1
  refine ⟨(idx N i j).toNat, by omega, by omega, rfl⟩
set_option maxHeartbeats 2000000 in
theorem at_any {v : Value} {N : Int} {l : List Int} (i j : Int) {w : World} (h : Sm w v N l) :
    Calls Tryz.prog 78 #[v, .int .i64 i, .int .i64 j] w fun r w' => ∃ u, r = .returned (.tuple #[.int .i64 (atV N l i j), u]) ∧ Up w w' ∧ Errs w' u (atC N l i j) := by
  have HR := hid (fun w' (hu : Up w w') => sright_any (h.up hu))
  have HH := hid (fun i w' (hu : Up w w') => hasrow_any i (h.up hu))
  have HWR := hid wrong_any
  obtain ⟨s, rfl, hV, hN, hl, hlen⟩ := h
  obtain ⟨p, cap, rfl, hcap, hc⟩ := hV
  cases hR : rt N l with
  | false =>
    have e : atC N l i j = 23 := by unfold atC; rw [hR]; rfl
    have e2 : atV N l i j = 0 := by unfold atV; rw [e]; rfl
    rw [e, e2]
    rw [hR] at HR
    clear e e2 hR hc hl
    have hB := Blk.new (w := w) (b := w.heap.size) 24 #[.int .i64 N, .slice p l.length cap] rfl
    have HU := hid (Up.alloc w (.cells #[.int .i64 N, .slice p l.length cap] 24))
    go_enter Tryz.func78, Tryz.ntmps78
    go_wp2_with (first
      | ((with_reducible apply ldM_P); exact rfl; exact rfl; exact hB; exact rfl)
      | (go_at_call 41; (with_reducible refine (HR.out _ HU.out).mono ?_); rintro r w1 ⟨rfl, hu1⟩)
      | (go_at_call 107; (with_reducible refine (HWR.out _ _).mono ?_); rintro r w2 ⟨t2, u2, rfl, hu2, h2⟩))
    go_ret2
    exact ⟨_, rfl, (HU.out.trans hu1).trans hu2, Errs.some_ (by decide) h2⟩
  | true =>
    cases hr : rng N i j with
    | false =>
      have e : atC N l i j = 20 := by unfold atC; rw [hR, hr]; rfl
      have e2 : atV N l i j = 0 := by unfold atV; rw [e]; rfl
      rw [e, e2]
      rw [hR] at HR
      have hr' := of_decide_eq_false hr
      clear e e2 hR hc hl hr
      have hB := Blk.new (w := w) (b := w.heap.size) 24 #[.int .i64 N, .slice p l.length cap] rfl
      have HU := hid (Up.alloc w (.cells #[.int .i64 N, .slice p l.length cap] 24))
      cases hi : decide (0 ≤ i ∧ i < N) with
      | false =>
        have HI := hid (fun w' (hu : Up w w') => hi ▸ HH.out i w' hu)
        clear hr' HH hi
        go_enter Tryz.func78, Tryz.ntmps78
        go_wp2_with (first
          | ((with_reducible apply ldM_P); exact rfl; exact rfl; exact hB; exact rfl)
          | (go_at_call 41; (with_reducible refine (HR.out _ HU.out).mono ?_); rintro r w1 ⟨rfl, hu1⟩; replace hB := hB.up hu1)
          | (go_at_call 108; (with_reducible refine (HI.out _ (HU.out.trans hu1)).mono ?_); rintro r w3 ⟨rfl, hu3⟩; replace hB := hB.up hu3)
          | (go_at_call 107; (with_reducible refine (HWR.out _ _).mono ?_); rintro r w2 ⟨t2, u2, rfl, hu2, h2⟩))
        go_ret2
        exact ⟨_, rfl, ((HU.out.trans hu1).trans hu3).trans hu2, Errs.some_ (by decide) h2⟩
      | true =>
        have hj : decide (0 ≤ j ∧ j < N) = false := decide_eq_false (fun hj => hr' ⟨of_decide_eq_true hi, hj⟩)
        have HI := hid (fun w' (hu : Up w w') => hi ▸ HH.out i w' hu)
        have HJ := hid (fun w' (hu : Up w w') => hj ▸ HH.out j w' hu)
        clear hr' HH hi hj
        go_enter Tryz.func78, Tryz.ntmps78
        go_wp2_with (first
          | ((with_reducible apply ldM_P); exact rfl; exact rfl; exact hB; exact rfl)
          | (go_at_call 41; (with_reducible refine (HR.out _ HU.out).mono ?_); rintro r w1 ⟨rfl, hu1⟩; replace hB := hB.up hu1)
          | (go_at_call 108; first
              | ((with_reducible refine (HJ.out _ ((HU.out.trans hu1).trans hu3)).mono ?_); rintro r w4 ⟨rfl, hu4⟩; replace hB := hB.up hu4)
              | ((with_reducible refine (HI.out _ (HU.out.trans hu1)).mono ?_); rintro r w3 ⟨rfl, hu3⟩; replace hB := hB.up hu3))
          | (go_at_call 107; (with_reducible refine (HWR.out _ _).mono ?_); rintro r w2 ⟨t2, u2, rfl, hu2, h2⟩))
        go_ret2
        exact ⟨_, rfl, (((HU.out.trans hu1).trans hu3).trans hu4).trans hu2, Errs.some_ (by decide) h2⟩
    | true =>
      obtain ⟨k, hk, hkl, hke⟩ := idx_nat hR hr
      have e : atC N l i j = 0 := by unfold atC; rw [hR, hr]; rfl
      have e2 : atV N l i j = zth l k := by unfold atV; rw [e, ← hke]; rfl
      rw [e, e2]
      obtain ⟨r1, r2, r3, _⟩ := rt_spec hR
      obtain ⟨hi, hj⟩ := of_decide_eq_true hr
      have HX := hid (fun w => hk ▸ idx_any N i j r2 hi.1 hi.2 hj.1 hj.2 w)
      have HI := hid (fun w' (hu : Up w w') => (decide_eq_true hi) ▸ HH.out i w' hu)
      have HJ := hid (fun w' (hu : Up w w') => (decide_eq_true hj) ▸ HH.out j w' hu)
      rw [hR] at HR
      obtain ⟨ad, rfl, hcell⟩ := hc k hkl
      have HC := hid hcell
      have HU := hid (Up.alloc w (.cells #[.int .i64 N, .slice (some ad) l.length cap] 24))
      have hB := Blk.new (w := w) (b := w.heap.size) 24 #[.int .i64 N, .slice (some ad) l.length cap] rfl
      clear e e2 hR hc hl hr hk hke hi hj hcell r1 r2 r3 HH
      go_enter Tryz.func78, Tryz.ntmps78
      go_wp2_with (first
        | ((with_reducible apply ldM_P); exact rfl; exact rfl; exact hB; exact rfl)
        | (go_at_call 41; (with_reducible refine (HR.out _ HU.out).mono ?_); rintro r w1 ⟨rfl, hu1⟩; replace hB := hB.up hu1)
        | (go_at_call 108; first
            | ((with_reducible refine (HJ.out _ ((HU.out.trans hu1).trans hu3)).mono ?_); rintro r w4 ⟨rfl, hu4⟩; replace hB := hB.up hu4)
            | ((with_reducible refine (HI.out _ (HU.out.trans hu1)).mono ?_); rintro r w3 ⟨rfl, hu3⟩; replace hB := hB.up hu3)))
      have hc0 := hB.cell 0 rfl
      have hc1 := hB.cell 1 rfl
      have hcell := (((HU.out.trans hu1).trans hu3).trans hu4).cellEq HC.out
      have HU2 := hid (((HU.out.trans hu1).trans hu3).trans hu4)
      go_quiet ((go_at_call 109; exact Calls.quiet_of_same (HX.out _)))
      go_wp2_with fail
      go_ret2
      exact ⟨_, rfl, below_drewN HU2.out _, Errs.none_ _⟩
theorem OwnI.setRow {w : World} {base g : Nat} {v : Value} {l : List Int} {C D : Array Value} (h : OwnI w base v l) (hg : Blk w g 24 C) : OwnI (w.setRow g D) base v l := by
  refine ⟨h.1, ?_⟩
  rcases h.2 with h2 | ⟨b, cap, cur, h1, h2, h3, h4⟩
  · exact .inl h2
  · refine .inr ⟨b, cap, cur, h1, h2, ?_, h4⟩
    have hne : b ≠ g := by
      rintro rfl
      unfold Blk at hg
      rw [h3] at hg
      simp at hg
    exact Blk.row_other (t := 2) h3 D hne
theorem resMs {fn : Func} {p q : Tmp} (h : fn.results = #[.cell p 24, .tmp q]) {tmps : Array Value} {w : World} {g : Nat} {C : Array Value} {u : Value} (hp : tmps.getD p undef = .pointer (some ⟨g, 0, none⟩)) (hq : tmps.getD q undef = u) (hC : Blk w g 24 C) (h2 : C.size = 2) :
    (results fn tmps).run Tryz.prog w = .ok (.tuple #[.agg C, u]) w := by
  obtain ⟨fs, hu⟩ := undM
  rw [results_cell_tmp h, hp, hq]
  simp [asAddr, run_loadVar_row w g _ 24 C (0, 0) _ hC hu rfl (by rw [infoM, h2]), Result.andThen]
def stC (N : Int) (l : List Int) (i j v : Int) : Int := if rt N l then (if rng N i j then (if fit v then 0 else 21) else 20) else 23
def stL (N : Int) (l : List Int) (i j v : Int) : List Int := if stC N l i j v = 0 then l.set (idx N i j).toNat v else []
def stN (N : Int) (l : List Int) (i j v : Int) : Int := if stC N l i j v = 0 then N else 0
def SmO (w : World) (v : Value) (N : Int) (l : List Int) : Prop := ∃ s base, v = .agg #[.int .i64 N, s] ∧ OwnI w base s l ∧ I64 N ∧ In64 l ∧ l.length ≤ 1000
theorem SmO.sm {w : World} {v : Value} {N : Int} {l : List Int} (h : SmO w v N l) : Sm w v N l := by
  obtain ⟨s, base, e, h1, h2⟩ := h
  exact ⟨s, e, h1.vw, h2⟩
theorem SmO.up {w w' : World} (hu : Up w w') {v : Value} {N : Int} {l : List Int} (h : SmO w v N l) : SmO w' v N l := by
  obtain ⟨s, base, e, h1, h2⟩ := h
  exact ⟨s, base, e, h1.up hu, h2⟩
theorem SmO.setRow {w : World} {g : Nat} {v : Value} {N : Int} {l : List Int} {C D : Array Value} (h : SmO w v N l) (hg : Blk w g 24 C) : SmO (w.setRow g D) v N l := by
  obtain ⟨s, base, e, h1, h2⟩ := h
  exact ⟨s, base, e, h1.setRow hg, h2⟩
theorem SmO.zero (w : World) : SmO w (.agg #[.int .i64 0, .slice none 0 0]) 0 [] := ⟨_, 0, rfl, OwnI.nil _ _, by unfold I64; omega, fun i hi => absurd hi (Nat.not_lt_zero _), by simp⟩
def SymPost (w : World) (N : Int) (l : List Int) (e : Int) (r : Ending) (w' : World) : Prop := ∃ z u, r = .returned (.tuple #[z, u]) ∧ Up w w' ∧ SmO w' z N l ∧ Errs w' u e
theorem SymPost.err {w w' : World} {g : Nat} {C : Array Value} {u : Value} {e : Int} (hu : Up w w') (hg : w.heap.size ≤ g) (hB : Blk w' g 24 C) (hE : Errs w' u e) :
    SymPost w 0 [] e (.returned (.tuple #[.agg #[.int .i64 0, .slice none 0 0], u])) (w'.setRow g #[.int .i64 0, .slice none 0 0]) := by
  refine ⟨_, _, rfl, below_setRow hu hg _, SmO.zero _, ?_⟩
  rcases hE with h | ⟨h1, t, x, rfl, h2⟩
  · exact .inl h
  · refine .inr ⟨h1, t, x, rfl, ?_⟩
    obtain ⟨b, v, e1, e2, e3⟩ := h2
    refine ⟨b, v, e1, e2.row_other _ ?_, e3⟩
    rintro rfl
    unfold Blk at e2 hB
    rw [hB] at e2
    simp at e2
theorem SymPost.ok {w w' : World} {g base : Nat} {C : Array Value} {s : Value} {N : Int} {l : List Int} (hu : Up w w') (hg : w.heap.size ≤ g) (hB : Blk w' g 24 C) (hO : OwnI w' base s l) (hN : I64 N) (hl : In64 l) (hn : l.length ≤ 1000) :
    SymPost w N l 0 (.returned (.tuple #[.agg #[.int .i64 N, s], .nilIface])) (w'.setRow g #[.int .i64 N, s]) :=
  ⟨_, _, rfl, below_setRow hu hg _, ⟨s, base, rfl, hO.setRow hB, hN, hl, hn⟩, Errs.none_ _⟩
theorem OwnI.slice {w : World} {base : Nat} {v : Value} {l : List Int} (h : OwnI w base v l) : ∃ p n c, v = .slice p n c := by
  obtain ⟨p, c, e, _⟩ := h.vw
  exact ⟨p, _, c, e⟩
set_option linter.unusedSimpArgs false
section
variable {P : Program} {ops : Array Oper} {Q : Exit → Act → World → Prop} {md : Region.Mode}
def LeavesR (P : Program) (R : Value → World → Prop) (w : World) : Result Next → Prop
  | .ok (.value u) w' => R u w' ∧ Up w w'
  | .ok (.enter f args) w' => Up w w' ∧ Calls P f args w' fun e w'' => Up w' w'' ∧ ∃ v, e = .returned v ∧ R v w''
  | _ => False
theorem leavesR_value {R : Value → World → Prop} {w : World} {r : Result Next} {u : Value} (h : r = .ok (.value u) w) (hR : R u w) : LeavesR P R w r := by subst h; exact ⟨hR, Up.refl _⟩
theorem leavesR_call {R : Value → World → Prop} {w : World} {r : Result Next} {f : FuncId} {args : Array Value} (h : r = .ok (.enter f args) w) (hc : Calls P f args w fun e w'' => Up w w'' ∧ ∃ v, e = .returned v ∧ R v w'') : LeavesR P R w r := by subst h; exact ⟨Up.refl _, hc⟩
def relB (md : Region.Mode) (ops : Array Oper) (n st : Nat) : Bool :=
  ((List.range ops.size).all fun i => ((ops[i]?).map fun o => o.guard.isNone && (o.after.all fun e => !Region.binds md e || decide (e.on < i)) &&
    (if i = st then o.dst.isNone else ((o.dst.map fun d => decide (d < n)).getD false) && (List.range ops.size).all fun j => j == i || ((ops[j]?).map fun o' => o'.dst != o.dst).getD true)).getD false) &&
  (decide (ops.size ≤ st) || (List.range ops.size).all fun j => j == st || waitsU md ops j ops.size st)
structure RelEv (ops : Array Oper) (md : Region.Mode) (R : Nat → Value → World → Prop) (a0 : Act) (o : Oper) (ev : Operand → Value) (w : World) : Prop where
  const : ∀ c, ev (.const c) = c
  func : ∀ f, ev (.func f) = .func (.func f) #[] #[]
  global : ∀ g, ev (.global g) = .pointer (some ⟨g, 0, none⟩)
  other : ∀ s, (∀ o' ∈ ops, o'.dst ≠ some s) → ev (.tmp s) = a0.eval (.tmp s)
  dep : ∀ j o' d, ops[j]? = some o' → (∃ e ∈ o.after, Region.binds md e = true ∧ e.on = j) → o'.dst = some d → R j (ev (.tmp d)) w
structure RelInv (ops : Array Oper) (R : Nat → Value → World → Prop) (a0 : Act) (listed : Array Bool) (a : Act) (w : World) : Prop where
  defers : a.defers = a0.defers
  size : a.tmps.size = a0.tmps.size
  lsize : listed.size = ops.size
  other : ∀ s, (∀ o' ∈ ops, o'.dst ≠ some s) → a.tmps[s]? = a0.tmps[s]?
  done : ∀ i o d, ops[i]? = some o → listed.getD i false = true → o.dst = some d → R i (a.tmps.getD d undef) w
theorem relB_op {n st : Nat} (h : relB md ops n st = true) {i : Nat} {o : Oper} (hi : ops[i]? = some o) :
    o.guard = none ∧ (∀ e ∈ o.after, Region.binds md e = true → e.on < i) ∧ (i = st → o.dst = none) ∧
    (i ≠ st → ∃ d, o.dst = some d ∧ d < n ∧ ∀ j o', ops[j]? = some o' → j ≠ i → o'.dst ≠ some d) := by
  unfold relB at h
  rw [Bool.and_eq_true] at h
  have hlt : i < ops.size := (Array.getElem?_eq_some_iff.1 hi).1
  have h1 := List.all_eq_true.1 h.1 i (List.mem_range.2 hlt)
  rw [hi] at h1
  simp only [Option.map_some, Option.getD_some, Bool.and_eq_true] at h1
  obtain ⟨⟨h2, h3⟩, h4⟩ := h1
  refine ⟨Option.isNone_iff_eq_none.1 h2, fun e he hb => ?_, fun hs => ?_, fun hs => ?_⟩
  · have := Array.all_eq_true_iff_forall_mem.1 h3 e he
    simpa [hb] using this
  · rw [if_pos hs] at h4
    exact Option.isNone_iff_eq_none.1 h4
  · rw [if_neg hs, Bool.and_eq_true] at h4
    cases hd : o.dst with
    | none => rw [hd] at h4; simp at h4
    | some d =>
      rw [hd] at h4
      refine ⟨d, rfl, by simpa using h4.1, fun j o' hj hji => ?_⟩
      have h5 := List.all_eq_true.1 h4.2 j (List.mem_range.2 (Array.getElem?_eq_some_iff.1 hj).1)
      rw [hj] at h5
      simp only [Option.map_some, Option.getD_some, Bool.or_eq_true, beq_iff_eq, bne_iff_ne] at h5
      exact h5.resolve_left hji
theorem relB_store {n st : Nat} (h : relB md ops n st = true) {j : Nat} (hj : j < ops.size) (hs : st < ops.size) (hne : j ≠ st) : waitsU md ops j ops.size st = true := by
  unfold relB at h
  rw [Bool.and_eq_true, Bool.or_eq_true] at h
  rcases h.2 with h2 | h2
  · have := of_decide_eq_true h2; omega
  · have := List.all_eq_true.1 h2 j (List.mem_range.2 hj)
    simpa [hne] using this
def leftU (n : Nat) (listed : Array Bool) : Nat := ((List.range n).filter fun j => !listed.getD j true).length
theorem leftU_set {n i : Nat} {listed : Array Bool} (hi : i < n) (hl : listed.getD i true = false) : leftU n (listed.setIfInBounds i true) + 1 ≤ leftU n listed := by
  unfold leftU
  rw [← List.countP_eq_length_filter, ← List.countP_eq_length_filter]
  have hsz : i < listed.size := by
    rcases Nat.lt_or_ge i listed.size with h | h
    · exact h
    · simp [Array.getElem?_eq_none h] at hl
  have key : ∀ m, i < m → (List.range m).countP (fun j => !(listed.setIfInBounds i true).getD j true) + 1 ≤ (List.range m).countP (fun j => !listed.getD j true) := by
    intro m
    induction m with
    | zero => intro h; omega
    | succ m ih =>
      intro h
      rw [List.range_succ, List.countP_append, List.countP_append]
      simp only [List.countP_cons, List.countP_nil, Nat.zero_add]
      by_cases him : i = m
      · subst him
        have e0 : (List.range i).countP (fun j => !(listed.setIfInBounds i true).getD j true) = (List.range i).countP (fun j => !listed.getD j true) := by
          apply List.countP_congr
          intro j hj
          have hji : i ≠ j := by have := List.mem_range.1 hj; omega
          rw [getD_set_ne true hji]
        rw [e0, hl]
        have e1 : (listed.setIfInBounds i true).getD i true = true := by simp [hsz]
        rw [e1]
        simp
      · have := ih (by omega)
        rw [getD_set_ne true him]
        omega
  exact key n hi
theorem leftU_zero {n : Nat} {listed : Array Bool} (h : leftU n listed = 0) {j : Nat} (hj : j < n) : listed.getD j true = true := by
  unfold leftU at h
  have := List.filter_eq_nil_iff.1 (List.length_eq_zero_iff.1 h) j (List.mem_range.2 hj)
  simpa using this
theorem exists_ready {n st : Nat} (hB : relB md ops n st = true) {listed : Array Bool} (hs : listed.size = ops.size) : ∀ k, k < ops.size → listed.getD k true = false → ∃ i, i ∈ Region.ready md ops listed := by
  intro k
  induction k using Nat.strongRecOn with
  | _ k ih =>
    intro hk hl
    obtain ⟨o, ho⟩ : ∃ o, ops[k]? = some o := ⟨ops[k], Array.getElem?_eq_getElem hk⟩
    obtain ⟨_, h2, _⟩ := relB_op hB ho
    by_cases hall : ∀ e ∈ o.after, Region.binds md e = true → listed.getD e.on false = true
    · exact ⟨k, mem_ready.2 ⟨hl, o, ho, hall⟩⟩
    · obtain ⟨e, hne⟩ := Classical.not_forall.1 hall
      obtain ⟨he, hne⟩ := Classical.not_imp.1 hne
      obtain ⟨hb, hne⟩ := Classical.not_imp.1 hne
      have hlt := h2 e he hb
      refine ih e.on hlt (by omega) ?_
      have hsz : e.on < listed.size := by omega
      simp [hsz] at hne ⊢
      exact hne
theorem wpAny_rel {n st : Nat} {R : Nat → Value → World → Prop} {S : World → Prop} {a0 : Act} {w0 : World} (hn : a0.tmps.size = n) (hB : relB md ops n st = true)
    (hR : ∀ i v w w', R i v w → Up w w' → R i v w') (hS : ∀ w w', S w → Up w w' → S w')
    (hop : ∀ i o, ops[i]? = some o → i ≠ st → ∀ ev w, S w → RelEv ops md R a0 o ev w → LeavesR P (R i) w ((execOp ev o).run P w))
    (hfin : ∀ a w, a.tmps.size = a0.tmps.size → a.defers = a0.defers → (∀ s, (∀ o' ∈ ops, o'.dst ≠ some s) → a.tmps[s]? = a0.tmps[s]?) → (∀ i o d, ops[i]? = some o → i ≠ st → o.dst = some d → R i (a.tmps.getD d undef) w) → S w → Up w0 w →
      (ops.size ≤ st → Q .normal a w) ∧ (∀ o, ops[st]? = some o → Oper.wp P o a w (Q .normal) Q)) :
    ∀ (fuel : Nat) (listed : Array Bool) (a : Act) (w : World), leftU ops.size listed ≤ fuel → closedU md ops listed → (st < ops.size → listed.getD st true = false) → RelInv ops R a0 listed a w → S w → Up w0 w → wpAny P md ops Q fuel listed a w := by
  intro fuel
  induction fuel with
  | zero =>
    intro listed a w hf hcl hst hI hSw hu
    have hz := fun {j} => leftU_zero (listed := listed) (n := ops.size) (by omega) (j := j)
    have hst' : ops.size ≤ st := by
      rcases Nat.lt_or_ge st ops.size with h | h
      · have := hst h; rw [hz h] at this; cases this
      · exact h
    refine ⟨?_, ?_⟩
    · cases hrd : Region.ready md ops listed with
      | nil => rfl
      | cons i l =>
        obtain ⟨h1, o, ho, _⟩ := mem_ready.1 (show i ∈ Region.ready md ops listed by rw [hrd]; exact List.mem_cons_self)
        rw [hz (Array.getElem?_eq_some_iff.1 ho).1] at h1
        cases h1
    · refine (hfin a w hI.size hI.defers hI.other (fun i o d ho hi hd => hI.done i o d ho ?_ hd) hSw hu).1 hst'
      have h1 := hz (Array.getElem?_eq_some_iff.1 ho).1
      have h2 : i < listed.size := by rw [hI.lsize]; exact (Array.getElem?_eq_some_iff.1 ho).1
      simp [h2] at h1 ⊢
      exact h1
  | succ fuel ih =>
    intro listed a w hf hcl hst hI hSw hu
    have hcase : Region.ready md ops listed = [] → ∀ j, j < ops.size → listed.getD j true = true := by
      intro hr j hj
      cases hl : listed.getD j true with
      | true => rfl
      | false =>
        obtain ⟨i, hi⟩ := exists_ready hB hI.lsize j hj hl
        rw [hr] at hi
        cases hi
    have hfull : ∀ (hz : ∀ j, j < ops.size → j ≠ st → listed.getD j true = true) (i : Nat) (o : Oper) (d : Tmp), ops[i]? = some o → i ≠ st → o.dst = some d → R i (a.tmps.getD d undef) w := by
      intro hz i o d ho hi hd
      refine hI.done i o d ho ?_ hd
      have h1 := hz i (Array.getElem?_eq_some_iff.1 ho).1 hi
      have h2 : i < listed.size := by rw [hI.lsize]; exact (Array.getElem?_eq_some_iff.1 ho).1
      simp [h2] at h1 ⊢
      exact h1
    refine ⟨fun hr => ?_, fun i hi => ?_⟩
    · have hz := hcase hr
      have hst' : ops.size ≤ st := by
        rcases Nat.lt_or_ge st ops.size with h | h
        · have := hst h; rw [hz st h] at this; cases this
        · exact h
      exact (hfin a w hI.size hI.defers hI.other (hfull fun j hj _ => hz j hj) hSw hu).1 hst'
    · obtain ⟨hun, o, ho, hall⟩ := mem_ready.1 hi
      have hlt : i < ops.size := (Array.getElem?_eq_some_iff.1 ho).1
      obtain ⟨hg, _, hdn, hds⟩ := relB_op hB ho
      have hw : Region.wanted o (yielded ops a.tmps) = true := by simp [Region.wanted, hg]
      unfold wpOp
      simp only [ho, hw, if_true]
      refine .inl ?_
      by_cases his : i = st
      · subst his
        have hz : ∀ j, j < ops.size → j ≠ i → listed.getD j true = true := by
          intro j hj hne
          have h1 := waitsU_spec hcl ops.size i o ho hall (relB_store hB hj hlt hne)
          have h2 : j < listed.size := by rw [hI.lsize]; exact hj
          simp [h2] at h1 ⊢
          exact h1
        have h1 := (hfin a w hI.size hI.defers hI.other (hfull hz) hSw hu).2 o ho
        have hnil : Region.ready md ops (listed.setIfInBounds i true) = [] := by
          cases hrd : Region.ready md ops (listed.setIfInBounds i true) with
          | nil => rfl
          | cons k l =>
            obtain ⟨h1, ok, hok, _⟩ := mem_ready.1 (show k ∈ Region.ready md ops (listed.setIfInBounds i true) by rw [hrd]; exact List.mem_cons_self)
            have hk : k < ops.size := (Array.getElem?_eq_some_iff.1 hok).1
            by_cases hki : k = i
            · subst hki
              have h2 : k < listed.size := by rw [hI.lsize]; exact hk
              simp [h2] at h1
            · rw [getD_set_ne true (Ne.symm hki), hz k hk hki] at h1
              cases h1
        refine Oper.wp_mono (fun a' w' hq => ?_) h1
        cases fuel with
        | zero => exact ⟨hnil, hq⟩
        | succ f => exact ⟨fun _ => hq, by rw [hnil]; intro j hj; cases hj⟩
      · obtain ⟨d, hd, hdl, hdd⟩ := hds his
        have hev : RelEv ops md R a0 o a.eval w := by
          refine ⟨fun _ => rfl, fun _ => rfl, fun _ => rfl, fun s hs => ?_, fun j o' d' hj he hd' => ?_⟩
          · show a.tmps.getD s undef = a0.tmps.getD s undef
            rw [Array.getD_eq_getD_getElem?, Array.getD_eq_getD_getElem?, hI.other s hs]
          · obtain ⟨e, he, hb, rfl⟩ := he
            exact hI.done e.on o' d' hj (hall e he hb) hd'
        have h1 := hop i o ho his a.eval w hSw hev
        have hnext : ∀ v w', R i v w' → Up w w' → wpAny P md ops Q fuel (listed.setIfInBounds i true) (a.put o.dst v) w' := by
          intro v w' hv hu'
          refine ih _ _ _ ?_ (closedU_set hcl hi) (fun h => ?_) ?_ (hS _ _ hSw hu') (hu.trans hu')
          · have := leftU_set (n := ops.size) hlt hun; omega
          · rw [getD_set_ne true his]; exact hst h
          · rw [hd]
            refine ⟨hI.defers, by simp [Act.put, hI.size], by simp [hI.lsize], fun s hs => ?_, fun j o' d' hj hl hd' => ?_⟩
            · have hne : d ≠ s := by
                rintro rfl
                obtain ⟨hx, hy⟩ := Array.getElem?_eq_some_iff.1 ho
                exact hs o (by rw [← hy]; exact Array.getElem_mem hx) hd
              rw [← hI.other s hs]
              simp [Act.put, hne]
            · by_cases hji : j = i
              · subst hji
                rw [ho] at hj
                obtain rfl := Option.some.inj hj
                rw [hd] at hd'
                obtain rfl := Option.some.inj hd'
                have hds : d < a.tmps.size := by rw [hI.size, hn]; exact hdl
                have e : ((a.put (some d) v).tmps.getD d undef) = v := by simp [Act.put, hds]
                rw [e]
                exact hv
              · have hne : d ≠ d' := fun e => hdd j o' hj hji (by rw [hd', e])
                rw [getD_set_ne false (Ne.symm hji)] at hl
                have e : ((a.put (some d) v).tmps.getD d' undef) = a.tmps.getD d' undef := by
                  rw [Array.getD_eq_getD_getElem?, Array.getD_eq_getD_getElem?]
                  simp [Act.put, hne]
                rw [e]
                exact hR j _ _ _ (hI.done j o' d' hj hl hd') hu'
        unfold Oper.wp
        generalize (execOp a.eval o).run P w = r at *
        cases r with
        | halt x w' => exact h1.elim
        | ok nx w' =>
          cases nx with
          | value u => exact hnext u w' h1.1 h1.2
          | enter f args =>
            obtain ⟨hu', hc⟩ := h1
            refine Calls.mono hc fun e w'' he => ?_
            obtain ⟨hu2, v, rfl, hv⟩ := he
            exact hnext v w'' hv (hu'.trans hu2)
          | _ => exact h1.elim
def putL (a : Act) : List (Tmp × Value) → Act
  | [] => a
  | p :: l => putL (a.put (some p.1) p.2) l
theorem putL_size (l : List (Tmp × Value)) : ∀ a : Act, (putL a l).tmps.size = a.tmps.size := by
  induction l with
  | nil => intro a; rfl
  | cons p l ih => intro a; show (putL _ l).tmps.size = _; rw [ih]; simp [Act.put]
theorem putL_defers (l : List (Tmp × Value)) : ∀ a : Act, (putL a l).defers = a.defers := by
  induction l with
  | nil => intro a; rfl
  | cons p l ih => intro a; show (putL _ l).defers = _; rw [ih]; rfl
theorem putL_get (g : Nat → Value) (ds : List Tmp) : ∀ (a : Act) (s : Tmp), s < a.tmps.size → (putL a (ds.map fun d => (d, g d))).tmps[s]? = if s ∈ ds then some (g s) else a.tmps[s]? := by
  induction ds with
  | nil => intro a s _; simp [putL]
  | cons d ds ih =>
    intro a s hs
    show (putL (a.put (some d) (g d)) (ds.map fun d => (d, g d))).tmps[s]? = _
    rw [ih _ _ (by simpa [Act.put] using hs)]
    by_cases h1 : s ∈ ds
    · simp [h1]
    · by_cases h2 : s = d
      · subst h2; simp [Act.put, hs, h1]
      · simp [h1, h2, Act.put, Ne.symm h2]
theorem putL_eq {a a0 : Act} {ds : List Tmp} (hs : a.tmps.size = a0.tmps.size) (hd : a.defers = a0.defers) (ho : ∀ s, s ∉ ds → a.tmps[s]? = a0.tmps[s]?) :
    a = putL a0 (ds.map fun d => (d, a.tmps.getD d undef)) := by
  have h1 : a.tmps = (putL a0 (ds.map fun d => (d, a.tmps.getD d undef))).tmps := by
    apply Array.ext_getElem?
    intro s
    rcases Nat.lt_or_ge s a0.tmps.size with hlt | hge
    · rw [putL_get (fun d => a.tmps.getD d undef) ds a0 s hlt]
      by_cases h : s ∈ ds
      · simp [h, hs, hlt]
      · simp [h, ho s h]
    · rw [Array.getElem?_eq_none (by omega), Array.getElem?_eq_none (by rw [putL_size]; exact hge)]
  have h2 := putL_defers (ds.map fun d => (d, a.tmps.getD d undef)) a0
  cases a with
  | mk t f =>
    generalize hp : putL a0 (ds.map fun d => (d, (Act.mk t f).tmps.getD d undef)) = b at *
    cases b
    simp only at h1 hd h2
    rw [h1, hd, h2]
theorem wp_region_rel {id : Nat} {a0 : Act} {w0 : World} {n : Nat} (st : Nat) (ds : List Tmp) (R : Nat → Value → World → Prop) (S : World → Prop) (hm : P.follows .mixedOrders = true) (hn : a0.tmps.size = n) (hB : relB .any ops n st = true)
    (hds : ∀ o ∈ ops, ∀ d, o.dst = some d → d ∈ ds)
    (hR : ∀ i v w w', R i v w → Up w w' → R i v w') (hS : ∀ w w', S w → Up w w' → S w') (h0 : S w0)
    (hop : ∀ i o, ops[i]? = some o → i ≠ st → ∀ ev w, S w → RelEv ops .any R a0 o ev w → LeavesR P (R i) w ((execOp ev o).run P w))
    (hfin : ∀ (g : Tmp → Value) w, (∀ i o d, ops[i]? = some o → i ≠ st → o.dst = some d → R i (g d) w) → S w → Up w0 w →
      (ops.size ≤ st → Q .normal (putL a0 (ds.map fun d => (d, g d))) w) ∧ (∀ o, ops[st]? = some o → Oper.wp P o (putL a0 (ds.map fun d => (d, g d))) w (Q .normal) Q)) :
    (Code.region id ops true).wp P Q a0 w0 := by
  refine wp_region_any hm (wpAny_rel hn hB hR hS hop (fun a w hs hd ho hr hSw hu => ?_) _ _ _ _ ?_ ?_ ?_ ?_ (hS _ _ h0 (Up.drew w0)) (Up.drew w0))
  · rw [putL_eq (ds := ds) hs hd (fun s hs' => ho s fun o' hm he => hs' (hds o' hm s he))]
    exact hfin (fun d => a.tmps.getD d undef) w hr hSw hu
  · unfold leftU; exact Nat.le_trans (List.length_filter_le _ _) (by simp)
  · intro j oj hj hl
    have : j < ops.size := (Array.getElem?_eq_some_iff.1 hj).1
    simp [this] at hl
  · intro h; simp [h]
  · refine ⟨rfl, rfl, by simp, fun _ _ => rfl, fun i o d ho hl _ => ?_⟩
    have : i < ops.size := (Array.getElem?_eq_some_iff.1 ho).1
    simp [this] at hl
structure SP where
  p : Value → World → Prop
  up : ∀ v w w', p v w → Up w w' → p v w'
def SP.is (c : Value) : SP := ⟨fun v _ => v = c, fun _ _ _ h _ => h⟩
def SP.any : SP := ⟨fun _ _ => True, fun _ _ _ h _ => h⟩
def SP.of (p : Value → World → Prop) (up : ∀ v w w', p v w → Up w w' → p v w') : SP := ⟨p, up⟩
def nthR (L : List SP) (i : Nat) (v : Value) (w : World) : Prop := (L.getD i SP.any).p v w
def freeB (ops : Array Oper) (s : Tmp) : Bool := ops.all fun o => o.dst != some s
def depB (md : Region.Mode) (ops : Array Oper) (i j : Nat) (d : Tmp) : Bool :=
  match ops[i]?, ops[j]? with
  | some o, some o' => (o.after.any fun e => Region.binds md e && e.on == j) && o'.dst == some d
  | _, _ => false
def dstB (ops : Array Oper) (j : Nat) (d : Tmp) : Bool := match ops[j]? with | some o' => o'.dst == some d | none => false
def dsB (ops : Array Oper) (ds : List Tmp) : Bool := ops.all fun o => match o.dst with | some d => ds.contains d | none => true
structure EvR (ops : Array Oper) (L : List SP) (a0 : Act) (i : Nat) (ev : Operand → Value) (w : World) : Prop where
  const : ∀ c, ev (.const c) = c
  func : ∀ f, ev (.func f) = .func (.func f) #[] #[]
  global : ∀ g, ev (.global g) = .pointer (some ⟨g, 0, none⟩)
  other : ∀ s, freeB ops s = true → ev (.tmp s) = a0.eval (.tmp s)
  dep : ∀ j d, depB .any ops i j d = true → nthR L j (ev (.tmp d)) w
theorem wp_region_sp {id : Nat} {a0 : Act} {w0 : World} {n : Nat} (st : Nat) (ds : List Tmp) (L : List SP) (S : World → Prop) (hm : P.follows .mixedOrders = true) (hn : a0.tmps.size = n) (hB : relB .any ops n st = true)
    (hds : dsB ops ds = true) (hS : ∀ w w', S w → Up w w' → S w') (h0 : S w0)
    (hop : ∀ ev w, S w → ∀ i o, i ≠ st → ops[i]? = some o → EvR ops L a0 i ev w → LeavesR P (nthR L i) w ((execOp ev o).run P w))
    (hfin : ∀ (g : Tmp → Value) w, (∀ i d, i ≠ st → dstB ops i d = true → nthR L i (g d) w) → S w → Up w0 w →
      (ops.size ≤ st → Q .normal (putL a0 (ds.map fun d => (d, g d))) w) ∧ (∀ o, ops[st]? = some o → Oper.wp P o (putL a0 (ds.map fun d => (d, g d))) w (Q .normal) Q)) :
    (Code.region id ops true).wp P Q a0 w0 := by
  refine wp_region_rel (n := n) st ds (nthR L) S hm hn hB (fun o ho d hd => ?_) (fun i v w w' h hu => (L.getD i SP.any).up v w w' h hu) hS h0 (fun i o hi hne ev w hSw hev => ?_) (fun g w hr => hfin g w fun i d hne hd => ?_)
  · have := Array.all_eq_true_iff_forall_mem.1 hds o ho
    simpa [hd] using this
  · refine hop ev w hSw i o hne hi ⟨hev.const, hev.func, hev.global, fun s hs => hev.other s fun o' ho' => ?_, fun j d hj => ?_⟩
    · have := Array.all_eq_true_iff_forall_mem.1 hs o' ho'
      simpa using this
    · unfold depB at hj
      rw [hi] at hj
      cases hoj : ops[j]? with
      | none => rw [hoj] at hj; cases hj
      | some o' =>
        rw [hoj] at hj
        simp only [Bool.and_eq_true, Array.any_eq_true', beq_iff_eq] at hj
        obtain ⟨⟨e, he, hb, hon⟩, hd⟩ := hj
        exact hev.dep j o' d hoj ⟨e, he, hb, hon⟩ hd
  · unfold dstB at hd
    cases ho : ops[i]? with
    | none => rw [ho] at hd; cases hd
    | some o' =>
      rw [ho] at hd
      exact hr i o' d ho hne (by simpa using hd)
end
theorem leavesR_app {o : Oper} {ev : Operand → Value} {w : World} {s u : Operand} {base : Nat} {v x : Value} {l m : List Int} {R : Value → World → Prop}
    (ho : o.op = .call { callee := .builtin .append, args := #[s, u], argTypes := #[22, 22] })
    (hs : ev s = v) (hu : ev u = x) (hown : OwnI w base v l) (hV : Vw w x m) (hbase : base ≤ w.heap.size) (hv : ∀ g, v.ownBlock = some g → w.heap.size ≤ g) (hl : l.length < 1000000) (hm : m.length < 1000000)
    (hR : ∀ v' w', OwnI w' base v' (l ++ m) → R v' w') : LeavesR Tryz.prog R w ((execOp ev o).run Tryz.prog w) := by
  obtain ⟨i0, hi0, he⟩ := Option.map_eq_some_iff.1 infoI
  simp only [Prod.mk.injEq] at he
  have hrun : ∀ {v' : Value} {w' : World}, (Builtin.append_ #[22, 22] o.type #[v, x]).run Tryz.prog w = .ok v' w' → (execOp ev o).run Tryz.prog w = .ok (.value v') w' := by
    intro v' w' h
    unfold execOp
    simp only [ho, resolve, invoke, builtin, Sem.run_bind, Sem.run_pure, Result.andThen_ok, List.map_toArray, List.map_cons, List.map_nil, hs, hu, h]
  have hup : ∀ w', w.grownBy w' v.ownBlock → Up w w' := fun w' h2 => ⟨h2.os, h2.tape, h2.output, h2.size, fun k hk => h2.block k hk (fun e => by have := hv k e.symm; omega)⟩
  obtain ⟨p, cap, rfl, hcap, hc⟩ := hV
  cases p with
  | none =>
    have h0 : m.length = 0 := by
      rcases Nat.eq_zero_or_pos m.length with h0 | h0
      · exact h0
      · obtain ⟨ad, h1, _⟩ := hc 0 h0; cases h1
    have hm0 := List.length_eq_zero_iff.1 h0
    subst hm0
    obtain rfl := hcap.2 rfl
    rw [hrun (run_append_owned_none (P := Tryz.prog) (w := w) base 22 o.type 2 i0 1 undI hi0 v l.length (vals l) hown)]
    exact ⟨hR v w (by simpa using hown), Up.refl _⟩
  | some ad =>
    have hcell : ∀ j x, (vals m)[j]? = some x → w.cell? (ad.add j) = some x := by
      intro j x hx
      have hj : j < m.length := by
        have := (List.getElem?_eq_some_iff.1 hx).1
        unfold vals at this
        simpa using this
      obtain ⟨a2, e2, h2⟩ := hc j hj
      injection e2 with e2
      subst e2
      rw [vals_get hj] at hx
      rw [h2]; exact hx
    obtain ⟨v', w', h1, h2, h3, _⟩ := run_append_own_at (P := Tryz.prog) w base 22 o.type 2 i0 (.int .i64 0) 1 8 undI hi0 he.1 he.2.1 he.2.2 rfl (by decide) v l.length (vals l) hown ad m.length cap (vals m) (by unfold vals; simp) hcell
      (by intro x hx; unfold vals at hx; obtain ⟨z, _, rfl⟩ := List.mem_map.1 hx; rfl) (by unfold maxLen; omega) (by omega) hbase
    rw [hrun h1]
    exact ⟨hR v' w' (by unfold OwnI; rw [List.length_append, vals_append]; exact h2), hup w' h3⟩
set_option maxHeartbeats 1000000 in
theorem copy_any {v : Value} {N : Int} {l : List Int} {w : World} (h : Sm w v N l) :
    Calls Tryz.prog 9 #[v] w fun r w' => ∃ s, r = .returned (.agg #[.int .i64 N, s]) ∧ Up w w' ∧ OwnI w' w.heap.size s l := by
  obtain ⟨s, rfl, hV, hN, hl, hlen⟩ := h
  obtain ⟨p, cap, hs, _⟩ := hV
  subst hs
  obtain ⟨W0, hW0⟩ : ∃ W0, (w.alloc (.cells #[.int .i64 N, .slice p l.length cap] 24)).alloc (.cells #[.int .i64 0, .slice none 0 0] 24) = W0 := ⟨_, rfl⟩
  have hB : Blk W0 w.heap.size 24 #[.int .i64 N, .slice p l.length cap] := by rw [← hW0]; exact (Blk.new _ _ rfl).old _
  have hQ : Blk W0 (w.heap.size + 1) 24 #[.int .i64 0, .slice none 0 0] := by rw [← hW0]; exact Blk.new _ _ (by simp)
  have hU : Up w W0 := by rw [← hW0]; exact (Up.alloc _ _).trans (Up.alloc _ _)
  have hV0 : Vw W0 (.slice p l.length cap) l := Vw.up hU ⟨p, cap, rfl, by assumption⟩
  go_enter Tryz.func9, Tryz.ntmps9
  go_wp2_with fail
  clear hW0
  refine wp_region_sp (n := 9) 6 [3, 4, 5, 6, 7, 8] [SP.is (.pointer (some ⟨w.heap.size, 0, none⟩)), SP.is (.int .i64 N), SP.is (.pointer (some ⟨w.heap.size, 1, none⟩)), SP.is (.slice p l.length cap), SP.of (fun v w1 => OwnI w1 w.heap.size v l) (fun _ _ _ h hu => OwnI.up hu h), SP.of (fun v w1 => ∃ s, v = .agg #[.int .i64 N, s] ∧ OwnI w1 w.heap.size s l) (fun _ _ _ h hu => h.imp fun _ k => ⟨k.1, OwnI.up hu k.2⟩), SP.any] (fun wq => Blk wq w.heap.size 24 #[.int .i64 N, .slice p l.length cap] ∧ Blk wq (w.heap.size + 1) 24 #[.int .i64 0, .slice none 0 0] ∧ Vw wq (.slice p l.length cap) l ∧ Below w.heap.size w wq) (by kernel_rfl) (by rfl) (by kernel_rfl) (by kernel_rfl) (fun _ _ h hu => ⟨(h.1).up hu, (h.2.1).up hu, (h.2.2.1).up hu, below_up (h.2.2.2) hu⟩) ⟨(by first | assumption | exact gBlk), (by first | assumption | exact gBlk), (by assumption), gUp⟩ (fun ev w9 hS9 i o hne hi hev => ?_) (fun gR wE hq hSE huE => ?_)
  · have ⟨hS1, hS2, hS3, hSB⟩ := hS9
    have hcC := hev.const
    have hcF := hev.func
    have hcG := hev.global
    rcases i with _ | _ | _ | _ | _ | _ | _ | i
    · obtain rfl := Option.some.inj (show some _ = some o from hi)
      have e1 := hev.other 1 (by kernel_rfl)
      simp [Act.eval] at e1
      exact leavesR_value (u := .pointer (some ⟨w.heap.size, 0, none⟩)) (by first | (go_simp; done) | (go_simp; exact rfl)) rfl
    · obtain rfl := Option.some.inj (show some _ = some o from hi)
      have e3 : ev (.tmp 3) = (.pointer (some ⟨w.heap.size, 0, none⟩)) := hev.dep 0 3 (by kernel_rfl)
      have hc0 := hS1.cell 0 rfl; exact leavesR_value (u := .int .i64 N) (by go_simp) rfl
    · obtain rfl := Option.some.inj (show some _ = some o from hi)
      have e1 := hev.other 1 (by kernel_rfl)
      simp [Act.eval] at e1
      exact leavesR_value (u := .pointer (some ⟨w.heap.size, 1, none⟩)) (by first | (go_simp; done) | (go_simp; exact rfl)) rfl
    · obtain rfl := Option.some.inj (show some _ = some o from hi)
      have e5 : ev (.tmp 5) = (.pointer (some ⟨w.heap.size, 1, none⟩)) := hev.dep 2 5 (by kernel_rfl)
      have hc0 := hS1.cell 1 rfl; exact leavesR_value (u := .slice p l.length cap) (by go_simp) rfl
    · obtain rfl := Option.some.inj (show some _ = some o from hi)
      have e6 : ev (.tmp 6) = (.slice p l.length cap) := hev.dep 3 6 (by kernel_rfl)
      exact leavesR_app (l := []) rfl (hcC _) e6 (OwnI.nil _ _) hS3 hSB.size (fun g h => by cases h) (by simp) (by omega) (fun _ _ h => h)
    · obtain rfl := Option.some.inj (show some _ = some o from hi)
      have e4 : ev (.tmp 4) = (.int .i64 N) := hev.dep 1 4 (by kernel_rfl)
      have e7 : (fun v w1 => OwnI w1 w.heap.size v l) (ev (.tmp 7)) w9 := hev.dep 4 7 (by kernel_rfl)
      dsimp only at e7
      obtain ⟨v7, hv7⟩ : ∃ v, ev (.tmp 7) = v := ⟨_, rfl⟩
      rw [hv7] at e7
      obtain ⟨p7, n7, c7, rfl⟩ := OwnI.slice e7; exact leavesR_value (u := .agg #[.int .i64 N, .slice p7 n7 c7]) (by go_simp) ⟨_, rfl, e7⟩
    · exact absurd rfl hne
    · exact absurd (show i + 7 < 7 from (Array.getElem?_eq_some_iff.1 hi).1) (by omega)
  have ⟨hS1, hS2, hS3, hSB⟩ := hSE
  have q0 : gR 3 = (.pointer (some ⟨w.heap.size, 0, none⟩)) := hq 0 3 (by decide) (by kernel_rfl)
  have q1 : gR 4 = (.int .i64 N) := hq 1 4 (by decide) (by kernel_rfl)
  have q2 : gR 5 = (.pointer (some ⟨w.heap.size, 1, none⟩)) := hq 2 5 (by decide) (by kernel_rfl)
  have q3 : gR 6 = (.slice p l.length cap) := hq 3 6 (by decide) (by kernel_rfl)
  have q4 : (fun v w1 => OwnI w1 w.heap.size v l) (gR 7) wE := hq 4 7 (by decide) (by kernel_rfl)
  dsimp only at q4
  obtain ⟨v7, hv7⟩ : ∃ v, gR 7 = v := ⟨_, rfl⟩
  rw [hv7] at q4
  have q5 : (fun v w1 => ∃ s, v = .agg #[.int .i64 N, s] ∧ OwnI w1 w.heap.size s l) (gR 8) wE := hq 5 8 (by decide) (by kernel_rfl)
  dsimp only at q5
  obtain ⟨v8, hv8⟩ : ∃ v, gR 8 = v := ⟨_, rfl⟩
  rw [hv8] at q5
  refine ⟨fun h => absurd h (by decide), fun o ho => ?_⟩
  obtain rfl := Option.some.inj (show some _ = some o from ho)
  simp only [putL, List.map_cons, List.map_nil, q0, q1, q2, q3, hv7, hv8, Act.put, pu1, pu2, pu3]
  clear hq hSE q0 q1 q2 q3
  obtain ⟨sR, rfl, hO⟩ := q5
  obtain ⟨p7, n7, c7, rfl⟩ := OwnI.slice hO
  refine wp_stM rfl rfl rfl rfl hS2 rfl rfl (two2 _ _ _ _ _) ?_
  go_wp2_with fail
  exact bodyPost_ret (resM rfl rfl (hS2.setRow _) rfl) rfl ⟨_, rfl, below_setRow hSB (by omega) _, hO.setRow hS2⟩
theorem mkI {ops : Array Oper} {rest : List Oper} {Q : Exit → Act → World → Prop} {a : Act} {w : World} {d : Option Tmp} {l : Tmp} {ty : TypeId} {pos : String} {af : Array Edge} {L : Int} (hl : a.eval (.tmp l) = .int .i64 L) (h0 : 0 ≤ L) (hn : L < 1000000)
    (h : ∀ g n c w', OwnI w' w.heap.size (.slice (some ⟨g, 0, none⟩) n c) (List.replicate L.toNat 0) → Up w w' → wpList Tryz.prog ops Q rest (a.put d (.slice (some ⟨g, 0, none⟩) n c)) w') :
    wpList Tryz.prog ops Q ({ dst := d, op := .makeSlice 22 (.tmp l) (.tmp l), type := ty, pos := pos, after := af, guard := none } :: rest) a w := by
  refine wpList_plain rfl fun _ hK => ?_
  have hi := infoI
  cases hq : Tryz.prog.info? 2 with
  | none => rw [hq] at hi; simp at hi
  | some i =>
    rw [hq] at hi
    simp only [Option.map_some, Option.some.injEq, Prod.mk.injEq] at hi
    have hr := run_make (P := Tryz.prog) (w := w) 22 2 i (.int .i64 0) undI hq hi.1 .i64 .i64 L L (by omega) (by omega) (by rw [hi.2.2]; omega) (by omega)
    rw [hi.2.1, Nat.mul_one] at hr
    have hz : madeCells (Value.int .i64 0).cells L.toNat = (vals (List.replicate L.toNat 0)).toArray := by
      unfold madeCells vals
      apply Array.ext
      · simp [Value.cells]
      · intro i h1 h2; simp [Value.cells, Nat.mod_one]
    rw [hz] at hr
    unfold Oper.wp execOp
    simp only [hl, Sem.run_bind, Sem.run_pure, Result.andThen_ok, hr]
    refine hK _ _ (h _ _ _ _ ?_ (Up.alloc _ _))
    refine ⟨by unfold vals; simp, .inr ⟨w.heap.size, L.toNat, (vals (List.replicate L.toNat 0)).toArray, by simp, Nat.le_refl _, heap_alloc_new _ _, by simp, by unfold maxLen; omega, by unfold vals; simp, by unfold vals; simp⟩⟩
def nw (n : Int) : Int := min (max n 0) 8
theorem nw_in (n : Int) : 0 ≤ nw n ∧ nw n ≤ 8 := by unfold nw; omega
def zeros (n : Int) : List Int := List.replicate (tri n).toNat 0
theorem zth_zeros (n : Int) (i : Nat) : zth (zeros n) i = 0 := by
  unfold zth zeros
  rw [List.getD_eq_getElem?_getD, List.getElem?_replicate]
  split <;> rfl
theorem in64_zeros (n : Int) : In64 (zeros n) := by intro i _; rw [zth_zeros]; unfold I64; omega
theorem len_zeros {n : Int} (h0 : 0 ≤ n) (h8 : n ≤ 8) : ((zeros n).length : Int) = tri n := by
  unfold zeros; rw [List.length_replicate]; have := tri_le h0 h8; omega
theorem rnew_any (n : Int) (w : World) :
    Calls Tryz.prog 39 #[.int .i64 n] w fun r w' => ∃ z, r = .returned z ∧ Up w w' ∧ Sm w' z (nw n) (zeros (nw n)) := by
  have ⟨n0, n8⟩ := nw_in n
  have hq : min (max n 0) 8 = nw n := rfl
  have ⟨m1, m2⟩ := tri_mul n0 n8
  have ⟨t0, t1⟩ := tri_le n0 n8
  have HZ := hid (in64_zeros (nw n))
  have HL := hid (len_zeros n0 n8)
  have htr := tri_def (nw n)
  obtain ⟨T2, hT2⟩ : ∃ p, nw n * (nw n + 1) = p := ⟨_, rfl⟩
  have hm : IntKind.i64.wrap (nw n * (nw n + 1)) = T2 := by rw [hT2]; rw [hT2] at m1 m2; exact IntWalk.i64_in _ (by omega)
  rw [hT2] at m1 m2 htr
  unfold zeros at HZ HL ⊢
  rw [htr] at HZ HL t0 t1 ⊢
  clear htr hT2
  generalize nw n = N at *
  obtain ⟨W0, hW0⟩ : ∃ W0, w.alloc (.cells #[.int .i64 0, .slice none 0 0] 24) = W0 := ⟨_, rfl⟩
  have hQ : Blk W0 w.heap.size 24 #[.int .i64 0, .slice none 0 0] := by rw [← hW0]; exact Blk.new _ _ rfl
  have hU : Up w W0 := by rw [← hW0]; exact Up.alloc _ _
  go_enter Tryz.func39, Tryz.ntmps39
  go_wp2_with (first
    | ((with_reducible apply mkI); exact rfl; (focus omega); (focus omega); rintro g n c w2 hO hu2; have hQ2 := hQ.up hu2)
    | ((with_reducible apply stM_P); exact rfl; exact rfl; exact hQ2; exact rfl; exact rfl; exact two2 _ _ _ _ _))
  exact bodyPost_ret (resM rfl rfl (hQ2.setRow _) rfl) rfl ⟨_, rfl, below_setRow (hU.trans hu2) (Nat.le_refl _) _, _, rfl, (hO.setRow hQ2).vw, by unfold I64; omega, HZ.out, by have := HL.out; omega⟩
theorem Vw.at_ {w : World} {v : Value} {l : List Int} (h : Vw w v l) : ∃ p cap, v = .slice p l.length cap ∧ ∀ w', Up w w' → ∀ i, i < l.length → ∃ a, p = some a ∧ w'.cell? (a.add i) = some (.int .i64 (zth l i)) := by
  obtain ⟨p, cap, e, _, hc⟩ := h
  refine ⟨p, cap, e, fun w' hu i hi => ?_⟩
  obtain ⟨a, h1, h2⟩ := hc i hi
  exact ⟨a, h1, hu.cellEq h2⟩
theorem ints_eq {a b : Value} {l : List Int} {w : World} (ha : Vw w a l) (hb : Vw w b l) (hl : l.length ≤ 1000) :
    Calls Tryz.prog 32 #[a, b] w fun r w' => r = .returned (.bool true) ∧ Up w w' := by
  obtain ⟨p, cp, rfl, hp⟩ := ha.at_
  obtain ⟨q, cq, rfl, hq⟩ := hb.at_
  have HP := hid hp
  have HQ := hid hq
  clear hp hq ha hb
  have d0 : ((l.length : Int) != l.length) = false := by simp
  go_enter Tryz.func32, Tryz.ntmps32
  go_wp2_with fail
  go_loopg [5] l.length (fun g ti wr => ∃ k : Nat, k ≤ l.length ∧ l.length - k ≤ g ∧ ti = .int .i64 (k : Nat) ∧ Up w wr)
  case atStart => exact ⟨0, Nat.zero_le _, Nat.le_refl _, rfl, Up.refl _⟩
  case round =>
    obtain ⟨k, hk, hkg, rfl, hu⟩ := hrel
    by_cases hlt : k < l.length
    · obtain ⟨a1, rfl, hc1⟩ := HP.out _ hu k hlt
      obtain ⟨a2, rfl, hc2⟩ := HQ.out _ hu k hlt
      have dz : (zth l k != zth l k) = false := by simp
      generalize zth l k = z at *
      have e1 : IntKind.i64.wrap ((k : Int) + 1) = (k : Int) + 1 := IntWalk.i64_in _ (by omega)
      go_wp2_with fail
      go_quiet (fail)
      go_wp2_with fail
      go_roundg (l.length - (k + 1))
      case measure => omega
      case rel => exact ⟨k + 1, by omega, Nat.le_refl _, rfl, below_drewN hu _⟩
    · obtain rfl : k = l.length := by omega
      clear hlt hk
      go_wp2_with fail
      go_ret
      exact ⟨rfl, hu⟩
theorem Glob.up {w w' : World} (h : Glob w) (hu : Up w w') : Glob w' := hu.cellEq h
theorem own_one {w : World} {base : Nat} {t : TypeId} {s x : Value} (h : w.ownsRow base t 1 s 1 [x]) : ∃ g cap C, s = .slice (some ⟨g, 0, none⟩) 1 cap ∧ Blk w g t C ∧ C[0]? = some x := by
  obtain ⟨_, h0 | ⟨g, cap, cur, rfl, _, hb, _, _, hsz, htake⟩⟩ := h
  · exact absurd h0.2 (by decide)
  · refine ⟨g, cap, cur, rfl, hb, ?_⟩
    rw [← Array.getElem?_toList, ← List.getElem?_take_of_lt (show 0 < 1 * 1 by decide), htake]; rfl
set_option maxHeartbeats 1000000 in
theorem rat_ent {v : Value} {N : Int} {l : List Int} (i j : Int) {w : World} (h : Sm w v N l) (hR : rt N l = true) (hr : rng N i j = true) :
    Calls Tryz.prog 22 #[v, .int .i64 i, .int .i64 j] w fun r w' => r = .returned (.int .i64 (ent N l i j)) ∧ Up w w' := by
  obtain ⟨k, hk, hkl, hke⟩ := idx_nat hR hr
  obtain ⟨r1, r2, r3, _⟩ := rt_spec hR
  obtain ⟨hi, hj⟩ := of_decide_eq_true hr
  have HX := hid (fun w => hk ▸ rat_any N i j r2 hi.1 hi.2 hj.1 hj.2 w)
  rw [hke]
  obtain ⟨s, rfl, hV, hN, hl, hlen⟩ := h
  obtain ⟨p, cap, rfl, hcap, hc⟩ := hV
  obtain ⟨ad, rfl, hcell⟩ := hc k hkl
  have hcell' := (Up.alloc w (.cells #[.int .i64 N, .slice (some ad) l.length cap] 24)).cellEq hcell
  clear hc hl hR hr hk hke hi hj r1 r2 r3 hcell
  go_enter Tryz.func22, Tryz.ntmps22
  go_wp2_with fail
  go_quiet ((go_at_call 57; exact Calls.quiet_of_same (HX.out _)))
  go_wp2_with fail
  go_ret
  exact ⟨rfl, up_alloc_drewN _ _ _⟩
def RSymPost (w : World) (N : Int) (l : List Int) (e : Int) (r : Ending) (w' : World) : Prop := ∃ z, r = .returned (.tuple #[z, .int .i64 e]) ∧ Up w w' ∧ SmO w' z N l
theorem RSymPost.err {w w' : World} {g : Nat} (e : Int) (hu : Up w w') (hg : w.heap.size ≤ g) :
    RSymPost w 0 [] e (.returned (.tuple #[.agg #[.int .i64 0, .slice none 0 0], .int .i64 e])) (w'.setRow g #[.int .i64 0, .slice none 0 0]) :=
  ⟨_, rfl, below_setRow hu hg _, SmO.zero _⟩
theorem RSymPost.ok {w w' : World} {g base : Nat} {C : Array Value} {s : Value} {N : Int} {l : List Int} (hu : Up w w') (hg : w.heap.size ≤ g) (hB : Blk w' g 24 C) (hO : OwnI w' base s l) (hN : I64 N) (hl : In64 l) (hn : l.length ≤ 1000) :
    RSymPost w N l 0 (.returned (.tuple #[.agg #[.int .i64 N, s], .int .i64 0])) (w'.setRow g #[.int .i64 N, s]) :=
  ⟨_, rfl, below_setRow hu hg _, ⟨s, base, rfl, hO.setRow hB, hN, hl, hn⟩⟩
def triN (n : Nat) : Nat := n * (n + 1) / 2
theorem tri_nat (n : Nat) : tri (n : Int) = (triN n : Nat) := by
  unfold tri triN
  rw [Int.natCast_ediv]
  simp [Int.natCast_mul]
theorem triN_succ (n : Nat) : triN (n + 1) = triN n + (n + 1) := by
  unfold triN
  rw [show (n + 1) * (n + 1 + 1) = n * (n + 1) + 2 * (n + 1) by grind]
  omega
theorem triN_mono {m n : Nat} (h : m ≤ n) : triN m ≤ triN n := by
  induction n with
  | zero => obtain rfl : m = 0 := by omega
            exact Nat.le_refl _
  | succ n ih =>
    rcases Nat.lt_or_ge m (n + 1) with h1 | h1
    · have := ih (by omega); rw [triN_succ]; omega
    · obtain rfl : m = n + 1 := by omega
      exact Nat.le_refl _
def pos (n i j : Nat) : Nat := triN n - triN (n - i) + (j - i)
theorem pos_idx {n i j : Nat} (hij : i ≤ j) (hj : j < n) : idx (n : Int) (i : Int) (j : Int) = (pos n i j : Nat) := by
  unfold idx pos
  rw [show min (i : Int) (j : Int) = (i : Int) by omega, show max (i : Int) (j : Int) = (j : Int) by omega, tri_nat, show (n : Int) - (i : Int) = ((n - i : Nat) : Int) by omega, tri_nat]
  have := triN_mono (m := n - i) (n := n) (by omega)
  omega
theorem pos_zero (n : Nat) : pos n 0 0 = 0 := by unfold pos; simp
theorem pos_succ {n i j : Nat} (hij : i ≤ j) : pos n i (j + 1) = pos n i j + 1 := by unfold pos; omega
theorem pos_row {n i : Nat} (hi : i < n) : pos n i n = pos n (i + 1) (i + 1) := by
  unfold pos
  obtain ⟨m, rfl⟩ : ∃ m, n = i + 1 + m := ⟨n - i - 1, by omega⟩
  rw [show i + 1 + m - i = m + 1 by omega, show i + 1 + m - (i + 1) = m by omega, triN_succ]
  have := triN_mono (m := m + 1) (n := i + 1 + m) (by omega)
  rw [triN_succ] at this
  omega
theorem pos_end (n : Nat) : pos n n n = triN n := by unfold pos; simp [triN]
theorem pos_lt {n i j : Nat} (hij : i ≤ j) (hj : j < n) : pos n i j < triN n := by
  have h1 : j + 1 ≤ n := hj
  have : ∀ k, j + 1 + k = n → pos n i j + 1 + k = pos n i n := by
    intro k hk
    unfold pos
    omega
  have h2 := this (n - (j + 1)) (by omega)
  have h3 := pos_row (n := n) (i := i) (by omega)
  have h4 : pos n (i + 1) (i + 1) ≤ triN n := by unfold pos; omega
  omega
def prs (n : Nat) : List (Nat × Nat) := (List.range n).flatMap fun i => (List.range (n - i)).map fun d => (i, i + d)
theorem prs_all : ∀ n, n < 9 → ∀ j, j < n → ∀ i, i < j + 1 → (prs n).getD (pos n i j) (0, 0) = (i, j) := by decide +kernel
theorem prs_at {n i j : Nat} (hn : n ≤ 8) (hij : i ≤ j) (hj : j < n) : (prs n).getD (pos n i j) (0, 0) = (i, j) := prs_all n (by omega) j hj i (by omega)
def mixed (new old : List Int) (p : Nat) : List Int := new.take p ++ old.drop p
theorem mixed_zero (new old : List Int) : mixed new old 0 = old := by simp [mixed]
theorem mixed_all {new old : List Int} (h : new.length = old.length) : mixed new old new.length = new := by unfold mixed; rw [List.take_length, h, List.drop_length, List.append_nil]
theorem mixed_len {new old : List Int} (h : new.length = old.length) (p : Nat) : (mixed new old p).length = old.length := by simp [mixed]; omega
theorem mixed_at {new old : List Int} (h : new.length = old.length) {p : Nat} (hp : p < old.length) : zth (mixed new old p) p = zth old p := by
  have e : (mixed new old p)[p]? = old[p]? := by
    unfold mixed
    rw [List.getElem?_append_right (by simp; omega)]
    simp only [List.length_take, List.getElem?_drop]
    congr 1
    omega
  unfold zth
  rw [List.getD_eq_getElem?_getD, List.getD_eq_getElem?_getD, e]
theorem mixed_get {new old : List Int} (h : new.length = old.length) (p : Nat) {q : Nat} (hq : q < old.length) : zth (mixed new old p) q = if q < p then zth new q else zth old q := by
  unfold zth mixed
  rw [List.getD_eq_getElem?_getD, List.getD_eq_getElem?_getD, List.getD_eq_getElem?_getD]
  split
  · rename_i hqp
    rw [List.getElem?_append_left (by simp; omega), List.getElem?_take_of_lt hqp]
  · rename_i hqp
    rw [List.getElem?_append_right (by simp; omega)]
    simp only [List.length_take, List.getElem?_drop]
    congr 2
    omega
theorem list_ext {a b : List Int} (h : a.length = b.length) (hz : ∀ i, i < a.length → zth a i = zth b i) : a = b := by
  apply List.ext_getElem h
  intro i h1 h2
  rw [← zth_get h1, ← zth_get h2]
  exact hz i h1
theorem zth_set {l : List Int} {k : Nat} {z : Int} {q : Nat} (hq : q < l.length) : zth (l.set k z) q = if q = k then z else zth l q := by
  rw [zth_get (by rw [List.length_set]; exact hq), List.getElem_set]
  split
  · rename_i h; rw [if_pos h.symm]
  · rename_i h; rw [if_neg (fun e => h e.symm), zth_get hq]
theorem mixed_set {new old : List Int} (h : new.length = old.length) {p : Nat} (hp : p < old.length) : (mixed new old p).set p (zth new p) = mixed new old (p + 1) := by
  apply list_ext
  · rw [List.length_set, mixed_len h, mixed_len h]
  · intro i hi
    rw [List.length_set, mixed_len h] at hi
    rw [zth_set (by rw [mixed_len h]; exact hi), mixed_get h _ hi, mixed_get h _ hi]
    split
    · rename_i e; subst e; rw [if_pos (by omega)]
    · split <;> split <;> first | rfl | omega
theorem mixed_same {new old : List Int} (h : new.length = old.length) {p q : Nat} (hpq : p ≤ q) (_ : q ≤ old.length) (hs : ∀ i, p ≤ i → i < q → zth new i = zth old i) : mixed new old p = mixed new old q := by
  apply list_ext
  · rw [mixed_len h, mixed_len h]
  · intro i hi
    rw [mixed_len h] at hi
    rw [mixed_get h _ hi, mixed_get h _ hi]
    split <;> split <;> first | rfl | omega | skip
    · rename_i h1 h2; exact (hs i (by omega) h2).symm
def mk (m : Nat) (f : Nat → Int) : List Int := (List.range m).map f
theorem mk_len (m : Nat) (f : Nat → Int) : (mk m f).length = m := by simp [mk]
theorem mk_at {m : Nat} {f : Nat → Int} {i : Nat} (h : i < m) : zth (mk m f) i = f i := by
  rw [zth_get (by rw [mk_len]; exact h)]
  simp [mk]
def ouL (n : Nat) (l : List Int) (x : Int) (h : List Int) : List Int := mk l.length fun p => zth l p + x * zth h ((prs n).getD p (0, 0)).1 * zth h ((prs n).getD p (0, 0)).2
def diL (n : Nat) (l : List Int) (x : Int) : List Int := mk l.length fun p => if ((prs n).getD p (0, 0)).1 = ((prs n).getD p (0, 0)).2 then zth l p + x else zth l p
theorem inR_bp {z : Int} {k : Nat} (hk : k ≤ 15) (h : z.natAbs < bp k) : InR z := by
  have h1 := bp_mono hk
  have h2 : bp 15 ≤ hb := by have := bp_succ 15; have := bp_pos 15; have h3 := bp16; unfold hb at *; omega
  exact InR.mk' (by omega)
def prodL : List Int → Int := List.foldl (· * ·) 1
theorem run_ldE {P : Program} {t e : TypeId} {n : Nat} {w : World} {o : Oper} {ev : Operand → Value} {x : Operand} (hu : P.underlying t = some (.array n e)) (hi : (P.info? t).map (·.size) = some n) (ho : o.op = .load t x) {g : Nat} (hx : ev x = .pointer (some ⟨g, 0, none⟩)) {f : Nat → Nat} (hC : Row w g t n f) :
    (execOp ev o).run P w = .ok (.value (.agg (cells n f))) w := by
  unfold execOp
  simp only [ho, hx, Instr.loadAt, Instr.sureAddr, Sem.run_bind, Sem.run_pure, Result.andThen_ok, run_row hu hi hC]
theorem prodL_snoc (l : List Int) (z : Int) : prodL (l ++ [z]) = prodL l * z := by unfold prodL; rw [List.foldl_append]; rfl
theorem prodL_bp {l : List Int} (h : In64 l) : ∀ k, k ≤ l.length → (prodL (l.take k)).natAbs < bp (k + 1) := by
  intro k
  induction k with
  | zero => intro _; rw [List.take_zero]; show (1 : Int).natAbs < bp 1; rw [bp_succ, bp_zero]; decide
  | succ k ih =>
    intro hk
    have e : l.take (k + 1) = l.take k ++ [zth l k] := by rw [List.take_add_one, zth_get (by omega), List.getElem?_eq_getElem (by omega)]; rfl
    have h1 := h k (by omega)
    rw [e, prodL_snoc, Int.natAbs_mul, bp_succ (k + 1)]
    unfold I64 at h1
    exact Nat.mul_lt_mul_of_lt_of_le (ih (by omega)) (by omega) (by decide)
theorem wp_folded {P : Program} {c : Code} {Q : Exit → Act → World → Prop} {a : Act} {w : World} (R : World → Prop) (h : R w) (k : ∀ w', R w' → c.wp P Q a w') : c.wp P Q a w := k w h
set_option maxHeartbeats 2000000 in
theorem product_any {v : Value} {l : List Int} {w : World} (h : Vw w v l) (hl : In64 l) (h3 : l.length ≤ 10) :
    Calls Tryz.prog 121 #[v] w fun r w' => r = .returned (wideV (enc (prodL l))) ∧ Up w w' := by
  obtain ⟨p, cap, rfl, hc⟩ := h.at_
  have HC := hid hc
  have HL := hid hl
  have HO := hid (fun v (hv : I64 v) w => of_any v hv.1 hv.2 w)
  have HO1 := hid (fun w => of_any 1 (by decide) (by decide) w)
  have HB := hid (prodL_bp hl)
  clear hc hl h
  unfold wideV at *
  go_enter Tryz.func121, Tryz.ntmps121
  go_wp2_with (first | ((with_reducible apply ld_rowP undW infoW); exact rfl; exact rfl; exact gRow) | ((with_reducible apply st_rowP infoW); exact rfl; exact rfl; exact gRow) | ((with_reducible apply st_rowZ infoW); exact rfl; exact rfl; exact gRow) | (go_at_call 43; (with_reducible refine (HO1.out _).mono ?_); rintro e w1 ⟨rfl, hu1⟩; have hs1 := hu1.size; simp at hs1))
  refine wp_folded (fun wd => Row wd w1.heap.size 33 16 (limb (enc 1)) ∧ Row wd w.heap.size 33 16 (fun _ => 0) ∧ Up w wd) ⟨gRow, gRow, gUp⟩ (fun w0 hD => ?_)
  obtain ⟨hR, hZ, hU⟩ := hD
  go_loopg [9] l.length (fun g ti wr => ∃ k : Nat, k ≤ l.length ∧ l.length - k ≤ g ∧ ti = .int .i64 (k : Nat) ∧ Row wr w1.heap.size 33 16 (limb (enc (prodL (l.take k)))) ∧ Row wr w.heap.size 33 16 (fun _ => 0) ∧ Up w wr)
  case atStart => exact ⟨0, Nat.zero_le _, Nat.le_refl _, rfl, hR, hZ, hU⟩
  case round =>
    clear hR hZ hU
    obtain ⟨k, hk, hkg, rfl, hR, hZ, hU⟩ := hrel
    by_cases hlt : k < l.length
    · have e1 : IntKind.i64.wrap ((k : Int) + 1) = (k : Int) + 1 := IntWalk.i64_in _ (by omega)
      obtain ⟨a1, rfl, hc1⟩ := HC.out _ hU k hlt
      have hz := HL.out k hlt
      have et : l.take (k + 1) = l.take k ++ [zth l k] := by rw [List.take_add_one, zth_get hlt, List.getElem?_eq_getElem hlt]; rfl
      have hp1 : InR (prodL (l.take k)) := inR_bp (by omega) (HB.out k (by omega))
      have hp2 : InR (prodL (l.take k) * zth l k) := by rw [← prodL_snoc, ← et]; exact inR_bp (by omega) (HB.out (k + 1) (by omega))
      have hz2 : InR (zth l k) := inR_bp (k := 1) (by omega) (by unfold I64 at hz; rw [bp_succ, bp_zero]; omega)
      have HM := hid (fun w => mul_z hp1 hz2 w)
      rw [opt_yes hp2] at HM
      have HOz := hid (HO.out (zth l k) hz)
      have HE := hid (show prodL (l.take (k + 1)) = prodL (l.take k) * zth l k by rw [et, prodL_snoc])
      unfold wideV at HM HOz
      generalize zth l k = z at *
      clear hp1 hp2 hz2 et hz
      generalize prodL (l.take k) = P at *
      go_wp2_with fail
      have hlt9 : w.heap.size ≠ w1.heap.size := by omega
      refine opU (S := (fun wq => Row wq w1.heap.size 33 16 (limb (enc P)) ∧ Row wq w.heap.size 33 16 (fun _ => 0) ∧ Below w.heap.size w wq)) (req := (fun j => j != 7)) (fun _ _ h hu => ⟨(h.1).up hu, (h.2.1).up hu, below_up (h.2.2) hu⟩) ⟨gRow, gRow, gUp⟩ (fun wS hSS hSu => ?_)
      have ⟨hS1, hS2, hSB⟩ := hSS
      refine tkT 0 (some 14) rfl hSu hSS ?_ (hy := fun w' hSw => run_ld undW infoW _ rfl _ rfl hSw.1)
      refine tkP 1 (some 15) hSu ?_
      refine tkC 2 (some 16) rfl hSu hSS ?_ (hy := fun w' hSw => (HOz.out _))
      refine tkC 3 (some 17) rfl hSu hSS ?_ (hy := fun w' hSw => (HM.out _))
      refine tkP 4 (some 13) hSu ?_
      refine tkP 5 (some 18) hSu ?_
      refine tkP 6 (some 19) hSu ?_
      refine wpAnyU_one (i := 7) rfl (by kernel_rfl) (by rfl) fun wZ hwZ => ?_
      refine wp_st_rowN infoW rfl _ _ rfl _ rfl rfl ((hS1.up hwZ)) ?_
      refine ⟨fun h => by simp at h, ?_⟩
      try simp only [Act.put, pu1, pu2, pu3]
      refine wpAnyU_done (by kernel_rfl) (fun wF huE => ?_) _
      have hR5 := ((hS1.up hwZ).setRow (limb (enc (P * z)))).up huE
      have hZ5 := ((hS2.up hwZ).row_other (cells 16 (limb (enc (P * z)))) hlt9).up huE
      have hU5 := below_up (below_setRow (below_up hSB hwZ) (show w.heap.size ≤ w1.heap.size by omega) (cells 16 (limb (enc (P * z))))) huE
      go_wp2_with fail
      go_roundg (l.length - (k + 1))
      case measure => omega
      case rel => exact ⟨k + 1, by omega, Nat.le_refl _, rfl, by rw [HE.out]; exact hR5, hZ5, hU5⟩
    · obtain rfl : k = l.length := by omega
      rw [List.take_length] at hR
      clear hlt hk
      go_wp2_with (first | ((with_reducible apply ld_rowP undW infoW); exact rfl; exact rfl; exact gRow) | ((with_reducible apply st_rowP infoW); exact rfl; exact rfl; exact gRow) | ((with_reducible apply st_rowZ infoW); exact rfl; exact rfl; exact gRow))
      exact bodyPost_ret (res1 rfl undW infoW _ _ rfl gRow) rfl ⟨rfl, gUp⟩
theorem plus_sum {a b : Int} {w : World} (ha : InR a) (hb' : InR b) (hab : InR (a + b)) :
    Calls Tryz.prog 120 #[wideV (enc a), wideV (enc b)] w fun r w' => r = .returned (wideV (enc (a + b))) ∧ Up w w' := by
  have HA := hid (fun w => add_z ha hb' w)
  rw [opt_yes hab] at HA
  clear ha hb' hab
  unfold wideV at *
  go_enter Tryz.func120, Tryz.ntmps120
  go_wp2_with (first | ((with_reducible apply ld_rowP undW infoW); exact rfl; exact rfl; exact gRow) | ((with_reducible apply st_rowP infoW); exact rfl; exact rfl; exact gRow) | ((with_reducible apply st_rowZ infoW); exact rfl; exact rfl; exact gRow) | (go_at_call 103; (with_reducible refine (HA.out _).mono ?_); rintro e w1 ⟨rfl, hu⟩; have hs1 := hu.size; simp at hs1))
  exact bodyPost_ret (res1 rfl undW infoW _ _ rfl gRow) rfl ⟨rfl, gUp⟩
theorem leavesR_up {P : Program} {R : Value → World → Prop} {w w' : World} {r : Result Next} {u : Value} (h : r = .ok (.value u) w') (hu : Up w w') (hR : R u w') : LeavesR P R w r := by subst h; exact ⟨hR, hu⟩
def ouC (N : Int) (l : List Int) (x : Int) (h : List Int) : Int := if rt N l && decide ((h.length : Int) = N) then (if (ouL N.toNat l x h).all fit then 0 else 21) else 23
def ouR (N : Int) (l : List Int) (x : Int) (h : List Int) : List Int := if ouC N l x h = 0 then ouL N.toNat l x h else []
def ouN (N : Int) (l : List Int) (x : Int) (h : List Int) : Int := if ouC N l x h = 0 then N else 0
theorem ouL_len (n : Nat) (l : List Int) (x : Int) (h : List Int) : (ouL n l x h).length = l.length := mk_len _ _
theorem ouL_at {n : Nat} {l : List Int} (x : Int) (h : List Int) (hn : n ≤ 8) (hl : l.length = triN n) {i j : Nat} (hij : i ≤ j) (hj : j < n) : zth (ouL n l x h) (pos n i j) = zth l (pos n i j) + x * zth h i * zth h j := by
  unfold ouL
  rw [mk_at (by rw [hl]; exact pos_lt hij hj), prs_at hn hij hj]
theorem fit_i64 {v : Int} (h : fit v = true) : I64 v := by have := of_decide_eq_true h; unfold I64; omega
theorem In64.of_fit {l : List Int} (h : ∀ q, q < l.length → fit (zth l q) = true) : In64 l := fun q hq => fit_i64 (h q hq)
theorem vw_three (w : World) (a b c : Int) : Vw (w.alloc (.cells #[.int .i64 a, .int .i64 b, .int .i64 c] 2)) (.slice (some ⟨w.heap.size, 0, none⟩) 3 3) [a, b, c] := by
  refine ⟨_, 3, rfl, ⟨Nat.le_refl _, fun e => by cases e⟩, fun i hi => ⟨_, rfl, ?_⟩⟩
  rcases i with _ | _ | _ | i
  · simp [zth, Addr.add]
  · simp [zth, Addr.add]
  · simp [zth, Addr.add]
  · simp at hi; omega
theorem ord_len {x y : Nat} (h : nl x < nl y) : x < y := by
  have h1 := lt_bp_nl x
  have h2 := bp_le_nl (show 0 < nl y by omega)
  have h3 := bp_mono (show nl x ≤ nl y - 1 by omega)
  omega
set_option maxHeartbeats 1000000 in
theorem cmp_am {x y : Nat} {va vb : Value} {w : World} (ha : Am w va x) (hb : Am w vb y) (_ : nl x < 1000000) (hy : nl y < 1000000) :
    Calls Tryz.prog 86 #[va, vb] w fun e w' => e = .returned (.int .i64 (ordZ x y)) ∧ Up w w' := by
  obtain ⟨a, ca, rfl, hca1, hca0⟩ := ha.open
  obtain ⟨b, cb, rfl, hcb1, hcb0⟩ := hb.open
  clear ha hb
  rcases Nat.lt_trichotomy (nl x) (nl y) with h | h | h
  · have e : ordZ x y = -1 := by unfold ordZ; rw [if_pos (ord_len h)]
    rw [e]
    have d0 : ((nl x : Int) != (nl y : Nat)) = true := by simp; omega
    have d1 : decide ((nl x : Int) < (nl y : Nat)) = true := decide_eq_true (by omega)
    clear e hca0 hcb0
    generalize nl x = p at *
    generalize nl y = q at *
    go_enter Tryz.func86, Tryz.ntmps86
    go_wp2
    go_ret
    exact ⟨rfl, gUp⟩
  · have H := hid h
    go_enter Tryz.func86, Tryz.ntmps86
    rw [h]
    clear h
    go_wp2
    go_loopw [5] (fun i wr => ∃ m : Nat, m ≤ nl y ∧ i = .int .i64 ((m : Int) - 1) ∧ (∀ i, m ≤ i → i < nl y → limb x i = limb y i) ∧ Below w.heap.size w wr)
      (fun i _ => (intOf i + 1).toNat)
    case atStart => exact ⟨nl y, Nat.le_refl _, rfl, fun i h1 h2 => by omega, Below.refl _ _⟩
    case round =>
      obtain ⟨m, hm, rfl, hgx, hB⟩ := hrel
      have Hgx := hid hgx
      clear hgx
      by_cases hlt : 0 < m
      · obtain ⟨k, rfl⟩ : ∃ k, m = k + 1 := ⟨m - 1, by omega⟩
        have e : (((k + 1 : Nat) : Int) - 1) = (k : Int) := by omega
        rw [e]
        clear e
        have hHy := H.out
        obtain ⟨ba, rfl, hba, hca⟩ := hca0 k (by omega)
        obtain ⟨bb, rfl, hbb, hcb⟩ := hcb0 k (by omega)
        clear hHy
        have hcx := hca wr hB
        have hcy := hcb wr hB
        have hl1 := limb_lt x k
        have hl2 := limb_lt y k
        have sx : sumL (limb x) (nl y) = x := by rw [← H.out]; exact sum_nl x
        have sy := sum_nl y
        have h1 : limb x k < limb y k → ordZ x y = -1 := fun h => by
          have := sumL_lt_of (fun i _ => limb_lt x i) (show k < nl y by omega) (fun j h1 h2 => Hgx.out j (by omega) h2) h
          rw [sx, sy] at this
          simp [ordZ, this]
        have h2 : limb y k < limb x k → ordZ x y = 1 := fun h => by
          have := sumL_lt_of (fun i _ => limb_lt y i) (show k < nl y by omega) (fun j h1 h2 => (Hgx.out j (by omega) h2).symm) h
          rw [sx, sy] at this
          have h3 : ¬ x < y := by omega
          simp [ordZ, this, h3]
        have hE : limb x k = limb y k → ∀ i, k ≤ i → i < nl y → limb x i = limb y i := fun h i h1 h2 => by
          by_cases e : i = k
          · rw [e]; exact h
          · exact Hgx.out i (by omega) h2
        have H1 := hid h1
        have H2 := hid h2
        have HE := hid hE
        clear sx sy h1 h2 hE hca hcb hca0 hcb0
        generalize limb x k = lx at *
        generalize limb y k = ly at *
        rcases Nat.lt_trichotomy lx ly with h | h | h
        · have d0 : ((lx : Int) != ly) = true := by simp; omega
          have d1 : decide ((lx : Int) < ly) = true := decide_eq_true (by omega)
          go_wp2
          go_quiet (fail)
          go_wp2
          go_quiet (fail)
          go_wp2
          go_ret
          exact ⟨ret_int (H1.out h).symm, below_drewN (below_drewN hB _) _⟩
        · have HF := hid (HE.out h)
          have d0 : ((lx : Int) != ly) = false := by simp; omega
          clear HE
          go_wp2
          go_quiet (fail)
          go_wp2
          go_roundw
          case rel => exact ⟨k, by omega, by go_num, HF.out, below_drewN hB _⟩
          case measure => simp [intOf] <;> omega
        · have d0 : ((lx : Int) != ly) = true := by simp; omega
          have d1 : decide ((lx : Int) < ly) = false := decide_eq_false (by omega)
          go_wp2
          go_quiet (fail)
          go_wp2
          go_quiet (fail)
          go_wp2
          go_ret
          exact ⟨ret_int (H2.out h).symm, below_drewN (below_drewN hB _) _⟩
      · obtain rfl : m = 0 := by omega
        have h0 : x = y := by
          rw [← sum_nl x, ← sum_nl y, H.out]
          exact sumL_congr fun i hi => Hgx.out i (by omega) hi
        have H0 := hid h0
        clear h0
        go_wp2
        go_ret
        exact ⟨ret_int (by simp [ordZ, H0.out]), hB⟩
  · have e : ordZ x y = 1 := by
      have := ord_len h
      unfold ordZ
      rw [if_neg (by omega)]
      first | rw [if_neg (by omega)] | rw [if_pos (by omega)]
    rw [e]
    have d0 : ((nl x : Int) != (nl y : Nat)) = true := by simp; omega
    have d1 : decide ((nl x : Int) < (nl y : Nat)) = false := decide_eq_false (by omega)
    clear e hca0 hcb0
    generalize nl x = p at *
    generalize nl y = q at *
    go_enter Tryz.func86, Tryz.ntmps86
    go_wp2
    go_ret
    exact ⟨rfl, gUp⟩
theorem Am.setRow {w : World} {v : Value} {x g : Nat} {C D : Array Value} (h : Am w v x) (hg : Blk w g 46 C) : Am (w.setRow g D) v x := by
  obtain ⟨a, c, h1, h2, h3⟩ := h
  refine ⟨a, c, h1, h2, fun h0 => ?_⟩
  obtain ⟨b, E, h4, h6, h7⟩ := h3 h0
  refine ⟨b, E, h4, h6.row_other D ?_, h7⟩
  rintro rfl
  unfold Blk at *
  rw [hg] at h6
  simp at h6
theorem Big.setRow {w : World} {v : Value} {z : Int} {g : Nat} {C D : Array Value} (h : Big w v z) (hg : Blk w g 46 C) : Big (w.setRow g D) v z := by
  obtain ⟨a, c, h1, h2⟩ := h
  exact ⟨a, c, h1, h2.setRow hg⟩
theorem Big.shape {w : World} {v : Value} {z : Int} (h : Big w v z) : ∃ b a n c, v = .agg #[.bool b, .slice a n c] := by
  obtain ⟨a, c, h1, _⟩ := h
  exact ⟨_, a, _, c, h1⟩
theorem pm_int (z : Int) : z = pm (decide (z < 0)) z.natAbs := by
  by_cases h : z < 0 <;> simp [pm, h] <;> omega
theorem pm_same (p : Bool) (X Y : Nat) : pm p X + pm p Y = pm p (X + Y) := by cases p <;> simp [pm] <;> omega
theorem pm_more {p : Bool} {X Y : Nat} (h : Y ≤ X) : pm p X + pm (!p) Y = pm p (X - Y) := by cases p <;> simp [pm] <;> omega
theorem pm_less {p : Bool} {X Y : Nat} (h : X < Y) : pm p X + pm (!p) Y = pm (!p) (Y - X) := by cases p <;> simp [pm] <;> omega
set_option maxHeartbeats 1000000 in
theorem add_pm (p q : Bool) (X Y : Nat) (a b : Option Addr) (ca cb : Nat) (w : World) (hA : Am w (.slice a (nl X) ca) X) (hB : Am w (.slice b (nl Y) cb) Y) (hx : nl X < 50000) (hy : nl Y < 50000) :
    Calls Tryz.prog 72 #[.agg #[.bool p, .slice a (nl X) ca], .agg #[.bool q, .slice b (nl Y) cb]] w fun e w' => Up w w' ∧ ∃ v, e = .returned v ∧ Big w' v (pm p X + pm q Y) := by
  by_cases hpq : p = q
  · subst hpq
    rw [pm_same]
    go_enter Tryz.func72, Tryz.ntmps72
    go_wp2
    refine opU (S := (fun wq => Blk wq (w.heap.size + 1 + 1) 46 #[.bool false, .slice none 0 0] ∧ wq.cell? ⟨w.heap.size, 0, none⟩ = some (.bool p) ∧ wq.cell? ⟨w.heap.size, 1, none⟩ = some (.slice a (nl X) ca) ∧ wq.cell? ⟨w.heap.size + 1, 1, none⟩ = some (.slice b (nl Y) cb) ∧ Below w.heap.size w wq)) (req := (fun j => j != 8)) (fun _ _ h hu => ⟨(h.1).up hu, hu.cell (h.2.1), hu.cell (h.2.2.1), hu.cell (h.2.2.2.1), below_up (h.2.2.2.2) hu⟩) ⟨gBlk, (by first | assumption | (apply Blk.cell; exact gBlk; exact rfl)), (by first | assumption | (apply Blk.cell; exact gBlk; exact rfl)), (by first | assumption | (apply Blk.cell; exact gBlk; exact rfl)), gUp⟩ (fun wS hSS hSu => ?_)
    have ⟨hS1, hS2, hS3, hS4, hSB⟩ := hSS
    refine tkP 0 (some 10) hSu ?_
    refine tkT 1 (some 11) rfl hSu hSS ?_ (hy := fun w' hSw => by ((try dsimp only at hSw); (try obtain ⟨_, _, _, _, _⟩ := hSw); go_simp; (try exact rfl)))
    refine tkP 2 (some 12) hSu ?_
    refine tkT 3 (some 13) rfl hSu hSS ?_ (hy := fun w' hSw => by ((try dsimp only at hSw); (try obtain ⟨_, _, _, _, _⟩ := hSw); go_simp; (try exact rfl)))
    refine tkP 4 (some 14) hSu ?_
    refine tkT 5 (some 15) rfl hSu hSS ?_ (hy := fun w' hSw => by ((try dsimp only at hSw); (try obtain ⟨_, _, _, _, _⟩ := hSw); go_simp; (try exact rfl)))
    refine wpAnyU_callE (i := 6) (d := (some 16)) rfl rfl (by kernel_rfl) (by rfl) hSu.out (fun w' => by go_simp) (fun w' hw' => plus_am (hA.up (below_up hSB hw')) (hB.up (below_up hSB hw')) (by omega) (by omega)) fun vP wP hwP hRP => ?_
    try simp only [Act.put, pu1, pu2, pu3]
    obtain ⟨a1, c1, rfl⟩ := hRP.shape
    refine wpAnyU_callE (i := 7) (d := (some 17)) rfl rfl (by kernel_rfl) (by rfl) hSu.out (fun w' => by go_simp) (fun w' hw' => callE_of (made_any p a1 (nl (X + Y)) c1 w')) fun vM wM hwM hRM => ?_
    try simp only [Act.put, pu1, pu2, pu3]
    subst hRM
    refine wpAnyU_one (i := 8) rfl (by kernel_rfl) (by rfl) fun w2 hw2 => ?_
    have gK := ((hS1.up hwP).up hwM).up hw2
    refine wp_stB rfl rfl rfl rfl gK rfl rfl (one2 _ _ _ _) ?_
    refine ⟨fun h => by simp at h, ?_⟩
    try simp only [Act.put, pu1, pu2, pu3]
    refine wpAnyU_done (by kernel_rfl) (fun wF huE => ?_) _
    have gR := (gK.setRow #[.bool (p && decide (0 < nl (X + Y))), .slice a1 (nl (X + Y)) c1]).up huE
    have gA := (((hRP.up hwM).up hw2).setRow (D := #[.bool (p && decide (0 < nl (X + Y))), .slice a1 (nl (X + Y)) c1]) gK).up huE
    have gB := below_up (below_setRow (below_up (below_up (below_up hSB hwP) hwM) hw2) (show w.heap.size ≤ w.heap.size + 1 + 1 by omega) #[.bool (p && decide (0 < nl (X + Y))), .slice a1 (nl (X + Y)) c1]) huE
    have gBig := big_made p gA
    clear gK hRP hwP hwM hw2 huE hS1 hS2 hS3 hS4 hSB hSS gA
    go_wp2
    exact bodyPost_ret (resB rfl rfl gR rfl) rfl ⟨gB, _, rfl, gBig⟩
  · have hq : q = !p := by cases p <;> cases q <;> simp_all
    subst hq
    have d0 : (p == !p) = false := by cases p <;> rfl
    clear hpq
    by_cases hc : Y ≤ X
    · rw [pm_more hc]
      have d1 : decide (0 ≤ ordZ X Y) = true := by
        unfold ordZ
        rw [if_neg (by omega)]
        split <;> simp
      go_enter Tryz.func72, Tryz.ntmps72
      go_wp2_with (first | (go_at_call 86; (with_reducible refine (cmp_am (hA.up gUp) (hB.up gUp) (by omega) (by omega)).mono ?_); rintro e wC ⟨rfl, huC⟩))
      refine opU (S := (fun wq => Blk wq (w.heap.size + 1 + 1) 46 #[.bool false, .slice none 0 0] ∧ wq.cell? ⟨w.heap.size, 0, none⟩ = some (.bool p) ∧ wq.cell? ⟨w.heap.size, 1, none⟩ = some (.slice a (nl X) ca) ∧ wq.cell? ⟨w.heap.size + 1, 1, none⟩ = some (.slice b (nl Y) cb) ∧ Below w.heap.size w wq)) (req := (fun j => j != 8)) (fun _ _ h hu => ⟨(h.1).up hu, hu.cell (h.2.1), hu.cell (h.2.2.1), hu.cell (h.2.2.2.1), below_up (h.2.2.2.2) hu⟩) ⟨gBlk, (by first | assumption | (apply Blk.cell; exact gBlk; exact rfl)), (by first | assumption | (apply Blk.cell; exact gBlk; exact rfl)), (by first | assumption | (apply Blk.cell; exact gBlk; exact rfl)), gUp⟩ (fun wS hSS hSu => ?_)
      have ⟨hS1, hS2, hS3, hS4, hSB⟩ := hSS
      refine tkP 0 (some 24) hSu ?_
      refine tkT 1 (some 25) rfl hSu hSS ?_ (hy := fun w' hSw => by ((try dsimp only at hSw); (try obtain ⟨_, _, _, _, _⟩ := hSw); go_simp; (try exact rfl)))
      refine tkP 2 (some 26) hSu ?_
      refine tkT 3 (some 27) rfl hSu hSS ?_ (hy := fun w' hSw => by ((try dsimp only at hSw); (try obtain ⟨_, _, _, _, _⟩ := hSw); go_simp; (try exact rfl)))
      refine tkP 4 (some 28) hSu ?_
      refine tkT 5 (some 29) rfl hSu hSS ?_ (hy := fun w' hSw => by ((try dsimp only at hSw); (try obtain ⟨_, _, _, _, _⟩ := hSw); go_simp; (try exact rfl)))
      refine wpAnyU_callE (i := 6) (d := (some 30)) rfl rfl (by kernel_rfl) (by rfl) hSu.out (fun w' => by go_simp) (fun w' hw' => minus_am (hA.up (below_up hSB hw')) (hB.up (below_up hSB hw')) (by omega) hc) fun vP wP hwP hRP => ?_
      try simp only [Act.put, pu1, pu2, pu3]
      obtain ⟨a1, c1, rfl⟩ := hRP.shape
      refine wpAnyU_callE (i := 7) (d := (some 31)) rfl rfl (by kernel_rfl) (by rfl) hSu.out (fun w' => by go_simp) (fun w' hw' => callE_of (made_any p a1 (nl (X - Y)) c1 w')) fun vM wM hwM hRM => ?_
      try simp only [Act.put, pu1, pu2, pu3]
      subst hRM
      refine wpAnyU_one (i := 8) rfl (by kernel_rfl) (by rfl) fun w2 hw2 => ?_
      have gK := ((hS1.up hwP).up hwM).up hw2
      refine wp_stB rfl rfl rfl rfl gK rfl rfl (one2 _ _ _ _) ?_
      refine ⟨fun h => by simp at h, ?_⟩
      try simp only [Act.put, pu1, pu2, pu3]
      refine wpAnyU_done (by kernel_rfl) (fun wF huE => ?_) _
      have gR := (gK.setRow #[.bool (p && decide (0 < nl (X - Y))), .slice a1 (nl (X - Y)) c1]).up huE
      have gA := (((hRP.up hwM).up hw2).setRow (D := #[.bool (p && decide (0 < nl (X - Y))), .slice a1 (nl (X - Y)) c1]) gK).up huE
      have gB := below_up (below_setRow (below_up (below_up (below_up hSB hwP) hwM) hw2) (show w.heap.size ≤ w.heap.size + 1 + 1 by omega) #[.bool (p && decide (0 < nl (X - Y))), .slice a1 (nl (X - Y)) c1]) huE
      have gBig := big_made p gA
      clear gK hRP hwP hwM hw2 huE hS1 hS2 hS3 hS4 hSB hSS gA
      go_wp2
      exact bodyPost_ret (resB rfl rfl gR rfl) rfl ⟨gB, _, rfl, gBig⟩
    · rw [pm_less (by omega)]
      have d1 : decide (0 ≤ ordZ X Y) = false := by
        unfold ordZ
        rw [if_pos (by omega)]
        rfl
      go_enter Tryz.func72, Tryz.ntmps72
      go_wp2_with (first | (go_at_call 86; (with_reducible refine (cmp_am (hA.up gUp) (hB.up gUp) (by omega) (by omega)).mono ?_); rintro e wC ⟨rfl, huC⟩))
      refine opU (S := (fun wq => Blk wq (w.heap.size + 1 + 1) 46 #[.bool false, .slice none 0 0] ∧ wq.cell? ⟨w.heap.size + 1, 0, none⟩ = some (.bool (!p)) ∧ wq.cell? ⟨w.heap.size + 1, 1, none⟩ = some (.slice b (nl Y) cb) ∧ wq.cell? ⟨w.heap.size, 1, none⟩ = some (.slice a (nl X) ca) ∧ Below w.heap.size w wq)) (req := (fun j => j != 8)) (fun _ _ h hu => ⟨(h.1).up hu, hu.cell (h.2.1), hu.cell (h.2.2.1), hu.cell (h.2.2.2.1), below_up (h.2.2.2.2) hu⟩) ⟨gBlk, (by first | assumption | (apply Blk.cell; exact gBlk; exact rfl)), (by first | assumption | (apply Blk.cell; exact gBlk; exact rfl)), (by first | assumption | (apply Blk.cell; exact gBlk; exact rfl)), gUp⟩ (fun wS hSS hSu => ?_)
      have ⟨hS1, hS2, hS3, hS4, hSB⟩ := hSS
      refine tkP 0 (some 32) hSu ?_
      refine tkT 1 (some 33) rfl hSu hSS ?_ (hy := fun w' hSw => by ((try dsimp only at hSw); (try obtain ⟨_, _, _, _, _⟩ := hSw); go_simp; (try exact rfl)))
      refine tkP 2 (some 34) hSu ?_
      refine tkT 3 (some 35) rfl hSu hSS ?_ (hy := fun w' hSw => by ((try dsimp only at hSw); (try obtain ⟨_, _, _, _, _⟩ := hSw); go_simp; (try exact rfl)))
      refine tkP 4 (some 36) hSu ?_
      refine tkT 5 (some 37) rfl hSu hSS ?_ (hy := fun w' hSw => by ((try dsimp only at hSw); (try obtain ⟨_, _, _, _, _⟩ := hSw); go_simp; (try exact rfl)))
      refine wpAnyU_callE (i := 6) (d := (some 38)) rfl rfl (by kernel_rfl) (by rfl) hSu.out (fun w' => by go_simp) (fun w' hw' => minus_am (hB.up (below_up hSB hw')) (hA.up (below_up hSB hw')) (by omega) (by omega)) fun vP wP hwP hRP => ?_
      try simp only [Act.put, pu1, pu2, pu3]
      obtain ⟨a1, c1, rfl⟩ := hRP.shape
      refine wpAnyU_callE (i := 7) (d := (some 39)) rfl rfl (by kernel_rfl) (by rfl) hSu.out (fun w' => by go_simp) (fun w' hw' => callE_of (made_any (!p) a1 (nl (Y - X)) c1 w')) fun vM wM hwM hRM => ?_
      try simp only [Act.put, pu1, pu2, pu3]
      subst hRM
      refine wpAnyU_one (i := 8) rfl (by kernel_rfl) (by rfl) fun w2 hw2 => ?_
      have gK := ((hS1.up hwP).up hwM).up hw2
      refine wp_stB rfl rfl rfl rfl gK rfl rfl (one2 _ _ _ _) ?_
      refine ⟨fun h => by simp at h, ?_⟩
      try simp only [Act.put, pu1, pu2, pu3]
      refine wpAnyU_done (by kernel_rfl) (fun wF huE => ?_) _
      have gR := (gK.setRow #[.bool ((!p) && decide (0 < nl (Y - X))), .slice a1 (nl (Y - X)) c1]).up huE
      have gA := (((hRP.up hwM).up hw2).setRow (D := #[.bool ((!p) && decide (0 < nl (Y - X))), .slice a1 (nl (Y - X)) c1]) gK).up huE
      have gB := below_up (below_setRow (below_up (below_up (below_up hSB hwP) hwM) hw2) (show w.heap.size ≤ w.heap.size + 1 + 1 by omega) #[.bool ((!p) && decide (0 < nl (Y - X))), .slice a1 (nl (Y - X)) c1]) huE
      have gBig := big_made (!p) gA
      clear gK hRP hwP hwM hw2 huE hS1 hS2 hS3 hS4 hSB hSS gA
      go_wp2
      exact bodyPost_ret (resB rfl rfl gR rfl) rfl ⟨gB, _, rfl, gBig⟩
theorem add_big {x y : Int} {va vb : Value} {w : World} (ha : Big w va x) (hb : Big w vb y) (hx : nl x.natAbs < 50000) (hy : nl y.natAbs < 50000) :
    Calls Tryz.prog 72 #[va, vb] w fun e w' => Up w w' ∧ ∃ v, e = .returned v ∧ Big w' v (x + y) := by
  obtain ⟨a, ca, rfl, hA⟩ := ha
  obtain ⟨b, cb, rfl, hB⟩ := hb
  have h := add_pm (decide (x < 0)) (decide (y < 0)) x.natAbs y.natAbs a b ca cb w hA hB hx hy
  rw [← pm_int, ← pm_int] at h
  exact h
theorem mul64_up (x y : Nat) (hx : x < 18446744073709551616) (hy : y < 18446744073709551616) {h l : Nat} (eh : h = x * y / 18446744073709551616) (el : l = x * y % 18446744073709551616) (w : World) :
    Calls Tryz.prog 91 #[.int .u64 x, .int .u64 y] w fun e w' => e = .returned (.tuple #[.int .u64 (h : Nat), .int .u64 (l : Nat)]) ∧ Up w w' := by
  refine (Tryz.bits_Mul64 x y hx hy w).mono ?_
  rintro e w' ⟨rfl, rfl⟩
  exact ⟨by rw [eh, el], Up.refl _⟩
set_option maxHeartbeats 2000000 in
theorem times_am {x y : Nat} {va vb : Value} {w : World} (ha : Am w va x) (hb : Am w vb y) (hx : nl x < 100000) (hy : nl y < 100000) :
    Calls Tryz.prog 59 #[va, vb] w fun e w' => Up w w' ∧ ∃ v, e = .returned v ∧ Am w' v (x * y) := by
  obtain ⟨a, ca, rfl, hca1, hca0⟩ := ha.open
  obtain ⟨b, cb, rfl, hcb1, hcb0⟩ := hb.open
  have HSX := hid (sum_nl x)
  have HSY := hid (sum_nl y)
  clear ha hb
  generalize nl x = n at *
  generalize nl y = m at *
  go_enter Tryz.func59, Tryz.ntmps59
  go_wp2_with (first | ((with_reducible apply mkP (n := n + m)); exact rfl; (first | rfl | omega); omega))
  go_loopw [6] (fun ti wr => ∃ (i : Nat) (S : Nat → Nat), i ≤ n ∧ ti = .int .i64 (i : Nat) ∧ (∀ j, j < n + m → S j < 18446744073709551616) ∧ sumL S (n + m) = sumL (limb x) i * sumL (limb y) m ∧ (∀ j, i + m ≤ j → j < n + m → S j = 0) ∧ Row wr w.heap.size 31 (n + m) S ∧ Below w.heap.size w wr)
    (fun ti _ => n - (intOf ti).toNat)
  case atStart => exact ⟨0, fun _ => 0, by omega, rfl, fun _ _ => by simp, by rw [sumL_zero, Nat.zero_mul]; exact sumL_zeros _, fun _ _ _ => rfl, row_newc _ _ _ rfl, (by repeat (first | assumption | (with_reducible exact Below.refl _ _) | ((with_reducible apply bl_alloc); (focus (first | exact Nat.le_refl _ | (simp; done) | (simp; omega) | omega)))))⟩
  case round =>
    obtain ⟨i, S, hi, rfl, hSb, hsum, hz, hM, hB⟩ := hrel
    have HSb := hid hSb
    have Hsum := hid hsum
    have Hz := hid hz
    clear hSb hsum hz
    obtain ⟨wo, rfl⟩ : ∃ wo : World, wo = wr := ⟨_, rfl⟩
    by_cases hlt : i < n
    · obtain ⟨ba, rfl, hba, hca⟩ := hca0 i hlt
      go_wp2
      go_loopw [7, 8] (fun tc tk wi => ∃ (k c : Nat) (S' : Nat → Nat), k ≤ m ∧ tk = .int .i64 (k : Nat) ∧ tc = .int .u64 (c : Nat) ∧ c < 18446744073709551616 ∧ (∀ j, j < n + m → S' j < 18446744073709551616) ∧
          sumL S' (n + m) + c * (bp i * bp k) = sumL (limb x) i * sumL (limb y) m + limb x i * bp i * sumL (limb y) k ∧ (∀ j, i + m ≤ j → j < n + m → S' j = 0) ∧ Row wi w.heap.size 31 (n + m) S' ∧ Below w.heap.size w wi)
        (fun _ tk _ => m - (intOf tk).toNat)
      case atStart => exact ⟨0, 0, S, by omega, rfl, rfl, by omega, HSb.out, by rw [sumL_zero, Hsum.out]; omega, Hz.out, hM, hB⟩
      case round =>
        clear hM hB HSb Hsum Hz
        obtain ⟨k, c, S', hk, rfl, rfl, hc, hSb, hsum, hz, hM, hB⟩ := hrel
        have HSb := hid hSb
        have Hsum := hid hsum
        have Hz := hid hz
        clear hSb hsum hz
        by_cases hkt : k < m
        · obtain ⟨bb, rfl, hbb, hcb⟩ := hcb0 k hkt
          have hcx := hca _ hB
          have hcy := hcb _ hB
          obtain ⟨h, eh⟩ : ∃ h, h = limb x i * limb y k / 18446744073709551616 := ⟨_, rfl⟩
          obtain ⟨l, el⟩ : ∃ l, l = limb x i * limb y k % 18446744073709551616 := ⟨_, rfl⟩
          have hlx' := limb_lt x i
          have hly' := limb_lt y k
          have HM := hid (fun w => mul64_up _ _ hlx' hly' eh el w)
          have hsk := HSb.out (i + k) (by omega)
          obtain ⟨r1, c1, HA, e1, f1⟩ : ∃ r c : Nat, (∀ w, (callFunc 88 #[.int .u64 (l : Nat), .int .u64 (S' (i + k) : Nat), .int .u64 0]).run Tryz.prog w = .ok (.value (.tuple #[.int .u64 (r : Nat), .int .u64 (c : Nat)])) w) ∧
            r = (l + S' (i + k) + 0) % 18446744073709551616 ∧ c = (l + S' (i + k) + 0) / 18446744073709551616 := ⟨_, _, run_add l (S' (i + k)) 0 (by omega), rfl, rfl⟩
          obtain ⟨r2, c2, HA2, e2, f2⟩ : ∃ r cc : Nat, (∀ w, (callFunc 88 #[.int .u64 (r1 : Nat), .int .u64 (c : Nat), .int .u64 0]).run Tryz.prog w = .ok (.value (.tuple #[.int .u64 (r : Nat), .int .u64 (cc : Nat)])) w) ∧
            r = (r1 + c + 0) % 18446744073709551616 ∧ cc = (r1 + c + 0) / 18446744073709551616 := ⟨_, _, run_add r1 c 0 (by omega), rfl, rfl⟩
          obtain ⟨g1, g2, g3⟩ := step_arith hlx' hly' hsk hc eh el e1 f1 e2 f2
          obtain ⟨hr, hc', hrc⟩ := step_bound hlx' hly' hsk hc g2 g3
          have Hrc := hid hrc
          obtain ⟨h1, eh1⟩ : ∃ h1, h1 = h + c1 := ⟨_, rfl⟩
          obtain ⟨h2, eh2⟩ : ∃ h2, h2 = h1 + c2 := ⟨_, rfl⟩
          have w1 : IntKind.u64.wrap ((h : Int) + c1) = (h1 : Nat) := by rw [IntKind.wrap_u64]; omega
          have w2 : IntKind.u64.wrap ((h1 : Int) + c2) = (h2 : Nat) := by rw [IntKind.wrap_u64]; omega
          have hh2 : h2 < 18446744073709551616 := by omega
          have Hh2 := hid (show h + c1 + c2 = h2 by omega)
          clear e1 f1 e2 f2 g1 g2 g3 hrc eh el eh1 eh2 hc'
          go_wp2
          refine opU (S := (fun wq => Row wq w.heap.size 31 (n + m) S' ∧ wq.cell? ⟨ba, i, none⟩ = some (.int .u64 (limb x i : Nat)) ∧ wq.cell? ⟨bb, k, none⟩ = some (.int .u64 (limb y k : Nat)) ∧ Below w.heap.size w wq)) (req := (fun _ => true)) (fun _ _ h hu => ⟨(h.1).up hu, hu.cell (h.2.1), hu.cell (h.2.2.1), below_up (h.2.2.2) hu⟩) ⟨gRow, (by first | assumption | (apply Blk.cell; exact gBlk; exact rfl)), (by first | assumption | (apply Blk.cell; exact gBlk; exact rfl)), gUp⟩ (fun wS hSS hSu => ?_)
          have ⟨hS1, hS2, hS3, hSB⟩ := hSS
          clear hcx hcy hM hB
          refine tkP 0 (some 31) hSu ?_
          refine tkP 1 (some 32) hSu ?_
          refine tkP 2 (some 33) hSu ?_
          refine tkT 3 (some 34) rfl hSu hSS ?_ (hy := fun w' hSw => by ((try dsimp only at hSw); (try obtain ⟨_, _, _, _⟩ := hSw); go_simp; (try exact rfl)))
          refine tkP 4 (some 35) hSu ?_
          refine tkP 5 (some 36) hSu ?_
          refine tkP 6 (some 37) hSu ?_
          refine tkT 7 (some 38) rfl hSu hSS ?_ (hy := fun w' hSw => by ((try dsimp only at hSw); (try obtain ⟨_, _, _, _⟩ := hSw); go_simp; (try exact rfl)))
          refine tkC 8 (some 39) rfl hSu hSS ?_ (hy := fun w' hSw => (HM.out _))
          refine tkP 9 (some 30) hSu ?_
          refine tkP 10 (some 40) hSu ?_
          refine tkP 11 (some 41) hSu ?_
          refine tkP 12 (some 9) hSu ?_
          refine tkP 13 (some 10) hSu ?_
          refine wpAnyU_done (by kernel_rfl) (fun wE huE => ?_) _
          have ⟨hS1, hS2, hS3, hSB⟩ := hSu.out _ _ hSS huE
          clear huE hSS
          have E2 : ((i : Int) + (k : Int)).toNat = i + k := by omega
          have E3 : ((n + m : Nat) : Int) = (n : Int) + m := by omega
          have hik : (i : Int) + (k : Int) < (n : Int) + m := by omega
          have hcs := hS1.cell (i + k) (by omega)
          have hfs := hS1.frozen (i + k)
          have gM := hS1.set (i + k) r2
          have gB := hSB.setCell (p := ⟨w.heap.size, i + k, none⟩) (Nat.le_refl _) (.int .u64 (r2 : Nat))
          clear hS1 hS2 hS3 hSB
          go_wp2
          go_roundw
          case rel =>
            refine ⟨k + 1, h2, upd S' (i + k) r2, by omega, by go_num, rfl, hh2, upd_lt HSb.out hr, ?_, fun j h1 h2 => by rw [upd_other _ _ _ (by omega)]; exact Hz.out j h1 h2, gM, gB⟩
            have hu := sumL_upd S' r2 (show i + k < n + m by omega)
            have hr' := Hrc.out
            rw [bp_add] at hu
            rw [Hh2.out] at hr'
            rw [bp_succ, sumL_succ (limb y) k, ← Nat.mul_assoc (bp i)]
            exact times_step Hsum.out hu hr'
          case measure => simp [intOf] <;> omega
        · obtain rfl : k = m := by omega
          have E2 : ((i : Int) + (k : Int)).toNat = i + k := by omega
          have E3 : ((n + k : Nat) : Int) = (n : Int) + k := by omega
          have hik : (i : Int) + (k : Int) < (n : Int) + k := by omega
          have hcs := hM.cell (i + k) (by omega)
          have hfs := hM.frozen (i + k)
          have gM := hM.set (i + k) c
          have gB := hB.setCell (p := ⟨w.heap.size, i + k, none⟩) (Nat.le_refl _) (.int .u64 (c : Nat))
          clear hM hB
          go_wp2
          go_roundw
          case rel =>
            refine ⟨i + 1, upd S' (i + k) c, by omega, by go_num, upd_lt HSb.out hc, ?_, fun j h1 h2 => by rw [upd_other _ _ _ (by omega)]; exact Hz.out j (by omega) h2, gM, gB⟩
            have h2 := sumL_upd S' c (show i + k < n + k by omega)
            have h3 := Hz.out (i + k) (Nat.le_refl _) (by omega)
            have h4 := Hsum.out
            rw [bp_add, h3, Nat.zero_mul, Nat.add_zero] at h2
            rw [h2, sumL_succ (limb x) i, Nat.add_mul]
            exact h4
          case measure => simp [intOf] <;> omega
    · obtain rfl : i = n := by omega
      have he := Hsum.out
      rw [HSX.out, HSY.out] at he
      have ht := trim_row w.heap.size (i + m) (i + m) (i + m) S wo hM (Nat.le_refl _) (Nat.le_refl _) (by omega)
      have hres := am_row (c := i + m) hM (Nat.le_refl _) (Nat.le_refl _) HSb.out
      rw [he] at hres
      have HT := hid ht
      have HR := hid hres
      clear ht hres he HSb Hsum Hz hM
      go_wp2_with (go_at_call 74; (with_reducible refine HT.out.mono ?_); rintro e w' ⟨rfl, hu⟩)
      go_ret
      exact ⟨below_up hB hu, _, rfl, HR.out.up hu⟩
theorem pm_times (p q : Bool) (X Y : Nat) : pm p X * pm q Y = pm (p != q) (X * Y) := by
  cases p <;> cases q <;> simp [pm, Int.natCast_mul, Int.neg_mul, Int.mul_neg]
set_option maxHeartbeats 1000000 in
theorem sub_big {x y : Int} {va vb : Value} {w : World} (ha : Big w va x) (hb : Big w vb y) (hx : nl x.natAbs < 50000) (hy : nl y.natAbs < 50000) :
    Calls Tryz.prog 90 #[va, vb] w fun e w' => Up w w' ∧ ∃ v, e = .returned v ∧ Big w' v (x - y) := by
  obtain ⟨p, a, n, ca, rfl⟩ := ha.shape
  obtain ⟨q, b, m, cb, hq, hn⟩ := big_neg hb
  subst hq
  have hA := hid ha
  have hN := hid hn
  rw [Int.sub_eq_add_neg]
  have hy' : nl (-y).natAbs < 50000 := by rw [Int.natAbs_neg]; exact hy
  clear ha hb hn
  go_enter Tryz.func90, Tryz.ntmps90
  go_wp2
  refine opU (S := (fun wq => Blk wq (w.heap.size + 1 + 1) 46 #[.bool false, .slice none 0 0] ∧ Blk wq w.heap.size 46 #[.bool p, .slice a n ca] ∧ Blk wq (w.heap.size + 1) 46 #[.bool q, .slice b m cb] ∧ Below w.heap.size w wq)) (req := (fun j => j != 4)) (fun _ _ h hu => ⟨(h.1).up hu, (h.2.1).up hu, (h.2.2.1).up hu, below_up (h.2.2.2) hu⟩) ⟨gBlk, gBlk, gBlk, gUp⟩ (fun wS hSS hSu => ?_)
  have ⟨hS1, hS2, hS3, hSB⟩ := hSS
  refine tkT 0 (some 5) rfl hSu hSS ?_ (hy := fun w' hSw => run_ldB rfl rfl hSw.2.1 rfl)
  refine tkT 1 (some 6) rfl hSu hSS ?_ (hy := fun w' hSw => run_ldB rfl rfl hSw.2.2.1 rfl)
  refine tkC 2 (some 7) rfl hSu hSS ?_ (hy := fun w' hSw => (neg_any q b m cb w'))
  refine wpAnyU_callE (i := 3) (d := (some 8)) rfl rfl (by kernel_rfl) (by rfl) hSu.out (fun w' => by go_simp) (fun w' hw' => add_big (hA.out.up (below_up hSB hw')) (hN.out.up (below_up hSB hw')) hx hy') fun vA wA hwA hRA => ?_
  try simp only [Act.put, pu1, pu2, pu3]
  obtain ⟨b1, a1, n1, c1, rfl⟩ := hRA.shape
  refine wpAnyU_one (i := 4) rfl (by kernel_rfl) (by rfl) fun w2 hw2 => ?_
  have gK := (hS1.up hwA).up hw2
  refine wp_stB rfl rfl rfl rfl gK rfl rfl (one2 _ _ _ _) ?_
  refine ⟨fun h => by simp at h, ?_⟩
  try simp only [Act.put, pu1, pu2, pu3]
  refine wpAnyU_done (by kernel_rfl) (fun wF huE => ?_) _
  have gR := (gK.setRow #[.bool b1, .slice a1 n1 c1]).up huE
  have gA := ((hRA.up hw2).setRow (D := #[.bool b1, .slice a1 n1 c1]) gK).up huE
  have gB := below_up (below_setRow (below_up (below_up hSB hwA) hw2) (show w.heap.size ≤ w.heap.size + 1 + 1 by omega) #[.bool b1, .slice a1 n1 c1]) huE
  clear gK hRA hwA hw2 huE hS1 hS2 hS3 hSB hSS
  go_wp2
  exact bodyPost_ret (resB rfl rfl gR rfl) rfl ⟨gB, _, rfl, gA⟩
set_option maxHeartbeats 1000000 in
theorem mul_pm (p q : Bool) (X Y : Nat) (a b : Option Addr) (ca cb : Nat) (w : World) (hA : Am w (.slice a (nl X) ca) X) (hB : Am w (.slice b (nl Y) cb) Y) (hx : nl X < 50000) (hy : nl Y < 50000) :
    Calls Tryz.prog 23 #[.agg #[.bool p, .slice a (nl X) ca], .agg #[.bool q, .slice b (nl Y) cb]] w fun e w' => Up w w' ∧ ∃ v, e = .returned v ∧ Big w' v (pm p X * pm q Y) := by
  rw [pm_times]
  go_enter Tryz.func23, Tryz.ntmps23
  go_wp2
  refine opU (S := (fun wq => Blk wq (w.heap.size + 1 + 1) 46 #[.bool false, .slice none 0 0] ∧ wq.cell? ⟨w.heap.size, 0, none⟩ = some (.bool p) ∧ wq.cell? ⟨w.heap.size + 1, 0, none⟩ = some (.bool q) ∧ wq.cell? ⟨w.heap.size, 1, none⟩ = some (.slice a (nl X) ca) ∧ wq.cell? ⟨w.heap.size + 1, 1, none⟩ = some (.slice b (nl Y) cb) ∧ Below w.heap.size w wq)) (req := (fun j => j != 11)) (fun _ _ h hu => ⟨(h.1).up hu, hu.cell (h.2.1), hu.cell (h.2.2.1), hu.cell (h.2.2.2.1), hu.cell (h.2.2.2.2.1), below_up (h.2.2.2.2.2) hu⟩) ⟨gBlk, (by first | assumption | (apply Blk.cell; exact gBlk; exact rfl)), (by first | assumption | (apply Blk.cell; exact gBlk; exact rfl)), (by first | assumption | (apply Blk.cell; exact gBlk; exact rfl)), (by first | assumption | (apply Blk.cell; exact gBlk; exact rfl)), gUp⟩ (fun wS hSS hSu => ?_)
  have ⟨hS1, hS2, hS3, hS4, hS5, hSB⟩ := hSS
  refine tkP 0 (some 5) hSu ?_
  refine tkT 1 (some 6) rfl hSu hSS ?_ (hy := fun w' hSw => by ((try dsimp only at hSw); (try obtain ⟨_, _, _, _, _, _⟩ := hSw); go_simp; (try exact rfl)))
  refine tkP 2 (some 7) hSu ?_
  refine tkT 3 (some 8) rfl hSu hSS ?_ (hy := fun w' hSw => by ((try dsimp only at hSw); (try obtain ⟨_, _, _, _, _, _⟩ := hSw); go_simp; (try exact rfl)))
  refine tkP 4 (some 9) hSu ?_
  refine tkP 5 (some 10) hSu ?_
  refine tkT 6 (some 11) rfl hSu hSS ?_ (hy := fun w' hSw => by ((try dsimp only at hSw); (try obtain ⟨_, _, _, _, _, _⟩ := hSw); go_simp; (try exact rfl)))
  refine tkP 7 (some 12) hSu ?_
  refine tkT 8 (some 13) rfl hSu hSS ?_ (hy := fun w' hSw => by ((try dsimp only at hSw); (try obtain ⟨_, _, _, _, _, _⟩ := hSw); go_simp; (try exact rfl)))
  refine wpAnyU_callE (i := 9) (d := (some 14)) rfl rfl (by kernel_rfl) (by rfl) hSu.out (fun w' => by go_simp) (fun w' hw' => times_am (hA.up (below_up hSB hw')) (hB.up (below_up hSB hw')) (by omega) (by omega)) fun vP wP hwP hRP => ?_
  try simp only [Act.put, pu1, pu2, pu3]
  obtain ⟨a1, c1, rfl⟩ := hRP.shape
  refine wpAnyU_callE (i := 10) (d := (some 15)) rfl rfl (by kernel_rfl) (by rfl) hSu.out (fun w' => by go_simp) (fun w' hw' => callE_of (made_any (!(p == q)) a1 (nl (X * Y)) c1 w')) fun vM wM hwM hRM => ?_
  try simp only [Act.put, pu1, pu2, pu3]
  subst hRM
  refine wpAnyU_one (i := 11) rfl (by kernel_rfl) (by rfl) fun w2 hw2 => ?_
  have gK := ((hS1.up hwP).up hwM).up hw2
  refine wp_stB rfl rfl rfl rfl gK rfl rfl (one2 _ _ _ _) ?_
  refine ⟨fun h => by simp at h, ?_⟩
  try simp only [Act.put, pu1, pu2, pu3]
  refine wpAnyU_done (by kernel_rfl) (fun wF huE => ?_) _
  have gR := (gK.setRow #[.bool ((!(p == q)) && decide (0 < nl (X * Y))), .slice a1 (nl (X * Y)) c1]).up huE
  have gA := (((hRP.up hwM).up hw2).setRow (D := #[.bool ((!(p == q)) && decide (0 < nl (X * Y))), .slice a1 (nl (X * Y)) c1]) gK).up huE
  have gB := below_up (below_setRow (below_up (below_up (below_up hSB hwP) hwM) hw2) (show w.heap.size ≤ w.heap.size + 1 + 1 by omega) #[.bool ((!(p == q)) && decide (0 < nl (X * Y))), .slice a1 (nl (X * Y)) c1]) huE
  have gBig := big_made (!(p == q)) gA
  clear gK hRP hwP hwM hw2 huE hS1 hS2 hS3 hS4 hS5 hSB hSS gA
  go_wp2
  exact bodyPost_ret (resB rfl rfl gR rfl) rfl ⟨gB, _, rfl, gBig⟩
theorem mul_big {x y : Int} {va vb : Value} {w : World} (ha : Big w va x) (hb : Big w vb y) (hx : nl x.natAbs < 50000) (hy : nl y.natAbs < 50000) :
    Calls Tryz.prog 23 #[va, vb] w fun e w' => Up w w' ∧ ∃ v, e = .returned v ∧ Big w' v (x * y) := by
  obtain ⟨a, ca, rfl, hA⟩ := ha
  obtain ⟨b, cb, rfl, hB⟩ := hb
  have h := mul_pm (decide (x < 0)) (decide (y < 0)) x.natAbs y.natAbs a b ca cb w hA hB hx hy
  rw [← pm_int, ← pm_int] at h
  exact h
theorem row_one {w : World} {b X : Nat} (h : b = w.heap.size) : Row (w.alloc (.cells #[.int .u64 (X : Nat)] 31)) b 31 1 (fun _ => X) :=
  row_new _ 1 _ _ h (by unfold cells; rfl)
theorem am_one {w : World} {b X : Nat} (hX : X < 18446744073709551616) (h0 : 0 < X) (hR : Row w b 31 1 (fun _ => X)) : Am w (.slice (some ⟨b, 0, none⟩) 1 1) X ∧ nl X = 1 := by
  have h := am_row (n := 1) (c := 1) hR (Nat.le_refl _) (Nat.le_refl _) (fun _ _ => hX)
  have e1 : sumL (fun _ => X) 1 = X := by rw [sumL_succ, sumL_zero, bp_zero]; omega
  have e2 : lenL (fun _ => X) 1 = 1 := by rw [lenL_succ, if_neg (by omega)]
  have e3 := nl_sum (S := fun _ => X) (n := 1) (fun _ _ => hX)
  rw [e1, e2] at h e3
  exact ⟨h, e3⟩
theorem of_big (v : Int) (h1 : -9223372036854775808 ≤ v) (h2 : v < 9223372036854775808) (w : World) :
    Calls Tryz.prog 37 #[.int .i64 v] w fun e w' => Up w w' ∧ ∃ u, e = .returned u ∧ Big w' u v := by
  obtain ⟨X, hX⟩ : ∃ X, X = v.natAbs := ⟨_, rfl⟩
  by_cases h0 : v < 0
  · have d0 : decide (v < 0) = true := decide_eq_true h0
    have e1 : IntKind.i64.wrap (v + 1) = v + 1 := IntWalk.i64_in _ (by omega)
    have e2 : IntKind.i64.wrap (-(v + 1)) = -(v + 1) := IntWalk.i64_in _ (by omega)
    obtain ⟨Y, hY⟩ : ∃ Y : Nat, (Y : Int) = -(v + 1) := ⟨(-(v + 1)).toNat, by omega⟩
    have e3 : IntKind.u64.wrap (-(v + 1)) = (Y : Nat) := by rw [IntKind.wrap_u64]; omega
    have e4 : IntKind.u64.wrap ((Y : Int) + 1) = (X : Nat) := by rw [IntKind.wrap_u64]; omega
    have HM := hid (fun a n c w => made_any true a n c w)
    have HX := hid hX
    have HX64 := hid (show X < 18446744073709551616 ∧ 0 < X by omega)
    clear hX hY
    go_enter Tryz.func37, Tryz.ntmps37
    go_wp2_with (first | ((with_reducible apply stB_P); exact rfl; exact rfl; exact gBlk; exact rfl; exact rfl; exact one2 _ _ _ _) | (go_at_call 58; (with_reducible refine (HM.out _ _ _ _).mono ?_); rintro e wM ⟨rfl, hu⟩))
    have hR : Row ((w.alloc (Obj.cells #[Value.bool false, Value.slice none 0 0] 46)).alloc (Obj.cells #[Value.int IntKind.u64 (X : Nat)] 31)) (w.heap.size + 1) 31 1 (fun _ => X) := row_one (by simp)
    have hA := am_one HX64.out.1 HX64.out.2 (hR.up hu)
    have hB := big_made true (hA.2.symm ▸ hA.1)
    have hv : pm true X = v := by have := HX.out; simp only [pm, if_true]; omega
    rw [hv, hA.2, show (true && decide (0 < 1)) = true from rfl] at hB
    have hK : Blk wM w.heap.size 46 #[.bool false, .slice none 0 0] := gBlk
    exact bodyPost_ret (resB rfl rfl (hK.setRow _) rfl) rfl ⟨gUp, _, rfl, hB.setRow hK⟩
  · have d0 : decide (v < 0) = false := decide_eq_false h0
    have e3 : IntKind.u64.wrap v = (X : Nat) := by rw [IntKind.wrap_u64]; omega
    have HM := hid (fun a n c w => made_any false a n c w)
    have HX := hid hX
    have HX64 := hid (show X < 18446744073709551616 by omega)
    clear hX
    have eS : sumL (fun _ => X) 1 = X := by rw [sumL_succ, sumL_zero, bp_zero]; omega
    have eL : lenL (fun _ => X) 1 = nl X := by
      have e3 := nl_sum (S := fun _ => X) (n := 1) (fun _ _ => HX64.out)
      rw [eS] at e3
      exact e3.symm
    have hR : Row ((w.alloc (Obj.cells #[Value.bool false, Value.slice none 0 0] 46)).alloc (Obj.cells #[Value.int IntKind.u64 (X : Nat)] 31)) (w.heap.size + 1) 31 1 (fun _ => X) := row_one (by simp)
    have hT := trim_row (w.heap.size + 1) 1 1 1 (fun _ => X) _ hR (Nat.le_refl _) (Nat.le_refl _) (by decide)
    have hA := am_row (c := 1) hR (Nat.le_refl _) (Nat.le_refl _) (fun _ _ => HX64.out)
    rw [eL] at hT hA
    rw [eS] at hA
    have HT := hid hT
    have HA := hid hA
    clear hT hA hR eL eS
    go_enter Tryz.func37, Tryz.ntmps37
    go_wp2_with (first | ((with_reducible apply stB_P); exact rfl; exact rfl; exact gBlk; exact rfl; exact rfl; exact one2 _ _ _ _) | (go_at_call 58; (with_reducible refine (HM.out _ _ _ _).mono ?_); rintro e wM ⟨rfl, hu⟩) | (go_at_call 74; (with_reducible refine HT.out.mono ?_); rintro e wT ⟨rfl, hv⟩))
    have hB := big_made false ((HA.out.up hv).up hu)
    have hv' : pm false X = v := by have := HX.out; simp only [pm, Bool.false_eq_true, if_false]; omega
    rw [hv', Bool.false_and] at hB
    have hK : Blk wM w.heap.size 46 #[.bool false, .slice none 0 0] := gBlk
    exact bodyPost_ret (resB rfl rfl (hK.setRow _) rfl) rfl ⟨gUp, _, rfl, hB.setRow hK⟩
theorem sgn_cmp {x y : Int} : sgn (x - y) = cmpZ x y := by
  unfold sgn cmpZ
  split <;> split <;> (try split) <;> (try split) <;> first | rfl | omega
theorem cmp_big {x y : Int} {va vb : Value} {w : World} (ha : Big w va x) (hb : Big w vb y) (hx : nl x.natAbs < 50000) (hy : nl y.natAbs < 50000) :
    Calls Tryz.prog 101 #[va, vb] w fun e w' => e = .returned (.int .i64 (cmpZ x y)) ∧ Up w w' := by
  obtain ⟨p, a, n, ca, rfl⟩ := ha.shape
  obtain ⟨q, b, m, cb, rfl⟩ := hb.shape
  have hA := hid ha
  have hB := hid hb
  clear ha hb
  go_enter Tryz.func101, Tryz.ntmps101
  go_wp2_with (first | ((with_reducible apply ldB_P); exact rfl; exact rfl; exact gBlk; exact rfl) | (go_at_call 90; (with_reducible refine (sub_big (hA.out.up gUp) (hB.out.up gUp) hx hy).mono ?_); rintro e wS ⟨huS, v, rfl, hv⟩; obtain ⟨a1, c1, rfl, -⟩ := hv) | (go_at_call 52; (with_reducible refine (bsign_any _ _ _ _ _).mono ?_); rintro e wT ⟨rfl, huT⟩))
  go_ret
  exact ⟨ret_int (by rw [sgn_big, sgn_cmp]), gUp⟩
theorem nl_one {X : Nat} (h : nl X = 1) : X < 18446744073709551616 ∧ 0 < X ∧ limb X 0 = X := by
  have h1 := lt_bp_nl X
  rw [h, bp_succ, bp_zero] at h1
  have h2 := nl_pos_iff.1 (show 0 < nl X by omega)
  refine ⟨by omega, h2, ?_⟩
  rw [limb0, Nat.mod_eq_of_lt (by omega)]
theorem nl_two {X : Nat} (h : 1 < nl X) : 18446744073709551616 ≤ X := by
  have h1 := bp_le_nl (show 0 < nl X by omega)
  have h2 := bp_mono (show 1 ≤ nl X - 1 by omega)
  rw [bp_succ, bp_zero] at h2
  omega
set_option maxHeartbeats 1000000 in
theorem int64_big {z : Int} {v : Value} {w : World} (h : Big w v z) (hz : nl z.natAbs < 50000) :
    Calls Tryz.prog 69 #[v] w fun e w' => e = .returned (i64V z) ∧ Up w w' := by
  obtain ⟨a, c, rfl, hA⟩ := h
  obtain ⟨a', c', he, hc, hcell⟩ := hA.open
  obtain ⟨rfl, -, rfl⟩ : a = a' ∧ True ∧ c = c' := by simpa using he
  clear he hA
  have hpm := pm_int z
  obtain ⟨p, hp⟩ : ∃ p, decide (z < 0) = p := ⟨_, rfl⟩
  obtain ⟨X, hX⟩ : ∃ X, z.natAbs = X := ⟨_, rfl⟩
  rw [hp, hX] at hpm
  rw [hp, hX]
  rw [hX] at hc hcell hz
  rw [hpm]
  clear hpm hp hX
  rcases Nat.lt_trichotomy (nl X) 1 with hn | hn | hn
  · have h0 : nl X = 0 := by omega
    have hX0 : X = 0 := by
      rcases Nat.eq_zero_or_pos X with h | h
      · exact h
      · have := nl_pos h; omega
    have e : i64V (pm p X) = .tuple #[.int .i64 0, .bool true] := by
      subst hX0
      rw [i64V_yes (by cases p <;> simp [pm])]
      cases p <;> simp [pm]
    rw [e, h0]
    clear hcell e
    go_enter Tryz.func69, Tryz.ntmps69
    go_wp2
    go_ret2
    exact ⟨rfl, gUp⟩
  · obtain ⟨h64, hpos, hl⟩ := nl_one hn
    obtain ⟨b, rfl, hb, hcb⟩ := hcell 0 (by omega)
    rw [hl] at hcb
    rw [hn] at hc ⊢
    clear hcell
    have hcW : ((w.alloc (Obj.cells #[Value.bool p, Value.slice (some { block := b, off := 0 }) 1 c] 46))).cell? ⟨b, 0, none⟩ = some (.int .u64 (X : Nat)) := hcb _ gUp
    clear hcb hl hn
    by_cases h1 : 9223372036854775808 < X
    · have e : i64V (pm p X) = .tuple #[.int .i64 0, .bool false] := i64V_no (by cases p <;> simp only [pm, Bool.false_eq_true, if_false, if_true] <;> omega)
      rw [e]
      have d1 : decide ((9223372036854775808 : Int) < X) = true := decide_eq_true (by omega)
      clear e
      go_enter Tryz.func69, Tryz.ntmps69
      go_wp2
      go_ret2
      exact ⟨rfl, gUp⟩
    · have d1 : decide ((9223372036854775808 : Int) < X) = false := decide_eq_false (by omega)
      cases p with
      | true =>
        have e : i64V (pm true X) = .tuple #[.int .i64 (-(X : Int)), .bool true] := i64V_yes (by simp only [pm, if_true]; omega)
        rw [e]
        obtain ⟨Y, hY⟩ : ∃ Y : Nat, Y = X - 1 := ⟨_, rfl⟩
        obtain ⟨Z, hZ⟩ : ∃ Z : Int, Z = -(X : Int) := ⟨_, rfl⟩
        have e1 : IntKind.u64.wrap ((X : Int) - 1) = (Y : Nat) := by rw [IntKind.wrap_u64]; omega
        have e2 : IntKind.i64.wrap (Y : Int) = (Y : Nat) := IntWalk.i64_in _ (by omega)
        have e3 : IntKind.i64.wrap (-(Y : Int)) = -(Y : Int) := IntWalk.i64_in _ (by omega)
        have e4 : IntKind.i64.wrap (-(Y : Int) - 1) = Z := by rw [IntKind.wrap_i64]; omega
        rw [← hZ]
        have hY1 : Y < 9223372036854775808 := by omega
        clear e hY hZ
        go_enter Tryz.func69, Tryz.ntmps69
        go_wp2
        go_ret2
        exact ⟨rfl, gUp⟩
      | false =>
        by_cases h2 : X = 9223372036854775808
        · subst h2
          have e : i64V (pm false 9223372036854775808) = .tuple #[.int .i64 0, .bool false] := i64V_no (by simp [pm])
          rw [e]
          clear e
          go_enter Tryz.func69, Tryz.ntmps69
          go_wp2
          go_ret2
          exact ⟨rfl, gUp⟩
        · have e : i64V (pm false X) = .tuple #[.int .i64 (X : Nat), .bool true] := i64V_yes (by simp only [pm, Bool.false_eq_true, if_false]; omega)
          rw [e]
          have d2 : ((X : Int) == 9223372036854775808) = false := by simp; omega
          have e2 : IntKind.i64.wrap (X : Int) = (X : Nat) := IntWalk.i64_in _ (by omega)
          clear e
          go_enter Tryz.func69, Tryz.ntmps69
          go_wp2
          go_ret2
          exact ⟨rfl, gUp⟩
  · have h2 := nl_two hn
    have e : i64V (pm p X) = .tuple #[.int .i64 0, .bool false] := i64V_no (by cases p <;> simp only [pm, Bool.false_eq_true, if_false, if_true] <;> omega)
    rw [e]
    clear hcell e
    generalize nl X = n at *
    have d1 : decide ((1 : Int) < (n : Nat)) = true := decide_eq_true (by omega)
    have d0 : ((n : Int) == 0) = false := by simp; omega
    go_enter Tryz.func69, Tryz.ntmps69
    go_wp2
    go_ret2
    exact ⟨rfl, gUp⟩
theorem big_set {w : World} {v : Value} {z : Int} {g : Nat} {C D : Array Value} (hg : Blk w g 46 C) (h : Big w v z) : Big (w.setRow g D) v z := h.setRow hg
theorem big_alloc {w : World} {v : Value} {z : Int} {o : Obj} (h : Big w v z) : Big (w.alloc o) v z := h.up (Up.alloc _ _)
theorem big_amount {w : World} {b : Bool} {a : Option Addr} {n c : Nat} {z : Int} (h : Big w (.agg #[.bool b, .slice a n c]) z) : Big w (.agg #[.bool false, .slice a n c]) ((z.natAbs : Nat) : Int) := by
  obtain ⟨a', c', h1, h2⟩ := h
  obtain ⟨-, rfl, rfl, rfl⟩ : b = decide (z < 0) ∧ a = a' ∧ n = nl z.natAbs ∧ c = c' := by simpa using h1
  exact ⟨_, _, by rw [decide_eq_false (by omega)]; rfl, h2⟩
theorem amount_any (b : Bool) (a : Option Addr) (n c : Nat) (w : World) :
    Calls Tryz.prog 102 #[.agg #[.bool b, .slice a n c]] w fun e w' => e = .returned (.agg #[.bool false, .slice a n c]) ∧ Up w w' := by
  have hm := fun w => made_any false a n c w
  rw [Bool.false_and] at hm
  have HM := hid hm
  clear hm
  go_enter Tryz.func102, Tryz.ntmps102
  go_wp2_with (first | ((with_reducible apply stB_P); exact rfl; exact rfl; exact gBlk; exact rfl; exact rfl; exact one2 _ _ _ _) | (go_at_call 58; refine (HM.out _).mono ?_; rintro e w' ⟨rfl, hu⟩))
  exact bodyPost_ret (resB rfl rfl gBlk rfl) rfl ⟨rfl, gUp⟩
theorem fits_gen {z M : Int} {va : Value} {w : World} (ha : Big w va z) (hz : nl z.natAbs < 50000) (h1 : -9223372036854775808 ≤ M) (h2 : M < 9223372036854775808) (hm : nl M.natAbs < 50000) :
    Calls Tryz.prog 68 #[va, .int .i64 M] w fun e w' => e = .returned (.bool (decide (cmpZ ((z.natAbs : Nat) : Int) M ≤ 0))) ∧ Up w w' := by
  obtain ⟨p, a, n, c, rfl⟩ := ha.shape
  have hA := hid (big_amount ha)
  have HO := hid (fun w => of_big M h1 h2 w)
  have HN : Hid (nl ((z.natAbs : Nat) : Int).natAbs < 50000) := hid hz
  have HM := hid hm
  obtain ⟨o, ho⟩ : ∃ o, decide (cmpZ ((z.natAbs : Nat) : Int) M ≤ 0) = o := ⟨_, rfl⟩
  rw [ho]
  clear ha h1 h2 hz hm
  go_enter Tryz.func68, Tryz.ntmps68
  go_wp2_with (first | ((with_reducible apply ldB_P); exact rfl; exact rfl; exact gBlk; exact rfl) | (go_at_call 102; (with_reducible refine (amount_any _ _ _ _ _).mono ?_); rintro e wA ⟨rfl, huA⟩) | (go_at_call 37; (with_reducible refine (HO.out _).mono ?_); rintro e wO ⟨huO, u, rfl, hBO⟩; obtain ⟨qo, ao, no, co, rfl⟩ := hBO.shape) | (go_at_call 101; (with_reducible refine (cmp_big (hA.out.up gUp) hBO HN.out HM.out).mono ?_); rintro e wC ⟨rfl, huC⟩))
  go_ret
  exact ⟨rfl, gUp⟩
theorem nl_bp {z : Int} {k : Nat} (hk : k < 50000) (h : z.natAbs < bp k) : nl z.natAbs < 50000 := by have := nl_le h; omega
theorem i64_bp {z : Int} (h : I64 z) : z.natAbs < bp 1 := by unfold I64 at h; rw [bp_succ, bp_zero]; omega
theorem rfits_any {z : Int} {va : Value} {w : World} (ha : Big w va z) (hz : nl z.natAbs < 50000) :
    Calls Tryz.prog 68 #[va, .int .i64 1073741824] w fun e w' => e = .returned (.bool (fit z)) ∧ Up w w' := by
  have h := fits_gen (M := 1073741824) ha hz (by omega) (by omega) (nl_bp (k := 1) (by omega) (by rw [bp_succ, bp_zero]; decide))
  have he : decide (cmpZ ((z.natAbs : Nat) : Int) 1073741824 ≤ 0) = fit z := by
    unfold fit
    rw [decide_eq_decide]
    unfold cmpZ
    split
    · omega
    · split <;> omega
  rw [he] at h
  exact h
theorem rat_ent2 {v : Value} {n : Nat} {l : List Int} {i j : Nat} {w : World} (h : Sm w v n l) (n8 : n ≤ 8) (hln : l.length = triN n) (hij : i ≤ j) (hj : j < n) :
    Calls Tryz.prog 22 #[v, .int .i64 (i : Nat), .int .i64 (j : Nat)] w fun r w' => r = .returned (.int .i64 (zth l (pos n i j))) ∧ Up w w' := by
  have hkl : pos n i j < l.length := by rw [hln]; exact pos_lt hij hj
  have HX := hid (fun w => (pos_idx hij hj) ▸ rat_any (n : Int) (i : Int) (j : Int) (by omega) (by omega) (by omega) (by omega) (by omega) w)
  obtain ⟨k, hk⟩ : ∃ k, pos n i j = k := ⟨_, rfl⟩
  rw [hk] at HX hkl ⊢
  obtain ⟨s, rfl, hV, hN, hl, hlen⟩ := h
  obtain ⟨p, cap, rfl, hcap, hc⟩ := hV
  obtain ⟨ad, rfl, hcell⟩ := hc k hkl
  have hcell' := (Up.alloc w (.cells #[.int .i64 (n : Int), .slice (some ad) l.length cap] 24)).cellEq hcell
  clear hc hl hk hcell hln
  go_enter Tryz.func22, Tryz.ntmps22
  go_wp2_with fail
  go_quiet ((go_at_call 57; exact Calls.quiet_of_same (HX.out _)))
  go_wp2_with fail
  go_ret
  exact ⟨rfl, up_alloc_drewN _ _ _⟩
def diC (N : Int) (l : List Int) (x : Int) : Int := if rt N l then (if (diL N.toNat l x).all fit then 0 else 21) else 23
def diR (N : Int) (l : List Int) (x : Int) : List Int := if diC N l x = 0 then diL N.toNat l x else []
def diN (N : Int) (l : List Int) (x : Int) : Int := if diC N l x = 0 then N else 0
theorem diL_len (n : Nat) (l : List Int) (x : Int) : (diL n l x).length = l.length := mk_len _ _
theorem diL_at {n : Nat} {l : List Int} (x : Int) (hn : n ≤ 8) (hl : l.length = triN n) {i j : Nat} (hij : i ≤ j) (hj : j < n) : zth (diL n l x) (pos n i j) = if i = j then zth l (pos n i j) + x else zth l (pos n i j) := by
  unfold diL
  rw [mk_at (by rw [hl]; exact pos_lt hij hj), prs_at hn hij hj]
theorem diL_row {n : Nat} {l : List Int} (x : Int) (hn : n ≤ 8) (hl : l.length = triN n) {i q : Nat} (hi : i < n) (h1 : pos n i i + 1 ≤ q) (h2 : q < pos n (i + 1) (i + 1)) : zth (diL n l x) q = zth l q := by
  have hr := pos_row hi
  obtain ⟨j, rfl, hj1, hj2⟩ : ∃ j, q = pos n i j ∧ i < j ∧ j < n := by
    refine ⟨i + (q - pos n i i), ?_, by omega, ?_⟩ <;> (unfold pos at *; omega)
  rw [diL_at x hn hl (by omega) hj2, if_neg (by omega)]
theorem undWs : Tryz.prog.underlying 38 = some (.slice 33) := by kernel_rfl
theorem infoWs : (Tryz.prog.info? 33).map (fun i => (i.zero.map (·.cells.size), i.size, i.bytes)) = some (some 16, 16, 128) := by kernel_rfl
theorem undRs : Tryz.prog.underlying 92 = some (.slice 38) := by kernel_rfl
theorem infoRs : (Tryz.prog.info? 38).map (fun i => (i.zero, i.size, i.bytes)) = some (some (.slice none 0 0), 1, 24) := by kernel_rfl
def wc (z : Int) : List Value := (cells 16 (limb (enc z))).toList
def wcs (l : List Int) : List Value := l.flatMap wc
theorem wc_len (z : Int) : (wc z).length = 16 := by unfold wc; rw [Array.length_toList, cells_size]
theorem wc_one (z : Int) : ∀ u ∈ wc z, u.oneCell' = true := fun u hu => (Array.all_eq_true_iff_forall_mem.1 (cells_one 16 (limb (enc z)))) u (by unfold wc at hu; simpa using hu)
theorem wcs_nil : wcs [] = [] := rfl
theorem wcs_cons (z : Int) (l : List Int) : wcs (z :: l) = wc z ++ wcs l := rfl
theorem wcs_append (l m : List Int) : wcs (l ++ m) = wcs l ++ wcs m := by unfold wcs; rw [List.flatMap_append]
theorem wcs_len (l : List Int) : (wcs l).length = l.length * 16 := by
  induction l with
  | nil => rfl
  | cons z l ih => rw [wcs_cons, List.length_append, wc_len, ih, List.length_cons]; omega
theorem wcs_one {l : List Int} : ∀ u ∈ wcs l, u.oneCell' = true := fun u hu => by
  obtain ⟨z, _, h⟩ := List.mem_flatMap.1 hu
  exact wc_one z u h
theorem zth_split {l : List Int} {i : Nat} (h : i < l.length) : l = l.take i ++ zth l i :: l.drop (i + 1) := by
  rw [zth_get h, ← List.drop_eq_getElem_cons h, List.take_append_drop]
theorem wcs_take_len {l : List Int} {i : Nat} (h : i ≤ l.length) : (wcs (l.take i)).length = i * 16 := by rw [wcs_len, List.length_take]; omega
theorem wcs_split {l : List Int} {i : Nat} (h : i < l.length) : wcs l = wcs (l.take i) ++ (wc (zth l i) ++ wcs (l.drop (i + 1))) := by
  have e := congrArg wcs (zth_split h)
  rw [wcs_append, wcs_cons] at e
  exact e
theorem wcs_mid {l : List Int} {i j : Nat} (h : i < l.length) (hj : j < 16) : (wcs l)[i * 16 + j]? = (wc (zth l i))[j]? := by
  have h1 := wcs_take_len (l := l) (i := i) (by omega)
  rw [wcs_split h, List.getElem?_append_right (by omega), h1, show i * 16 + j - i * 16 = j by omega, List.getElem?_append_left (by rw [wc_len]; exact hj)]
theorem wcs_set {l : List Int} {i : Nat} (h : i < l.length) (z : Int) : (wcs l).take (i * 16) ++ wc z ++ (wcs l).drop (i * 16 + 16) = wcs (l.set i z) := by
  have h1 := wcs_take_len (l := l) (i := i) (by omega)
  rw [List.set_eq_take_append_cons_drop, if_pos h, wcs_append, wcs_cons, wcs_split h, ← h1, List.take_left' rfl, ← List.drop_drop, List.drop_left' rfl, List.drop_left' (by rw [wc_len])]
  rw [List.append_assoc]
theorem wcs_drop {l : List Int} {i : Nat} (h : i ≤ l.length) : (wcs l).drop (i * 16) = wcs (l.drop i) := by
  have h1 := wcs_take_len h
  have e := congrArg wcs (List.take_append_drop i l)
  rw [wcs_append] at e
  rw [← e, ← h1, List.drop_left' rfl]
def OwnW (w : World) (base : Nat) (v : Value) (l : List Int) : Prop := w.ownsRow base 33 16 v l.length (wcs l)
theorem OwnW.up {w w' : World} {base : Nat} {v : Value} {l : List Int} (hu : Up w w') (h : OwnW w base v l) : OwnW w' base v l := World.ownsRow.up h hu
theorem OwnW.nil (w : World) (base : Nat) : OwnW w base (.slice none 0 0) [] := World.ownsRow_nil _ _ _ _
theorem OwnW.slice {w : World} {base : Nat} {v : Value} {l : List Int} (h : OwnW w base v l) : ∃ p c, v = .slice p l.length c := by
  obtain ⟨_, ⟨rfl, h0⟩ | ⟨g, cap, cur, rfl, _⟩⟩ := h
  · exact ⟨none, 0, by rw [h0]⟩
  · exact ⟨_, cap, rfl⟩
def Wv (w : World) (v : Value) (l : List Int) : Prop :=
  (l = [] ∧ ∃ p c, v = .slice p 0 c) ∨ ∃ g cap C, v = .slice (some ⟨g, 0, none⟩) l.length cap ∧ l.length ≤ cap ∧ Blk w g 33 C ∧ C.toList.take (l.length * 16) = wcs l
theorem Wv.up {w w' : World} (hu : Up w w') {v : Value} {l : List Int} (h : Wv w v l) : Wv w' v l := by
  rcases h with h | ⟨g, cap, C, h1, h2, h3, h4⟩
  · exact .inl h
  · exact .inr ⟨g, cap, C, h1, h2, h3.up hu, h4⟩
theorem OwnW.wv {w : World} {base : Nat} {v : Value} {l : List Int} (h : OwnW w base v l) : Wv w v l := by
  obtain ⟨_, ⟨rfl, h0⟩ | ⟨g, cap, cur, rfl, _, hB, hc, _, _, ht⟩⟩ := h
  · exact .inl ⟨List.length_eq_zero_iff.1 h0, _, _, rfl⟩
  · exact .inr ⟨g, cap, cur, rfl, hc, hB, ht⟩
theorem Wv.slice {w : World} {v : Value} {l : List Int} (h : Wv w v l) : ∃ p c, v = .slice p l.length c := by
  rcases h with ⟨rfl, p, c, rfl⟩ | ⟨g, cap, C, rfl, _⟩
  · exact ⟨p, c, rfl⟩
  · exact ⟨_, cap, rfl⟩
theorem Wv.open {w : World} {v : Value} {l : List Int} (h : Wv w v l) (h0 : 0 < l.length) :
    ∃ g cap C, v = .slice (some ⟨g, 0, none⟩) l.length cap ∧ l.length ≤ cap ∧ Blk w g 33 C ∧ C.toList.take (l.length * 16) = wcs l := by
  rcases h with ⟨rfl, _⟩ | h
  · exact absurd h0 (by decide)
  · exact h
theorem wv_range {w : World} {g : Nat} {C : Array Value} {l : List Int} (hB : Blk w g 33 C) (ht : C.toList.take (l.length * 16) = wcs l) {i : Nat} (hi : i < l.length) : w.rangeAt g (i * 16) (wc (zth l i)) := by
  intro j v hv
  have hj : j < 16 := by have := (List.getElem?_eq_some_iff.1 hv).1; rw [wc_len] at this; exact this
  refine hB.cell _ ?_
  rw [← Array.getElem?_toList, ← List.getElem?_take_of_lt (show i * 16 + j < l.length * 16 by omega), ht, wcs_mid hi hj]
  exact hv
section
variable {a : Act} {w : World} {g off : Nat} {z : Int}
theorem run_ldW {o : Oper} {ev : Operand → Value} {x : Operand} (ho : o.op = .load 33 x) (hx : ev x = .pointer (some ⟨g, off, none⟩)) (hC : w.rangeAt g off (wc z)) :
    (execOp ev o).run Tryz.prog w = .ok (.value (.agg (cells 16 (limb (enc z))))) w := by
  unfold execOp
  simp only [ho, hx, Instr.loadAt, Instr.sureAddr, Sem.run_bind, Sem.run_pure, Result.andThen_ok, run_loadVar_mid w g off _ (wc z) _ hC undW rfl (by rw [infoW, wc_len])]
  unfold wc
  simp
theorem ldW_P {ops : Array Oper} {rest : List Oper} {Q : Exit → Act → World → Prop} {d : Option Tmp} {s : Tmp} {ty : TypeId} {pos : String} {af : Array Edge} {gd : Option (Nat × Bool)} (hw : Region.wanted { dst := d, op := .load 33 (.tmp s), type := ty, pos := pos, after := af, guard := gd } (yielded ops a.tmps) = true) (hx : a.eval (.tmp s) = .pointer (some ⟨g, off, none⟩))
    (hC : w.rangeAt g off (wc z)) (h : wpList Tryz.prog ops Q rest (a.put d (.agg (cells 16 (limb (enc z))))) w) : wpList Tryz.prog ops Q ({ dst := d, op := .load 33 (.tmp s), type := ty, pos := pos, after := af, guard := gd } :: rest) a w :=
  wpList_run hw (run_ldW rfl hx hC) h
def splW (C : Array Value) (off : Nat) (z : Int) : Array Value := (C.toList.take off ++ wc z ++ C.toList.drop (off + 16)).toArray
theorem run_svW {C : Array Value} (hB : Blk w g 33 C) (hl : off + 16 ≤ C.size) :
    (storeVar 33 ⟨g, off, none⟩ (wideV (enc z))).run Tryz.prog w = .ok () (w.setRow g (splW C off z)) := by
  have hs := run_storeCells_at Tryz.prog g off 33 (wc z) 0 C w hB (by rw [wc_len]; omega) (wc_one z)
  rw [Nat.add_zero, wc_len] at hs
  unfold splW
  have hi := infoW
  cases hq : Tryz.prog.info? 33 with
  | none => rw [hq] at hi; simp at hi
  | some i =>
    rw [hq] at hi
    have hz : i.size = 16 := by simpa using hi
    have hv : (wideV (enc z)).cells.toList = wc z := rfl
    have hn : (wideV (enc z)).cells.size = 16 := cells_size _ _
    simp [storeVar, sizeOf, typeInfo, hq, hz, hv, hn, hs]
theorem wp_stW {C : Array Value} {K : Act → World → Prop} {Q : Exit → Act → World → Prop} {o : Oper} (x y : Operand) (ho : o.op = .store 33 x y) (hx : a.eval x = .pointer (some ⟨g, off, none⟩)) (hy : a.eval y = .agg (cells 16 (limb (enc z)))) (hB : Blk w g 33 C) (hl : off + 16 ≤ C.size)
    (h : K (a.put o.dst undef) (w.setRow g (splW C off z))) : o.wp Tryz.prog a w K Q := by
  have hw := run_svW (z := z) hB hl
  unfold wideV at hw
  unfold Oper.wp execOp
  simp only [ho, hx, hy, Instr.storeAt, Instr.sureAddr, Sem.run_bind, Sem.run_pure, Result.andThen_ok, hw]
  exact h
theorem stW_P {C : Array Value} {ops : Array Oper} {rest : List Oper} {Q : Exit → Act → World → Prop} {d : Option Tmp} {s u : Tmp} {ty : TypeId} {pos : String} {af : Array Edge} (hx : a.eval (.tmp s) = .pointer (some ⟨g, off, none⟩)) (hy : a.eval (.tmp u) = .agg (cells 16 (limb (enc z)))) (hB : Blk w g 33 C) (hl : off + 16 ≤ C.size)
    (h : wpList Tryz.prog ops Q rest (a.put d undef) (w.setRow g (splW C off z))) :
    wpList Tryz.prog ops Q ({ dst := d, op := .store 33 (.tmp s) (.tmp u), type := ty, pos := pos, after := af, guard := none } :: rest) a w :=
  wpList_plain rfl fun _ hK => wp_stW _ _ rfl hx hy hB hl (hK _ _ h)
end
theorem OwnW.open {w : World} {base : Nat} {v : Value} {l : List Int} (h : OwnW w base v l) (h0 : 0 < l.length) :
    ∃ g cap C, v = .slice (some ⟨g, 0, none⟩) l.length cap ∧ base ≤ g ∧ Blk w g 33 C ∧ l.length ≤ cap ∧ cap ≤ maxLen ∧ C.size = cap * 16 ∧ C.toList.take (l.length * 16) = wcs l := by
  obtain ⟨_, h1 | ⟨g, cap, cur, hv, hb, hB, hc, hm, hs, ht⟩⟩ := h
  · omega
  · exact ⟨g, cap, cur, hv, hb, hB, hc, hm, hs, ht⟩
theorem set_take {C : List Value} {l : List Int} {i : Nat} (ht : C.take (l.length * 16) = wcs l) (hi : i < l.length) (hC : l.length * 16 ≤ C.length) (z : Int) :
    (C.take (i * 16) ++ wc z ++ C.drop (i * 16 + 16)).take (l.length * 16) = wcs (l.set i z) := by
  rw [← wcs_set hi z, ← ht, List.take_take, Nat.min_eq_left (by omega), List.drop_take]
  have h1 : (C.take (i * 16) ++ wc z).length = i * 16 + 16 := by rw [List.length_append, wc_len, List.length_take]; omega
  rw [List.take_append, h1, List.take_of_length_le (by omega)]
theorem OwnW.set {w : World} {base g cap n : Nat} {C : Array Value} {l : List Int} (h : OwnW w base (.slice (some ⟨g, 0, none⟩) n cap) l) (hB : Blk w g 33 C) {i : Nat} (hi : i < l.length) (z : Int) :
    OwnW (w.setRow g (splW C (i * 16) z)) base (.slice (some ⟨g, 0, none⟩) n cap) (l.set i z) ∧ i * 16 + 16 ≤ C.size := by
  obtain ⟨g', cap', C', hv, hb, hB', hc, hm, hs, ht⟩ := h.open (by omega)
  injection hv with e1 e2 e3
  injection e1 with e1
  injection e1 with e1
  subst e1 e2 e3
  have hCC : C' = C := by
    unfold Blk at hB hB'
    rw [hB] at hB'
    simp at hB'
    exact hB'.symm
  subst hCC
  have hl : i * 16 + 16 ≤ C'.size := by omega
  unfold splW
  refine ⟨⟨by rw [wcs_len, List.length_set], .inr ⟨g, cap, _, by rw [List.length_set], hb, hB.setRow _, by rw [List.length_set]; exact hc, hm, ?_, ?_⟩⟩, hl⟩
  · simp [wc_len]; omega
  · rw [List.length_set]
    exact set_take ht hi (by simp; omega) z
theorem appW {ops : Array Oper} {rest : List Oper} {Q : Exit → Act → World → Prop} {a : Act} {w : World} {d : Option Tmp} {s u : Operand} {ty : TypeId} {pos : String} {af : Array Edge} {base g off c : Nat} {v : Value} {l m : List Int}
    (hs : a.eval s = v) (hu : a.eval u = .slice (some ⟨g, off, none⟩) m.length c) (hown : OwnW w base v l) (hV : w.rangeAt g off (wcs m)) (hbase : base ≤ w.heap.size) (hl : l.length < 1000000) (hm : m.length < 1000000)
    (h : ∀ v' w', OwnW w' base v' (l ++ m) → w.grownBy w' v.ownBlock → Below base w w' → wpList Tryz.prog ops Q rest (a.put d v') w') :
    wpList Tryz.prog ops Q ({ dst := d, op := .call { callee := .builtin .append, args := #[s, u], argTypes := #[38, 38] }, type := ty, pos := pos, after := af, guard := none } :: rest) a w := by
  obtain ⟨i0, hi0, he⟩ := Option.map_eq_some_iff.1 infoWs
  simp only [Prod.mk.injEq] at he
  obtain ⟨z0, hz0, hzs⟩ := Option.map_eq_some_iff.1 he.1
  have hlt := World.ownsRow.lt hown
  refine wpList_append_own w rfl s u 38 rfl base 33 i0 z0 16 128 undWs hi0 hz0 he.2.1 he.2.2 hzs (by decide) v l.length (wcs l) hs hown ⟨g, off, none⟩ m.length c (wcs m) hu (wcs_len m) (fun j x hx => by rw [Addr.add_mid]; exact hV j x hx) wcs_one (by unfold maxLen; omega) (by omega) hbase ?_
  intro v' w' h1 h2 _
  refine h v' w' (by unfold OwnW; rw [List.length_append, wcs_append]; exact h1) h2 ⟨h2.os, h2.tape, h2.output, h2.size, fun k hk => h2.block k (by omega) fun e => ?_⟩
  have := hlt k e.symm
  omega
theorem one_range {w : World} {z : Int} {g : Nat} (h : g = w.heap.size) : (w.alloc (.cells (cells 16 (limb (enc z))) 33)).rangeAt g 0 (wcs [z]) := by
  intro j v hv
  have hB : Blk (w.alloc (.cells (cells 16 (limb (enc z))) 33)) g 33 (cells 16 (limb (enc z))) := Blk.new _ _ h
  rw [Nat.zero_add]
  refine hB.cell _ ?_
  rw [← Array.getElem?_toList]
  rw [show wcs [z] = wc z from by rw [wcs_cons, wcs_nil, List.append_nil]] at hv
  exact hv
theorem fill_one (f : Nat → Nat) (z : Array Value) : Instr.fill (fun i => some (i * 16, 16)) ((Array.range (1 * 16)).map (z[· % z.size]!)) [(0, .agg (cells 16 f))] = some (cells 16 f) := by
  unfold cells
  kernel_rfl
theorem bsW_P {ops : Array Oper} {rest : List Oper} {Q : Exit → Act → World → Prop} {a : Act} {w : World} {d : Option Tmp} {s : Tmp} {ty : TypeId} {pos : String} {af : Array Edge} {z : Int} (hs : a.eval (.tmp s) = .agg (cells 16 (limb (enc z))))
    (h : wpList Tryz.prog ops Q rest (a.put d (.slice (some ⟨w.heap.size, 0, none⟩) 1 1)) (w.alloc (.cells (cells 16 (limb (enc z))) 33))) :
    wpList Tryz.prog ops Q ({ dst := d, op := .buildSlice 38 1 #[(0, .tmp s)], type := ty, pos := pos, after := af, guard := none } :: rest) a w := by
  obtain ⟨i0, hi0, he⟩ := Option.map_eq_some_iff.1 infoWs
  simp only [Prod.mk.injEq] at he
  obtain ⟨z0, hz0, hzs⟩ := Option.map_eq_some_iff.1 he.1
  refine wpList_buildSlice rfl 38 33 1 _ rfl (cells 16 (limb (enc z))) i0 z0 undWs hi0 hz0 (by rw [he.2.1]; decide) (by rw [he.2.1]; decide) ?_ h
  simp only [List.map_toArray, List.map_cons, List.map_nil, hs, he.2.1]
  exact fill_one _ _
end Go.Proofs.YtnpaodlhhcnbgaaGreatDoor
