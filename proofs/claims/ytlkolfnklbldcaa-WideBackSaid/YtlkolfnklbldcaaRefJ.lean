/-
  The reference's numbers out of wide ones.
-/
import Derived.Test.YtlkolfnklbldcaaRefI
import Derived.OwnWalk
namespace Go.Proofs.Ytlkolfnklbldcaa
open Go Go.RowKit
set_option maxRecDepth 100000

/-- append to nil of a whole array of limbs. -/
theorem appendP {ops : Array Oper} {rest : List Oper} {Q : Exit → Act → World → Prop} {a : Act} {w : World} {d : Option Tmp} {s : Tmp} {ty : TypeId} {pos : String} {af : Array Edge} {g c : Nat} {t : TypeId} {f : Nat → Nat}
    (hx : a.eval (.tmp s) = .slice (some ⟨g, 0, none⟩) 16 c) (hR : Row w g t 16 f)
    (h : ∀ (b cap : Nat) (C : Array Value) (w' : World), Up w w' → 16 ≤ cap → Blk w' b 25 C → (∀ i, i < 16 → C[i]? = some (.int .u64 (f i : Nat))) → wpList Try.prog ops Q rest (a.put d (.slice (some ⟨b, 0, none⟩) 16 cap)) w') :
    wpList Try.prog ops Q ({ dst := d, op := .call { callee := .builtin .append, args := #[.const (.slice none 0 0), .tmp s], argTypes := #[22, 22] }, type := ty, pos := pos, after := af, guard := none } :: rest) a w := by
  obtain ⟨i0, hi, hz0, hz1, hz2⟩ := info_parts infoU
  refine wpList_append_own w rfl _ _ 22 rfl 0 25 i0 (.int .u64 0) 1 8 undS hi hz0 hz1 hz2 rfl (by decide) (.slice none 0 0) 0 [] rfl (World.ownsRow_nil _ _ _ _) ⟨g, 0, none⟩ 16 c (cells 16 f).toList hx (by simp [cells_size]) ?_ ?_ (by decide) (by decide) (Nat.zero_le _) ?_
  · intro j u hj
    have hj16 : j < 16 := by
      have := (List.getElem?_eq_some_iff.1 hj).1
      simpa [cells_size] using this
    have hadd : (⟨g, 0, none⟩ : Addr).add j = ⟨g, j, none⟩ := by unfold Addr.add; split <;> simp_all
    rw [hadd, hR.cell j hj16]
    rw [Array.getElem?_toList, cells_get 16 f j hj16] at hj
    exact hj
  · intro u hu
    obtain ⟨j, hj⟩ := List.mem_iff_getElem?.1 hu
    have hj16 : j < 16 := by
      have := (List.getElem?_eq_some_iff.1 hj).1
      simpa [cells_size] using this
    rw [Array.getElem?_toList, cells_get 16 f j hj16] at hj
    cases hj
    rfl
  · intro v' w' hown hgrow _
    obtain ⟨hlen, hor⟩ := hown
    rcases hor with ⟨_, h0⟩ | ⟨b, cap, cur, rfl, _, hb, hcap, _, hsz, htake⟩
    · simp at h0
    · rw [Nat.zero_add] at hcap htake ⊢
      refine h b cap cur w' ⟨hgrow.os, hgrow.tape, hgrow.output, hgrow.size, fun k hk => hgrow.block k hk (by simp [Value.ownBlock])⟩ hcap hb fun i hi => ?_
      have h1 : (cur.toList.take (16 * 1))[i]? = ([] ++ (cells 16 f).toList)[i]? := by rw [htake]
      rw [List.getElem?_take_of_lt (by omega), List.nil_append, Array.getElem?_toList, Array.getElem?_toList, cells_get 16 f i hi] at h1
      exact h1
theorem xor_all {x : Nat} (h : x < 2 ^ 64) : (2 ^ 64 - 1) ^^^ x = 2 ^ 64 - (x + 1) := by
  apply Nat.eq_of_testBit_eq
  intro i
  rw [Nat.testBit_xor, Nat.testBit_two_pow_sub_one, Nat.testBit_two_pow_sub_succ h]
  by_cases hi : i < 64
  · simp [hi]
  · have : x.testBit i = false := Nat.testBit_lt_two_pow (Nat.lt_of_lt_of_le h (Nat.pow_le_pow_right (by decide) (by omega)))
    simp [hi, this]
theorem bits_not {x : Nat} (h : x < 18446744073709551616) : bits BinOp.xor IntKind.u64 IntKind.u64.max (x : Int) = ((18446744073709551615 - x : Nat) : Int) := by
  have h1 := bits_xor_u64_nat 18446744073709551615 x (by decide) h
  have h2 := xor_all (x := x) h
  rw [show (2 ^ 64 - 1 : Nat) = 18446744073709551615 from rfl, show (2 ^ 64 : Nat) = 18446744073709551616 from rfl] at h2
  rw [h2] at h1
  rw [show (IntKind.u64.max : Int) = ((18446744073709551615 : Nat) : Int) from rfl, h1]
  omega
theorem mkC {ops : Array Oper} {rest : List Oper} {Q : Exit → Act → World → Prop} {a : Act} {w : World} {d : Option Tmp} {ty : TypeId} {pos : String} {af : Array Edge} {L : Int} {n : Nat} (hL : L = (n : Int)) (hn : n < 1000000)
    (h : wpList Try.prog ops Q rest (a.put d (.slice (some ⟨w.heap.size, 0, none⟩) n n)) (w.alloc (.cells (cells n (fun _ => 0)) 25))) :
    wpList Try.prog ops Q ({ dst := d, op := .makeSlice 22 (.const (.int .i64 L)) (.const (.int .i64 L)), type := ty, pos := pos, after := af, guard := none } :: rest) a w := by
  refine wpList_plain rfl fun _ hK => ?_
  have hi := infoU
  cases hq : Try.prog.info? 25 with
  | none => rw [hq] at hi; simp at hi
  | some i =>
    rw [hq] at hi
    simp only [Option.map_some, Option.some.injEq, Prod.mk.injEq] at hi
    have hr := run_make (P := Try.prog) (w := w) 22 25 i (.int .u64 0) undS hq hi.1 .i64 .i64 L L (by omega) (by omega) (by rw [hi.2.2]; omega) (by omega)
    rw [hi.2.1, Nat.mul_one, hL, Int.toNat_natCast, zeros_made] at hr
    unfold Oper.wp execOp
    simp only [Act.eval, hL, Sem.run_bind, Sem.run_pure, Result.andThen_ok, hr]
    exact hK _ _ h
theorem comp_step {S : Nat → Nat} {X A B c r c' i : Nat} (h : sumL S i + c * bp i + A = B) (hB : B = bp i) (hr : r + c' * 18446744073709551616 + X = 18446744073709551615 + c) : sumL (upd S i r) (i + 1) + c' * bp (i + 1) + (A + X * bp i) = bp (i + 1) := by
  subst hB
  rw [sumL_upd_succ, bp_succ]
  have h2 : (r + c' * 18446744073709551616 + X) * bp i = (18446744073709551615 + c) * bp i := by rw [hr]
  have h3 : r * bp i + c' * (bp i * 18446744073709551616) + X * bp i = 18446744073709551615 * bp i + c * bp i := by grind
  omega
set_option maxHeartbeats 2000000 in
theorem from_wide {z : Int} (hz : InR z) (w : World) :
    Calls Try.prog 12 #[wideV (enc z)] w fun e w' => Up w w' ∧ ∃ v, e = .returned v ∧ Big w' v z := by
  have hlt := enc_lt z
  have htop := top_iff hlt
  have hc15 := cells_get 16 (limb (enc z)) 15 (by decide)
  have hl15 := limb_lt (enc z) 15
  have hsum := sumL_limb (enc z) 16
  rw [Nat.mod_eq_of_lt hlt] at hsum
  have hr := hz.out
  have hb16 := bp16
  by_cases h0 : z < 0
  · have hen := (enc_neg hz h0)
    have hd : ((limb (enc z) 15 : Nat) : Int) / 9223372036854775808 = 1 := by
      have := htop.2 hen.2
      omega
    have HE := hid hen.1
    have HZ := hid h0
    have HR := hid (show 0 < z.natAbs ∧ z.natAbs < bp 16 by have := hb_pos; omega)
    have HSum := hid hsum
    have HFl := hid (fun i => limb_lt (enc z) i)
    clear htop hsum hr hb16 hen hlt
    unfold wideV
    generalize hf : limb (enc z) = f at *
    generalize hff : f 15 = top at *
    go_enter Try.func12, Try.ntmps12
    go_wp2_with (first | ((with_reducible apply mkC (n := 16)); exact rfl; omega))
    go_loopw [3, 5] (fun tc ti wr => ∃ (i cc : Nat) (S : Nat → Nat), i ≤ 16 ∧ tc = .int .u64 (cc : Nat) ∧ ti = .int .i64 (i : Nat) ∧ cc ≤ 1 ∧ (∀ j, j < 16 → S j < 18446744073709551616) ∧ sumL S i + cc * bp i + sumL f i = bp i ∧
        Row wr w.heap.size 27 16 f ∧ Blk wr (w.heap.size + 1) 30 #[.bool false, .slice none 0 0] ∧ Row wr (w.heap.size + 1 + 1) 25 16 S ∧ Below w.heap.size w wr)
      (fun _ ti _ => 16 - (intOf ti).toNat)
    case atStart => exact ⟨0, 1, fun _ => 0, by omega, rfl, rfl, by omega, fun _ _ => by simp, by simp [sumL_zero, bp_zero], (by (repeat (first | assumption | ((with_reducible apply row_newc); (focus (first | rfl | (simp; done)))) | ((with_reducible apply row_newz); (focus (first | rfl | (simp; done)))) | (with_reducible apply row_same) | ((with_reducible apply row_else); (focus (first | (simp; done) | (simp; omega) | omega))) | (with_reducible apply row_alloc) | (with_reducible apply row_drew) | (with_reducible apply row_drewN) | ((with_reducible apply row_up); assumption)))), (by (repeat (first | assumption | ((with_reducible apply blk_new); (focus (first | rfl | (simp; done)))) | (with_reducible apply blk_alloc) | (with_reducible apply blk_drew) | (with_reducible apply blk_drewN) | ((with_reducible apply blk_up); assumption) | (with_reducible apply blk_same) | ((with_reducible apply blk_else); (focus (first | (simp; done) | (simp; omega) | omega)))))), (by (repeat (first | assumption | ((with_reducible apply row_newc); (focus (first | rfl | (simp; done)))) | ((with_reducible apply row_newz); (focus (first | rfl | (simp; done)))) | (with_reducible apply row_same) | ((with_reducible apply row_else); (focus (first | (simp; done) | (simp; omega) | omega))) | (with_reducible apply row_alloc) | (with_reducible apply row_drew) | (with_reducible apply row_drewN) | ((with_reducible apply row_up); assumption)))), (by repeat (first | assumption | (with_reducible apply Up.of) | (with_reducible exact Below.refl _ _) | (with_reducible exact Up.refl _) | ((with_reducible apply bl_setRow); (focus (first | exact Nat.le_refl _ | (simp; done) | (simp; omega) | omega))) | (with_reducible apply below_drewN) | (with_reducible apply Below.drew) | ((with_reducible apply bl_alloc); (focus (first | exact Nat.le_refl _ | (simp; done) | (simp; omega) | omega))) | ((with_reducible apply bl_setCell); (focus (first | exact Nat.le_refl _ | (simp; done) | (simp; omega) | omega))) | ((with_reducible apply up_tr); assumption)))⟩
    case round =>
      obtain ⟨i, cc, S, hi, rfl, rfl, hcc, hSb, hsum, hF, hK, hS, hB⟩ := hrel
      have HSb := hid hSb
      have Hsum := hid hsum
      clear hSb hsum
      by_cases hlt : i < 16
      · have hcx := hF.cell i hlt
        have hfi := HFl.out i
        obtain ⟨r, c', hadd, hrc, hrl, hc1⟩ : ∃ r c' : Nat, (∀ w, (callFunc 39 #[.int .u64 (18446744073709551615 - f i : Nat), .int .u64 0, .int .u64 (cc : Nat)]).run Try.prog w = .ok (.value (.tuple #[.int .u64 (r : Nat), .int .u64 (c' : Nat)])) w) ∧ Hid (r + c' * 18446744073709551616 + f i = 18446744073709551615 + cc) ∧ r < 18446744073709551616 ∧ c' ≤ 1 := by
          have h := run_add (18446744073709551615 - f i) 0 cc hcc
          simp only [show ((0 : Nat) : Int) = 0 from rfl] at h
          exact ⟨_, _, h, hid (by omega), Nat.mod_lt _ (by decide), by omega⟩
        have hxor := bits_not hfi
        obtain ⟨Y, hY⟩ : ∃ Y, 18446744073709551615 - f i = Y := ⟨_, rfl⟩
        rw [hY] at hadd hxor
        clear hY
        have hcs := hS.cell i hlt
        have hfs := hS.frozen i
        have gF := hF.other ⟨w.heap.size + 1 + 1, i, none⟩ (.int .u64 (r : Nat)) (by simp; omega)
        have gK := hK.other ⟨w.heap.size + 1 + 1, i, none⟩ (.int .u64 (r : Nat)) (by simp)
        have gS := hS.set i r
        have gB := hB.setCell (p := ⟨w.heap.size + 1 + 1, i, none⟩) (by simp; omega) (.int .u64 (r : Nat))
        clear hF hK hS hB
        go_wp2
        go_roundw
        case rel =>
          refine ⟨i + 1, c', upd S i r, by omega, rfl, by go_num, hc1, upd_lt HSb.out hrl, ?_, gF, gK, gS, gB⟩
          rw [sumL_succ f i]
          exact comp_step Hsum.out rfl hrc.out
        case measure => simp [intOf] <;> omega
      · obtain rfl : i = 16 := by omega
        have he : sumL S 16 = z.natAbs := by
          have h1 := Hsum.out
          have h2 := HSum.out
          have h3 := HE.out
          have h4 := HR.out
          have h5 := sumL_lt HSb.out
          rcases Nat.eq_zero_or_pos cc with h0 | h0
          · subst h0; omega
          · have : 1 * bp 16 ≤ cc * bp 16 := Nat.mul_le_mul_right _ h0
            omega
        have ht := trim_row (w.heap.size + 1 + 1) 16 16 16 S wr hS (Nat.le_refl _) (Nat.le_refl _) (by decide)
        have hres := am_row (c := 16) hS (Nat.le_refl _) (Nat.le_refl _) HSb.out
        have hn := nl_sum HSb.out
        rw [he] at hres hn
        rw [← hn] at ht hres
        have HT := hid ht
        have HA := hid hres
        clear ht hres he HSb Hsum hS hF hn
        go_wp2_with (first | (go_at_call 38; (with_reducible refine HT.out.mono ?_); rintro e wT ⟨rfl, huT⟩) | (go_at_call 37; (with_reducible refine (made_any _ _ _ _ _).mono ?_); rintro e wM ⟨rfl, huM⟩) | ((with_reducible apply stB_P); exact rfl; exact rfl; (focus (repeat (first | assumption | ((with_reducible apply blk_new); (focus (first | rfl | (simp; done)))) | (with_reducible apply blk_alloc) | (with_reducible apply blk_drew) | (with_reducible apply blk_drewN) | ((with_reducible apply blk_up); assumption) | (with_reducible apply blk_same) | ((with_reducible apply blk_else); (focus (first | (simp; done) | (simp; omega) | omega)))))); exact rfl; exact rfl; exact one2 _ _ _ _))
        have hB' := big_made true ((HA.out.up huT).up huM)
        have hv : pm true z.natAbs = z := by have h2 := HZ.out; simp only [pm, if_true]; omega
        rw [hv, Bool.true_and] at hB'
        have hK' : Blk wM (w.heap.size + 1) 30 #[.bool false, .slice none 0 0] := (hK.up huT).up huM
        exact bodyPost_ret (resB rfl rfl (hK'.setRow _) rfl) rfl ⟨(by repeat (first | assumption | (with_reducible apply Up.of) | (with_reducible exact Below.refl _ _) | (with_reducible exact Up.refl _) | ((with_reducible apply bl_setRow); (focus (first | exact Nat.le_refl _ | (simp; done) | (simp; omega) | omega))) | (with_reducible apply below_drewN) | (with_reducible apply Below.drew) | ((with_reducible apply bl_alloc); (focus (first | exact Nat.le_refl _ | (simp; done) | (simp; omega) | omega))) | ((with_reducible apply bl_setCell); (focus (first | exact Nat.le_refl _ | (simp; done) | (simp; omega) | omega))) | ((with_reducible apply up_tr); assumption))), _, rfl, hB'.setRow hK'⟩
  · have hen := (enc_nn hz (by omega))
    have hd : ((limb (enc z) 15 : Nat) : Int) / 9223372036854775808 = 0 := by
      have : ¬ 9223372036854775808 ≤ limb (enc z) 15 := fun h => by have := htop.1 h; omega
      omega
    have hS : ∀ i, i < 16 → limb (enc z) i < 18446744073709551616 := fun i _ => limb_lt _ i
    have hl1 := lenL_le (limb (enc z)) 16
    have HE := hid (show enc z = z.natAbs by omega)
    have HZ := hid (show decide (z < 0) = false from decide_eq_false h0)
    have HN := hid (nl_sum hS)
    rw [hsum] at HN
    have HSum := hid hsum
    have HS := hid hS
    clear htop hsum hr hb16 hen hlt hS
    unfold wideV
    generalize hf : limb (enc z) = f at *
    generalize hff : f 15 = top at *
    go_enter Try.func12, Try.ntmps12
    go_wp2_with (first | ((with_reducible apply appendP); exact rfl; (focus (repeat (first | assumption | ((with_reducible apply row_newc); (focus (first | rfl | (simp; done)))) | (with_reducible apply row_alloc)))); rintro ba cap C wA huA hcap hBA hCA) | (go_at_call 38; (with_reducible refine (trim_cells _ 16 cap f _ (fun i hi => hBA.cell i (hCA i hi)) hcap (by decide)).mono ?_); rintro e wT ⟨rfl, huT⟩) | (go_at_call 37; (with_reducible refine (made_any _ _ _ _ _).mono ?_); rintro e wM ⟨rfl, huM⟩) | ((with_reducible apply stB_P); exact rfl; exact rfl; (focus (repeat (first | assumption | ((with_reducible apply blk_new); (focus (first | rfl | (simp; done)))) | (with_reducible apply blk_alloc) | (with_reducible apply blk_drew) | (with_reducible apply blk_drewN) | ((with_reducible apply blk_up); assumption) | (with_reducible apply blk_same) | ((with_reducible apply blk_else); (focus (first | (simp; done) | (simp; omega) | omega)))))); exact rfl; exact rfl; exact one2 _ _ _ _))
    have hA := am_blk ((hBA.up huT).up huM) hCA hcap HS.out
    rw [HSum.out, ← HN.out] at hA
    have hB := big_made false hA
    have hv : pm false (enc z) = z := by
      have h1 := HE.out
      have h2 := of_decide_eq_false HZ.out
      simp only [pm, Bool.false_eq_true, if_false]
      omega
    rw [HN.out, Bool.false_and, hv] at hB
    have hK : Blk wM (w.heap.size + 1) 30 #[.bool false, .slice none 0 0] := (by (repeat (first | assumption | ((with_reducible apply blk_new); (focus (first | rfl | (simp; done)))) | (with_reducible apply blk_alloc) | (with_reducible apply blk_drew) | (with_reducible apply blk_drewN) | ((with_reducible apply blk_up); assumption) | (with_reducible apply blk_same) | ((with_reducible apply blk_else); (focus (first | (simp; done) | (simp; omega) | omega))))))
    exact bodyPost_ret (resB rfl rfl (hK.setRow _) rfl) rfl ⟨(by repeat (first | assumption | (with_reducible apply Up.of) | (with_reducible exact Below.refl _ _) | (with_reducible exact Up.refl _) | ((with_reducible apply bl_setRow); (focus (first | exact Nat.le_refl _ | (simp; done) | (simp; omega) | omega))) | (with_reducible apply below_drewN) | (with_reducible apply Below.drew) | ((with_reducible apply bl_alloc); (focus (first | exact Nat.le_refl _ | (simp; done) | (simp; omega) | omega))) | ((with_reducible apply bl_setCell); (focus (first | exact Nat.le_refl _ | (simp; done) | (simp; omega) | omega))) | ((with_reducible apply up_tr); assumption))), _, rfl, hB.setRow hK⟩
end Go.Proofs.Ytlkolfnklbldcaa
