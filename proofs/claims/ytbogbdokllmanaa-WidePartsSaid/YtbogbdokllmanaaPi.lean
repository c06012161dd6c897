/-
  What the claim's law is built of: RoundB.
-/
import Derived.Test.YtbogbdokllmanaaPh
import Derived.Deep.DeepCutAuto
import Derived.Deep.CutBlock
/-
  The reference's nearest numbers, any divisor.
-/
namespace Go.Proofs.Ytbogbdokllmanaa
open Go Go.RowKit
set_option maxRecDepth 100000

theorem run_allocB {o : Oper} {a : Act} (ho : o.op = .alloc 30) (w : World) :
    (execOp a.eval o).run Try.prog w = .ok (.value (.pointer (some ⟨w.heap.size, 0, none⟩))) (w.alloc (.cells #[.bool false, .slice none 0 0] 30)) := by
  unfold execOp
  rw [ho]
  dsimp only
  go_simp
theorem wpAnyU_allocB {ops : Array Oper} {Q : Exit → Act → World → Prop} {md : Region.Mode} {S : World → Prop} {req : Nat → Bool} {i : Nat} {o : Oper} {d : Option Tmp} {fuel : Nat} {listed : Array Bool} {a : Act} {w : World}
    (hi : ops[i]? = some o) (hd : o.dst = d) (hr : Region.ready md ops listed = [i]) (hw : Region.wanted o (yielded ops a.tmps) = true) (ho : o.op = .alloc 30) (hSup : ∀ w w', S w → Up w w' → S w')
    (h : ∀ w1, Up w w1 → wpAnyU Try.prog md ops Q S req fuel (listed.setIfInBounds i true) (a.put d (.pointer (some ⟨w1.heap.size, 0, none⟩))) (w1.alloc (.cells #[.bool false, .slice none 0 0] 30))) : wpAnyU Try.prog md ops Q S req (fuel + 1) listed a w := by
  subst hd
  refine wpAnyU_one hi hr hw fun w1 hw1 => ?_
  unfold Oper.wp
  rw [run_allocB ho w1]
  exact ⟨fun _ hS => hSup _ _ hS (Up.alloc _ _), h w1 hw1⟩
section
variable {P : Program} {ops : Array Oper} {Q : Exit → Act → World → Prop} {md : Region.Mode} {S : World → Prop} {req : Nat → Bool}
theorem wpOp_callE {i : Nat} {o : Oper} {d : Option Tmp} {fuel : Nat} {listed : Array Bool} {a : Act} {w : World} {f : FuncId} {args : Array Value} {R : Value → World → Prop} (hi : ops[i]? = some o) (hd : o.dst = d) (hw : Region.wanted o (yielded ops a.tmps) = true)
    (hSup : ∀ w w', S w → Up w w' → S w') (hrun : (execOp a.eval o).run P w = .ok (.enter f args) w) (hc : Calls P f args w fun e w'' => Up w w'' ∧ ∃ v, e = .returned v ∧ R v w'')
    (h : ∀ v w'', Up w w'' → R v w'' → wpAnyU P md ops Q S req fuel (listed.setIfInBounds i true) (a.put d v) w'') : wpOp P ops Q i (fun a' w'' => (req i = true → S w → S w'') ∧ wpAnyU P md ops Q S req fuel (listed.setIfInBounds i true) a' w'') a w := by
  unfold wpOp
  simp only [hi, hw, if_true]
  refine .inl ?_
  unfold Oper.wp
  rw [hrun]
  subst hd
  refine Calls.mono hc fun e w'' he => ?_
  obtain ⟨hu, v, rfl, hR⟩ := he
  exact ⟨fun _ hs => hSup _ _ hs hu, h v w'' hu hR⟩
end
theorem wpOp_allocB {ops : Array Oper} {Q : Exit → Act → World → Prop} {md : Region.Mode} {S : World → Prop} {req : Nat → Bool} {i : Nat} {o : Oper} {d : Option Tmp} {fuel : Nat} {listed : Array Bool} {a : Act} {w : World}
    (hi : ops[i]? = some o) (hd : o.dst = d) (hw : Region.wanted o (yielded ops a.tmps) = true) (ho : o.op = .alloc 30) (hSup : ∀ w w', S w → Up w w' → S w')
    (h : wpAnyU Try.prog md ops Q S req fuel (listed.setIfInBounds i true) (a.put d (.pointer (some ⟨w.heap.size, 0, none⟩))) (w.alloc (.cells #[.bool false, .slice none 0 0] 30))) : wpOp Try.prog ops Q i (fun a' w'' => (req i = true → S w → S w'') ∧ wpAnyU Try.prog md ops Q S req fuel (listed.setIfInBounds i true) a' w'') a w := by
  unfold wpOp
  simp only [hi, hw, if_true]
  refine .inl ?_
  unfold Oper.wp
  rw [run_allocB ho w]
  subst hd
  exact ⟨fun _ hS => hSup _ _ hS (Up.alloc _ _), h⟩
theorem wpAnyU_a2 {ops : Array Oper} {Q : Exit → Act → World → Prop} {md : Region.Mode} {S : World → Prop} {req : Nat → Bool} {j k : Nat} {oj ok : Oper} {dj dk : Option Tmp} {fuel : Nat} {listed : Array Bool} {a : Act} {w : World} (hr : Region.ready md ops listed = [j, k])
    (hj : ops[j]? = some oj) (hdj : oj.dst = dj) (hwj : Region.wanted oj (yielded ops a.tmps) = true) (hoj : oj.op = .alloc 30) (hk : ops[k]? = some ok) (hdk : ok.dst = dk) (hwk : Region.wanted ok (yielded ops a.tmps) = true) (hok : ok.op = .alloc 30) (hSup : ∀ w w', S w → Up w w' → S w')
    (h1 : ∀ w1, Up w w1 → wpAnyU Try.prog md ops Q S req fuel (listed.setIfInBounds j true) (a.put dj (.pointer (some ⟨w1.heap.size, 0, none⟩))) (w1.alloc (.cells #[.bool false, .slice none 0 0] 30)))
    (h2 : ∀ w1, Up w w1 → wpAnyU Try.prog md ops Q S req fuel (listed.setIfInBounds k true) (a.put dk (.pointer (some ⟨w1.heap.size, 0, none⟩))) (w1.alloc (.cells #[.bool false, .slice none 0 0] 30))) : wpAnyU Try.prog md ops Q S req (fuel + 1) listed a w :=
  wpAnyU_all hr (by simp) fun w' hw' x hx => by
    simp only [List.mem_cons, List.not_mem_nil, or_false] at hx
    rcases hx with rfl | rfl
    · exact wpOp_allocB hj hdj hwj hoj hSup (h1 w' hw')
    · exact wpOp_allocB hk hdk hwk hok hSup (h2 w' hw')
theorem wpAnyU_ca1 {ops : Array Oper} {Q : Exit → Act → World → Prop} {md : Region.Mode} {S : World → Prop} {req : Nat → Bool} {i j : Nat} {o oj : Oper} {d dj : Option Tmp} {fuel : Nat} {listed : Array Bool} {a : Act} {w : World} {f : FuncId} {args : Array Value} {R : Value → World → Prop} (hr : Region.ready md ops listed = [i, j])
    (hi : ops[i]? = some o) (hd : o.dst = d) (hw : Region.wanted o (yielded ops a.tmps) = true) (hj : ops[j]? = some oj) (hdj : oj.dst = dj) (hwj : Region.wanted oj (yielded ops a.tmps) = true) (hoj : oj.op = .alloc 30) (hSup : ∀ w w', S w → Up w w' → S w')
    (hrun : ∀ w', (execOp a.eval o).run Try.prog w' = .ok (.enter f args) w') (hc : ∀ w', Up w w' → Calls Try.prog f args w' fun e w'' => Up w' w'' ∧ ∃ v, e = .returned v ∧ R v w'')
    (h : ∀ v w'', Up w w'' → R v w'' → wpAnyU Try.prog md ops Q S req fuel (listed.setIfInBounds i true) (a.put d v) w'')
    (h1 : ∀ w1, Up w w1 → wpAnyU Try.prog md ops Q S req fuel (listed.setIfInBounds j true) (a.put dj (.pointer (some ⟨w1.heap.size, 0, none⟩))) (w1.alloc (.cells #[.bool false, .slice none 0 0] 30))) : wpAnyU Try.prog md ops Q S req (fuel + 1) listed a w :=
  wpAnyU_all hr (by simp) fun w' hw' x hx => by
    simp only [List.mem_cons, List.not_mem_nil, or_false] at hx
    rcases hx with rfl | rfl
    · exact wpOp_callE hi hd hw hSup (hrun w') (hc w' hw') fun v w'' hu hR => h v w'' (hw'.trans hu) hR
    · exact wpOp_allocB hj hdj hwj hoj hSup (h1 w' hw')
theorem wpAnyU_ca2 {ops : Array Oper} {Q : Exit → Act → World → Prop} {md : Region.Mode} {S : World → Prop} {req : Nat → Bool} {i j k : Nat} {o oj ok : Oper} {d dj dk : Option Tmp} {fuel : Nat} {listed : Array Bool} {a : Act} {w : World} {f : FuncId} {args : Array Value} {R : Value → World → Prop} (hr : Region.ready md ops listed = [i, j, k])
    (hi : ops[i]? = some o) (hd : o.dst = d) (hw : Region.wanted o (yielded ops a.tmps) = true) (hj : ops[j]? = some oj) (hdj : oj.dst = dj) (hwj : Region.wanted oj (yielded ops a.tmps) = true) (hoj : oj.op = .alloc 30) (hk : ops[k]? = some ok) (hdk : ok.dst = dk) (hwk : Region.wanted ok (yielded ops a.tmps) = true) (hok : ok.op = .alloc 30) (hSup : ∀ w w', S w → Up w w' → S w')
    (hrun : ∀ w', (execOp a.eval o).run Try.prog w' = .ok (.enter f args) w') (hc : ∀ w', Up w w' → Calls Try.prog f args w' fun e w'' => Up w' w'' ∧ ∃ v, e = .returned v ∧ R v w'')
    (h : ∀ v w'', Up w w'' → R v w'' → wpAnyU Try.prog md ops Q S req fuel (listed.setIfInBounds i true) (a.put d v) w'')
    (h1 : ∀ w1, Up w w1 → wpAnyU Try.prog md ops Q S req fuel (listed.setIfInBounds j true) (a.put dj (.pointer (some ⟨w1.heap.size, 0, none⟩))) (w1.alloc (.cells #[.bool false, .slice none 0 0] 30)))
    (h2 : ∀ w1, Up w w1 → wpAnyU Try.prog md ops Q S req fuel (listed.setIfInBounds k true) (a.put dk (.pointer (some ⟨w1.heap.size, 0, none⟩))) (w1.alloc (.cells #[.bool false, .slice none 0 0] 30))) : wpAnyU Try.prog md ops Q S req (fuel + 1) listed a w :=
  wpAnyU_all hr (by simp) fun w' hw' x hx => by
    simp only [List.mem_cons, List.not_mem_nil, or_false] at hx
    rcases hx with rfl | rfl | rfl
    · exact wpOp_callE hi hd hw hSup (hrun w') (hc w' hw') fun v w'' hu hR => h v w'' (hw'.trans hu) hR
    · exact wpOp_allocB hj hdj hwj hoj hSup (h1 w' hw')
    · exact wpOp_allocB hk hdk hwk hok hSup (h2 w' hw')
def RCut (w : World) (s d : Int) (t6 t7 : Value) (wc : World) : Prop :=
  ∃ p q b4 a4 n4 c4 b5 a5 n5 c5, t6 = .pointer (some ⟨p, 0, none⟩) ∧ t7 = .pointer (some ⟨q, 0, none⟩) ∧ Blk wc p 30 #[.bool b4, .slice a4 n4 c4] ∧ Blk wc q 30 #[.bool b5, .slice a5 n5 c5] ∧
    Big wc (.agg #[.bool b4, .slice a4 n4 c4]) (s.tdiv d) ∧ Big wc (.agg #[.bool b5, .slice a5 n5 c5]) (s.tmod d) ∧ Blk wc (w.heap.size + 1 + 1) 30 #[.bool false, .slice none 0 0] ∧ w.heap.size + 1 + 1 < p ∧ w.heap.size + 1 + 1 < q ∧ Below w.heap.size w wc
theorem leaf4 {w wS s1 s2 wF : World} {p q : Nat} {s d : Int} {b4 b5 : Bool} {a4 a5 : Option Addr} {n4 c4 n5 c5 : Nat} (hSB : Below w.heap.size w wS) (hS1 : Blk wS (w.heap.size + 1 + 1) 30 #[.bool false, .slice none 0 0]) (hU : Up wS s1) (k1 : Blk s1 p 30 #[.bool false, .slice none 0 0])
    (hs2 : Up (s1.setRow p #[.bool b4, .slice a4 n4 c4]) s2) (k2 : Blk s2 q 30 #[.bool false, .slice none 0 0]) (huE : Up (s2.setRow q #[.bool b5, .slice a5 n5 c5]) wF) (hQ : Big s1 (.agg #[.bool b4, .slice a4 n4 c4]) (s.tdiv d)) (hR : Big s1 (.agg #[.bool b5, .slice a5 n5 c5]) (s.tmod d))
    (hp : wS.heap.size ≤ p) (hq : wS.heap.size ≤ q) (hne : q ≠ p) : RCut w s d (.pointer (some ⟨p, 0, none⟩)) (.pointer (some ⟨q, 0, none⟩)) wF := by
  have h1 := hS1.lt
  refine ⟨p, q, b4, a4, n4, c4, b5, a5, n5, c5, rfl, rfl, ?_, (k2.setRow _).up huE, (((hQ.setRow k1).up hs2).setRow k2).up huE, (((hR.setRow k1).up hs2).setRow k2).up huE, ?_, by omega, by omega, ?_⟩
  · exact (((k1.setRow _).up hs2).row_other _ (Ne.symm hne)).up huE
  · exact ((((hS1.up hU).row_other _ (show w.heap.size + 1 + 1 ≠ p by omega)).up hs2).row_other _ (show w.heap.size + 1 + 1 ≠ q by omega)).up huE
  · exact below_up (below_setRow (below_up (below_setRow (below_up hSB hU) (show w.heap.size ≤ p by omega) _) hs2) (show w.heap.size ≤ q by omega) _) huE
set_option maxHeartbeats 20000000 in
theorem round_big2 {x y : Int} {va vb : Value} {w : World} (ha : Big w va x) (hb : Big w vb y) (hy : 0 < y) (hx1 : nl x.natAbs < 50000) (hy1 : nl y.natAbs < 50000) (h2x : nl (2 * x).natAbs < 50000) (hs : nl (2 * x + y).natAbs < 50000) (h2y : nl (2 * y).natAbs < 50000) :
    Calls Try.prog 17 #[va, vb] w fun e w' => Up w w' ∧ ∃ v, e = .returned v ∧ Big w' v ((2 * x + y) / (2 * y)) := by
  obtain ⟨p, a, n, ca, rfl⟩ := ha.shape
  obtain ⟨q, b, m, cb, rfl⟩ := hb.shape
  have hA := hid ha
  have hB := hid hb
  have nTwo : nl (2 : Int).natAbs < 50000 := by
    have := nl_le (x := 2) (k := 1) (by rw [bp_succ, bp_zero]; omega)
    have e : (2 : Int).natAbs = 2 := rfl
    rw [e]
    omega
  have nOne : nl (1 : Int).natAbs < 50000 := by
    have := nl_le (x := 1) (k := 1) (by rw [bp_succ, bp_zero]; omega)
    have e : (1 : Int).natAbs = 1 := rfl
    rw [e]
    omega
  have HO2 := hid (fun w => of_big 2 (by decide) (by decide) w)
  have HFl := hid (round_floor (s := 2 * x + y) (d := 2 * y) (by omega))
  have hYp : 0 < (2 * y).natAbs := by omega
  clear ha hb
  go_enter Try.func17, Try.ntmps17
  go_wp2_with (first | ((with_reducible apply stB_P); exact rfl; exact rfl; (focus (repeat (first | assumption | ((with_reducible apply blk_new); (focus (first | rfl | (simp; done)))) | (with_reducible apply blk_alloc) | (with_reducible apply blk_drew) | (with_reducible apply blk_drewN) | ((with_reducible apply blk_up); assumption) | (with_reducible apply blk_same) | ((with_reducible apply blk_else); (focus (first | (simp; done) | (simp; omega) | omega)))))); exact rfl; exact rfl; exact one2 _ _ _ _) | (go_at_call 13; (with_reducible refine (HO2.out _).mono ?_); rintro e wO ⟨huO, u, rfl, hBO⟩; obtain ⟨qo, ao, no, co, rfl⟩ := hBO.shape))
  have hsO := huO.size
  simp at hsO
  try simp only [Act.put]
  go_cut [6, 7] (fun t6 t7 wc => RCut w (2 * x + y) (2 * y) t6 t7 wc)
  case first =>
    refine wp_region_upH (S := (fun wq => Blk wq (w.heap.size + 1 + 1) 30 #[.bool false, .slice none 0 0] ∧ Blk wq w.heap.size 30 #[.bool p, .slice a n ca] ∧ Blk wq (w.heap.size + 1) 30 #[.bool q, .slice b m cb] ∧ Blk wq wO.heap.size 30 #[.bool qo, .slice ao no co] ∧ Big wq (.agg #[.bool qo, .slice ao no co]) 2 ∧ Below w.heap.size w wq)) (req := (fun j => j != 14 && j != 15)) (by kernel_rfl) (fun _ _ h hu => ⟨(h.1).up hu, (h.2.1).up hu, (h.2.2.1).up hu, (h.2.2.2.1).up hu, (h.2.2.2.2.1).up hu, below_up (h.2.2.2.2.2) hu⟩) ⟨(by (repeat (first | assumption | ((with_reducible apply blk_new); (focus (first | rfl | (simp; done)))) | (with_reducible apply blk_alloc) | (with_reducible apply blk_drew) | (with_reducible apply blk_drewN) | ((with_reducible apply blk_up); assumption) | (with_reducible apply blk_same) | ((with_reducible apply blk_else); (focus (first | (simp; done) | (simp; omega) | omega)))))), (by (repeat (first | assumption | ((with_reducible apply blk_new); (focus (first | rfl | (simp; done)))) | (with_reducible apply blk_alloc) | (with_reducible apply blk_drew) | (with_reducible apply blk_drewN) | ((with_reducible apply blk_up); assumption) | (with_reducible apply blk_same) | ((with_reducible apply blk_else); (focus (first | (simp; done) | (simp; omega) | omega)))))), (by (repeat (first | assumption | ((with_reducible apply blk_new); (focus (first | rfl | (simp; done)))) | (with_reducible apply blk_alloc) | (with_reducible apply blk_drew) | (with_reducible apply blk_drewN) | ((with_reducible apply blk_up); assumption) | (with_reducible apply blk_same) | ((with_reducible apply blk_else); (focus (first | (simp; done) | (simp; omega) | omega)))))), (by (repeat (first | assumption | ((with_reducible apply blk_new); (focus (first | rfl | (simp; done)))) | (with_reducible apply blk_alloc) | (with_reducible apply blk_drew) | (with_reducible apply blk_drewN) | ((with_reducible apply blk_up); assumption) | (with_reducible apply blk_same) | ((with_reducible apply blk_else); (focus (first | (simp; done) | (simp; omega) | omega)))))), (by (repeat (first | assumption | ((with_reducible apply big_set); (focus (repeat (first | assumption | ((with_reducible apply blk_new); (focus (first | rfl | (simp; done)))) | (with_reducible apply blk_alloc) | (with_reducible apply blk_drew) | (with_reducible apply blk_drewN) | ((with_reducible apply blk_up); assumption) | (with_reducible apply blk_same) | ((with_reducible apply blk_else); (focus (first | (simp; done) | (simp; omega) | omega))))))) | (with_reducible apply big_alloc) | ((with_reducible apply big_up); assumption))); done), (by repeat (first | assumption | (with_reducible apply Up.of) | (with_reducible exact Below.refl _ _) | (with_reducible exact Up.refl _) | ((with_reducible apply bl_setRow); (focus (first | exact Nat.le_refl _ | (simp; done) | (simp; omega) | omega))) | (with_reducible apply below_drewN) | (with_reducible apply Below.drew) | ((with_reducible apply bl_alloc); (focus (first | exact Nat.le_refl _ | (simp; done) | (simp; omega) | omega))) | ((with_reducible apply bl_setCell); (focus (first | exact Nat.le_refl _ | (simp; done) | (simp; omega) | omega))) | ((with_reducible apply up_tr); assumption)))⟩ (fun wS hSS hSu => ?_)
    have ⟨hS1, hS2, hS3, hS4, hS5, hSB⟩ := hSS
    refine wpAnyU_take (i := 0) (d := (some 10)) (v := _) rfl rfl (by kernel_rfl) (fun _ _ _ h => h) hSu.out hSS (Or.inl ⟨by rfl, fun w' hSw => yu_value (run_ldB rfl rfl hSw.2.2.2.1 rfl)⟩) ?_
    try simp only [Act.put, pu1, pu2, pu3]
    refine wpAnyU_take (i := 1) (d := (some 11)) (v := _) rfl rfl (by kernel_rfl) (fun _ _ _ h => h) hSu.out hSS (Or.inl ⟨by rfl, fun w' hSw => yu_value (run_ldB rfl rfl hSw.2.1 rfl)⟩) ?_
    try simp only [Act.put, pu1, pu2, pu3]
    refine wpAnyU_take (i := 3) (d := (some 13)) (v := _) rfl rfl (by kernel_rfl) (fun _ _ _ h => h) hSu.out hSS (Or.inl ⟨by rfl, fun w' hSw => yu_value (run_ldB rfl rfl hSw.2.2.1 rfl)⟩) ?_
    try simp only [Act.put, pu1, pu2, pu3]
    refine wpAnyU_take (i := 5) (d := (some 15)) (v := _) rfl rfl (by kernel_rfl) (fun _ _ _ h => h) hSu.out hSS (Or.inl ⟨by rfl, fun w' hSw => yu_value (run_ldB rfl rfl hSw.2.2.2.1 rfl)⟩) ?_
    try simp only [Act.put, pu1, pu2, pu3]
    refine wpAnyU_take (i := 6) (d := (some 16)) (v := _) rfl rfl (by kernel_rfl) (fun _ _ _ h => h) hSu.out hSS (Or.inl ⟨by rfl, fun w' hSw => yu_value (run_ldB rfl rfl hSw.2.2.1 rfl)⟩) ?_
    try simp only [Act.put, pu1, pu2, pu3]
    have hU := Up.refl wS
    refine wpAnyU_ca2 (i := 2) (j := 12) (k := 13) (d := some 12) (dj := some 6) (dk := some 7) (by kernel_rfl) rfl rfl (by rfl) rfl rfl (by rfl) rfl rfl rfl (by rfl) rfl hSu.out (fun w' => by go_simp) (fun w' hw' => mul_big (hS5.up (hU.trans hw')) (hA.out.up (below_up hSB (hU.trans hw'))) nTwo hx1) (fun v1 w1 hw1 hr1 => ?_) (fun w1 hw1 => ?_) (fun w1 hw1 => ?_)
    · try simp only [Act.put, pu1, pu2, pu3]
      replace hU := hU.trans hw1
      obtain ⟨b1, a1, n1, c1, rfl⟩ := hr1.shape
      have hP := hr1
      refine wpAnyU_ca2 (i := 4) (j := 12) (k := 13) (d := some 14) (dj := some 6) (dk := some 7) (by kernel_rfl) rfl rfl (by rfl) rfl rfl (by rfl) rfl rfl rfl (by rfl) rfl hSu.out (fun w' => by go_simp) (fun w' hw' => add_big (hP.up hw') (hB.out.up (below_up hSB (hU.trans hw'))) h2x hy1) (fun v2 w2 hw2 hr2 => ?_) (fun w2 hw2 => ?_) (fun w2 hw2 => ?_)
      · try simp only [Act.put, pu1, pu2, pu3]
        replace hU := hU.trans hw2
        replace hP := hP.up hw2
        obtain ⟨b2, a2, n2, c2, rfl⟩ := hr2.shape
        have hT := hr2
        refine wpAnyU_ca2 (i := 7) (j := 12) (k := 13) (d := some 17) (dj := some 6) (dk := some 7) (by kernel_rfl) rfl rfl (by rfl) rfl rfl (by rfl) rfl rfl rfl (by rfl) rfl hSu.out (fun w' => by go_simp) (fun w' hw' => mul_big (hS5.up (hU.trans hw')) (hB.out.up (below_up hSB (hU.trans hw'))) nTwo hy1) (fun v3 w3 hw3 hr3 => ?_) (fun w3 hw3 => ?_) (fun w3 hw3 => ?_)
        · try simp only [Act.put, pu1, pu2, pu3]
          replace hU := hU.trans hw3
          replace hP := hP.up hw3
          replace hT := hT.up hw3
          obtain ⟨b3, a3, n3, c3, rfl⟩ := hr3.shape
          have hV := hr3
          refine wpAnyU_ca2 (i := 8) (j := 12) (k := 13) (d := some 18) (dj := some 6) (dk := some 7) (by kernel_rfl) rfl rfl (by rfl) rfl rfl (by rfl) rfl rfl rfl (by rfl) rfl hSu.out (fun w' => by go_simp) (fun w' hw' => div_big2 (hT.up hw') (hV.up hw') hs h2y hYp) (fun v4 w4 hw4 hr4 => ?_) (fun w4 hw4 => ?_) (fun w4 hw4 => ?_)
          · try simp only [Act.put, pu1, pu2, pu3]
            replace hU := hU.trans hw4
            replace hP := hP.up hw4
            replace hT := hT.up hw4
            replace hV := hV.up hw4
            obtain ⟨b4, a4, n4, c4, d4, e4, f4, g4, rfl, hQ, hR⟩ := hr4
            refine wpAnyU_pure (i := 9) (d := (some 9)) (v := ?_) rfl rfl (by kernel_rfl) (fun _ _ _ h => h) hSu.out (Or.inl ⟨by rfl, fun w' _ => yu_value ?_⟩) ?_
            rotate_left
            · (go_simp; (try exact rfl))
            try simp only [Act.put, pu1, pu2, pu3]
            refine wpAnyU_pure (i := 10) (d := (some 19)) (v := ?_) rfl rfl (by kernel_rfl) (fun _ _ _ h => h) hSu.out (Or.inl ⟨by rfl, fun w' _ => yu_value ?_⟩) ?_
            rotate_left
            · (go_simp; (try exact rfl))
            try simp only [Act.put, pu1, pu2, pu3]
            refine wpAnyU_pure (i := 11) (d := (some 20)) (v := ?_) rfl rfl (by kernel_rfl) (fun _ _ _ h => h) hSu.out (Or.inl ⟨by rfl, fun w' _ => yu_value ?_⟩) ?_
            rotate_left
            · (go_simp; (try exact rfl))
            try simp only [Act.put, pu1, pu2, pu3]
            refine wpAnyU_a2 (j := 12) (k := 13) (dj := some 6) (dk := some 7) (by kernel_rfl) rfl rfl (by rfl) rfl rfl rfl (by rfl) rfl hSu.out (fun w5 hw5 => ?_) (fun w5 hw5 => ?_)
            · try simp only [Act.put, pu1, pu2, pu3]
              replace hU := hU.trans hw5
              replace hP := hP.up hw5
              replace hT := hT.up hw5
              replace hV := hV.up hw5
              replace hQ := hQ.up hw5
              replace hR := hR.up hw5
              have ha5 := Up.alloc w5 (.cells #[.bool false, .slice none 0 0] 30)
              have hp_le : wS.heap.size ≤ w5.heap.size := hU.size
              replace hU := hU.trans ha5
              replace hP := hP.up ha5
              replace hT := hT.up ha5
              replace hV := hV.up ha5
              replace hQ := hQ.up ha5
              replace hR := hR.up ha5
              have hp : Blk _ w5.heap.size 30 #[.bool false, .slice none 0 0] := blk_new (w := w5) rfl
              generalize ep : w5.heap.size = p' at hp hp_le ⊢
              refine wpAnyU_allocB (i := 13) (d := some 7) rfl rfl (by kernel_rfl) (by rfl) rfl hSu.out (fun w6 hw6 => ?_)
              try simp only [Act.put, pu1, pu2, pu3]
              replace hU := hU.trans hw6
              replace hP := hP.up hw6
              replace hT := hT.up hw6
              replace hV := hV.up hw6
              replace hQ := hQ.up hw6
              replace hR := hR.up hw6
              replace hp := hp.up hw6
              have ha6 := Up.alloc w6 (.cells #[.bool false, .slice none 0 0] 30)
              have hq_le : wS.heap.size ≤ w6.heap.size := hU.size
              have hne := hp.lt
              replace hU := hU.trans ha6
              replace hP := hP.up ha6
              replace hT := hT.up ha6
              replace hV := hV.up ha6
              replace hQ := hQ.up ha6
              replace hR := hR.up ha6
              replace hp := hp.up ha6
              have hq : Blk _ w6.heap.size 30 #[.bool false, .slice none 0 0] := blk_new (w := w6) rfl
              generalize eq : w6.heap.size = q' at hq hq_le hne ⊢
              refine wpAnyU_one (i := 14) rfl (by kernel_rfl) (by rfl) fun s1 hs1 => ?_
              have k1 := hp.up hs1
              refine wp_stB rfl rfl rfl rfl k1 rfl rfl (one2 _ _ _ _) ?_
              refine ⟨fun h => by simp at h, ?_⟩
              try simp only [Act.put, pu1]
              refine wpAnyU_one (i := 15) rfl (by kernel_rfl) (by rfl) fun s2 hs2 => ?_
              have k2 := ((hq.up hs1).row_other _ (show q' ≠ p' by omega)).up hs2
              refine wp_stB rfl rfl rfl rfl k2 rfl rfl (one2 _ _ _ _) ?_
              refine ⟨fun h => by simp at h, ?_⟩
              try simp only [Act.put, pu1]
              refine wpAnyU_done (by kernel_rfl) (fun wF huE => ?_) _
              go_wp2
              go_meet
              case rel => exact leaf4 hSB hS1 (hU.trans hs1) k1 hs2 k2 huE (hQ.up hs1) (hR.up hs1) (by omega) (by omega) (by omega)
            · try simp only [Act.put, pu1, pu2, pu3]
              replace hU := hU.trans hw5
              replace hP := hP.up hw5
              replace hT := hT.up hw5
              replace hV := hV.up hw5
              replace hQ := hQ.up hw5
              replace hR := hR.up hw5
              have ha5 := Up.alloc w5 (.cells #[.bool false, .slice none 0 0] 30)
              have hq_le : wS.heap.size ≤ w5.heap.size := hU.size
              replace hU := hU.trans ha5
              replace hP := hP.up ha5
              replace hT := hT.up ha5
              replace hV := hV.up ha5
              replace hQ := hQ.up ha5
              replace hR := hR.up ha5
              have hq : Blk _ w5.heap.size 30 #[.bool false, .slice none 0 0] := blk_new (w := w5) rfl
              generalize eq : w5.heap.size = q' at hq hq_le ⊢
              refine wpAnyU_allocB (i := 12) (d := some 6) rfl rfl (by kernel_rfl) (by rfl) rfl hSu.out (fun w8 hw8 => ?_)
              try simp only [Act.put, pu1, pu2, pu3]
              replace hU := hU.trans hw8
              replace hP := hP.up hw8
              replace hT := hT.up hw8
              replace hV := hV.up hw8
              replace hQ := hQ.up hw8
              replace hR := hR.up hw8
              replace hq := hq.up hw8
              have ha8 := Up.alloc w8 (.cells #[.bool false, .slice none 0 0] 30)
              have hp_le : wS.heap.size ≤ w8.heap.size := hU.size
              have hne := hq.lt
              replace hU := hU.trans ha8
              replace hP := hP.up ha8
              replace hT := hT.up ha8
              replace hV := hV.up ha8
              replace hQ := hQ.up ha8
              replace hR := hR.up ha8
              replace hq := hq.up ha8
              have hp : Blk _ w8.heap.size 30 #[.bool false, .slice none 0 0] := blk_new (w := w8) rfl
              generalize ep : w8.heap.size = p' at hp hp_le hne ⊢
              refine wpAnyU_one (i := 14) rfl (by kernel_rfl) (by rfl) fun s1 hs1 => ?_
              have k1 := hp.up hs1
              refine wp_stB rfl rfl rfl rfl k1 rfl rfl (one2 _ _ _ _) ?_
              refine ⟨fun h => by simp at h, ?_⟩
              try simp only [Act.put, pu1]
              refine wpAnyU_one (i := 15) rfl (by kernel_rfl) (by rfl) fun s2 hs2 => ?_
              have k2 := ((hq.up hs1).row_other _ (show q' ≠ p' by omega)).up hs2
              refine wp_stB rfl rfl rfl rfl k2 rfl rfl (one2 _ _ _ _) ?_
              refine ⟨fun h => by simp at h, ?_⟩
              try simp only [Act.put, pu1]
              refine wpAnyU_done (by kernel_rfl) (fun wF huE => ?_) _
              go_wp2
              go_meet
              case rel => exact leaf4 hSB hS1 (hU.trans hs1) k1 hs2 k2 huE (hQ.up hs1) (hR.up hs1) (by omega) (by omega) (by omega)
          · try simp only [Act.put, pu1, pu2, pu3]
            replace hU := hU.trans hw4
            replace hP := hP.up hw4
            replace hT := hT.up hw4
            replace hV := hV.up hw4
            have ha4 := Up.alloc w4 (.cells #[.bool false, .slice none 0 0] 30)
            have hp_le : wS.heap.size ≤ w4.heap.size := hU.size
            replace hU := hU.trans ha4
            replace hP := hP.up ha4
            replace hT := hT.up ha4
            replace hV := hV.up ha4
            have hp : Blk _ w4.heap.size 30 #[.bool false, .slice none 0 0] := blk_new (w := w4) rfl
            generalize ep : w4.heap.size = p' at hp hp_le ⊢
            refine wpAnyU_ca1 (i := 8) (j := 13) (d := some 18) (dj := some 7) (by kernel_rfl) rfl rfl (by rfl) rfl rfl (by rfl) rfl hSu.out (fun w' => by go_simp) (fun w' hw' => div_big2 (hT.up hw') (hV.up hw') hs h2y hYp) (fun v10 w10 hw10 hr10 => ?_) (fun w10 hw10 => ?_)
            · try simp only [Act.put, pu1, pu2, pu3]
              replace hU := hU.trans hw10
              replace hP := hP.up hw10
              replace hT := hT.up hw10
              replace hV := hV.up hw10
              replace hp := hp.up hw10
              obtain ⟨b10, a10, n10, c10, d10, e10, f10, g10, rfl, hQ, hR⟩ := hr10
              refine wpAnyU_pure (i := 9) (d := (some 9)) (v := ?_) rfl rfl (by kernel_rfl) (fun _ _ _ h => h) hSu.out (Or.inl ⟨by rfl, fun w' _ => yu_value ?_⟩) ?_
              rotate_left
              · (go_simp; (try exact rfl))
              try simp only [Act.put, pu1, pu2, pu3]
              refine wpAnyU_pure (i := 10) (d := (some 19)) (v := ?_) rfl rfl (by kernel_rfl) (fun _ _ _ h => h) hSu.out (Or.inl ⟨by rfl, fun w' _ => yu_value ?_⟩) ?_
              rotate_left
              · (go_simp; (try exact rfl))
              try simp only [Act.put, pu1, pu2, pu3]
              refine wpAnyU_pure (i := 11) (d := (some 20)) (v := ?_) rfl rfl (by kernel_rfl) (fun _ _ _ h => h) hSu.out (Or.inl ⟨by rfl, fun w' _ => yu_value ?_⟩) ?_
              rotate_left
              · (go_simp; (try exact rfl))
              try simp only [Act.put, pu1, pu2, pu3]
              refine wpAnyU_allocB (i := 13) (d := some 7) rfl rfl (by kernel_rfl) (by rfl) rfl hSu.out (fun w11 hw11 => ?_)
              try simp only [Act.put, pu1, pu2, pu3]
              replace hU := hU.trans hw11
              replace hP := hP.up hw11
              replace hT := hT.up hw11
              replace hV := hV.up hw11
              replace hQ := hQ.up hw11
              replace hR := hR.up hw11
              replace hp := hp.up hw11
              have ha11 := Up.alloc w11 (.cells #[.bool false, .slice none 0 0] 30)
              have hq_le : wS.heap.size ≤ w11.heap.size := hU.size
              have hne := hp.lt
              replace hU := hU.trans ha11
              replace hP := hP.up ha11
              replace hT := hT.up ha11
              replace hV := hV.up ha11
              replace hQ := hQ.up ha11
              replace hR := hR.up ha11
              replace hp := hp.up ha11
              have hq : Blk _ w11.heap.size 30 #[.bool false, .slice none 0 0] := blk_new (w := w11) rfl
              generalize eq : w11.heap.size = q' at hq hq_le hne ⊢
              refine wpAnyU_one (i := 14) rfl (by kernel_rfl) (by rfl) fun s1 hs1 => ?_
              have k1 := hp.up hs1
              refine wp_stB rfl rfl rfl rfl k1 rfl rfl (one2 _ _ _ _) ?_
              refine ⟨fun h => by simp at h, ?_⟩
              try simp only [Act.put, pu1]
              refine wpAnyU_one (i := 15) rfl (by kernel_rfl) (by rfl) fun s2 hs2 => ?_
              have k2 := ((hq.up hs1).row_other _ (show q' ≠ p' by omega)).up hs2
              refine wp_stB rfl rfl rfl rfl k2 rfl rfl (one2 _ _ _ _) ?_
              refine ⟨fun h => by simp at h, ?_⟩
              try simp only [Act.put, pu1]
              refine wpAnyU_done (by kernel_rfl) (fun wF huE => ?_) _
              go_wp2
              go_meet
              case rel => exact leaf4 hSB hS1 (hU.trans hs1) k1 hs2 k2 huE (hQ.up hs1) (hR.up hs1) (by omega) (by omega) (by omega)
            · try simp only [Act.put, pu1, pu2, pu3]
              replace hU := hU.trans hw10
              replace hP := hP.up hw10
              replace hT := hT.up hw10
              replace hV := hV.up hw10
              replace hp := hp.up hw10
              have ha10 := Up.alloc w10 (.cells #[.bool false, .slice none 0 0] 30)
              have hq_le : wS.heap.size ≤ w10.heap.size := hU.size
              have hne := hp.lt
              replace hU := hU.trans ha10
              replace hP := hP.up ha10
              replace hT := hT.up ha10
              replace hV := hV.up ha10
              replace hp := hp.up ha10
              have hq : Blk _ w10.heap.size 30 #[.bool false, .slice none 0 0] := blk_new (w := w10) rfl
              generalize eq : w10.heap.size = q' at hq hq_le hne ⊢
              refine wpAnyU_callE (i := 8) (d := some 18) rfl rfl (by kernel_rfl) (by rfl) hSu.out (fun w' => by go_simp) (fun w' hw' => div_big2 (hT.up hw') (hV.up hw') hs h2y hYp) (fun v13 w13 hw13 hr13 => ?_)
              try simp only [Act.put, pu1, pu2, pu3]
              replace hU := hU.trans hw13
              replace hP := hP.up hw13
              replace hT := hT.up hw13
              replace hV := hV.up hw13
              replace hp := hp.up hw13
              replace hq := hq.up hw13
              obtain ⟨b13, a13, n13, c13, d13, e13, f13, g13, rfl, hQ, hR⟩ := hr13
              refine wpAnyU_pure (i := 9) (d := (some 9)) (v := ?_) rfl rfl (by kernel_rfl) (fun _ _ _ h => h) hSu.out (Or.inl ⟨by rfl, fun w' _ => yu_value ?_⟩) ?_
              rotate_left
              · (go_simp; (try exact rfl))
              try simp only [Act.put, pu1, pu2, pu3]
              refine wpAnyU_pure (i := 10) (d := (some 19)) (v := ?_) rfl rfl (by kernel_rfl) (fun _ _ _ h => h) hSu.out (Or.inl ⟨by rfl, fun w' _ => yu_value ?_⟩) ?_
              rotate_left
              · (go_simp; (try exact rfl))
              try simp only [Act.put, pu1, pu2, pu3]
              refine wpAnyU_pure (i := 11) (d := (some 20)) (v := ?_) rfl rfl (by kernel_rfl) (fun _ _ _ h => h) hSu.out (Or.inl ⟨by rfl, fun w' _ => yu_value ?_⟩) ?_
              rotate_left
              · (go_simp; (try exact rfl))
              try simp only [Act.put, pu1, pu2, pu3]
              refine wpAnyU_one (i := 14) rfl (by kernel_rfl) (by rfl) fun s1 hs1 => ?_
              have k1 := hp.up hs1
              refine wp_stB rfl rfl rfl rfl k1 rfl rfl (one2 _ _ _ _) ?_
              refine ⟨fun h => by simp at h, ?_⟩
              try simp only [Act.put, pu1]
              refine wpAnyU_one (i := 15) rfl (by kernel_rfl) (by rfl) fun s2 hs2 => ?_
              have k2 := ((hq.up hs1).row_other _ (show q' ≠ p' by omega)).up hs2
              refine wp_stB rfl rfl rfl rfl k2 rfl rfl (one2 _ _ _ _) ?_
              refine ⟨fun h => by simp at h, ?_⟩
              try simp only [Act.put, pu1]
              refine wpAnyU_done (by kernel_rfl) (fun wF huE => ?_) _
              go_wp2
              go_meet
              case rel => exact leaf4 hSB hS1 (hU.trans hs1) k1 hs2 k2 huE (hQ.up hs1) (hR.up hs1) (by omega) (by omega) (by omega)
          · try simp only [Act.put, pu1, pu2, pu3]
            replace hU := hU.trans hw4
            replace hP := hP.up hw4
            replace hT := hT.up hw4
            replace hV := hV.up hw4
            have ha4 := Up.alloc w4 (.cells #[.bool false, .slice none 0 0] 30)
            have hq_le : wS.heap.size ≤ w4.heap.size := hU.size
            replace hU := hU.trans ha4
            replace hP := hP.up ha4
            replace hT := hT.up ha4
            replace hV := hV.up ha4
            have hq : Blk _ w4.heap.size 30 #[.bool false, .slice none 0 0] := blk_new (w := w4) rfl
            generalize eq : w4.heap.size = q' at hq hq_le ⊢
            refine wpAnyU_ca1 (i := 8) (j := 12) (d := some 18) (dj := some 6) (by kernel_rfl) rfl rfl (by rfl) rfl rfl (by rfl) rfl hSu.out (fun w' => by go_simp) (fun w' hw' => div_big2 (hT.up hw') (hV.up hw') hs h2y hYp) (fun v15 w15 hw15 hr15 => ?_) (fun w15 hw15 => ?_)
            · try simp only [Act.put, pu1, pu2, pu3]
              replace hU := hU.trans hw15
              replace hP := hP.up hw15
              replace hT := hT.up hw15
              replace hV := hV.up hw15
              replace hq := hq.up hw15
              obtain ⟨b15, a15, n15, c15, d15, e15, f15, g15, rfl, hQ, hR⟩ := hr15
              refine wpAnyU_pure (i := 9) (d := (some 9)) (v := ?_) rfl rfl (by kernel_rfl) (fun _ _ _ h => h) hSu.out (Or.inl ⟨by rfl, fun w' _ => yu_value ?_⟩) ?_
              rotate_left
              · (go_simp; (try exact rfl))
              try simp only [Act.put, pu1, pu2, pu3]
              refine wpAnyU_pure (i := 10) (d := (some 19)) (v := ?_) rfl rfl (by kernel_rfl) (fun _ _ _ h => h) hSu.out (Or.inl ⟨by rfl, fun w' _ => yu_value ?_⟩) ?_
              rotate_left
              · (go_simp; (try exact rfl))
              try simp only [Act.put, pu1, pu2, pu3]
              refine wpAnyU_pure (i := 11) (d := (some 20)) (v := ?_) rfl rfl (by kernel_rfl) (fun _ _ _ h => h) hSu.out (Or.inl ⟨by rfl, fun w' _ => yu_value ?_⟩) ?_
              rotate_left
              · (go_simp; (try exact rfl))
              try simp only [Act.put, pu1, pu2, pu3]
              refine wpAnyU_allocB (i := 12) (d := some 6) rfl rfl (by kernel_rfl) (by rfl) rfl hSu.out (fun w16 hw16 => ?_)
              try simp only [Act.put, pu1, pu2, pu3]
              replace hU := hU.trans hw16
              replace hP := hP.up hw16
              replace hT := hT.up hw16
              replace hV := hV.up hw16
              replace hQ := hQ.up hw16
              replace hR := hR.up hw16
              replace hq := hq.up hw16
              have ha16 := Up.alloc w16 (.cells #[.bool false, .slice none 0 0] 30)
              have hp_le : wS.heap.size ≤ w16.heap.size := hU.size
              have hne := hq.lt
              replace hU := hU.trans ha16
              replace hP := hP.up ha16
              replace hT := hT.up ha16
              replace hV := hV.up ha16
              replace hQ := hQ.up ha16
              replace hR := hR.up ha16
              replace hq := hq.up ha16
              have hp : Blk _ w16.heap.size 30 #[.bool false, .slice none 0 0] := blk_new (w := w16) rfl
              generalize ep : w16.heap.size = p' at hp hp_le hne ⊢
              refine wpAnyU_one (i := 14) rfl (by kernel_rfl) (by rfl) fun s1 hs1 => ?_
              have k1 := hp.up hs1
              refine wp_stB rfl rfl rfl rfl k1 rfl rfl (one2 _ _ _ _) ?_
              refine ⟨fun h => by simp at h, ?_⟩
              try simp only [Act.put, pu1]
              refine wpAnyU_one (i := 15) rfl (by kernel_rfl) (by rfl) fun s2 hs2 => ?_
              have k2 := ((hq.up hs1).row_other _ (show q' ≠ p' by omega)).up hs2
              refine wp_stB rfl rfl rfl rfl k2 rfl rfl (one2 _ _ _ _) ?_
              refine ⟨fun h => by simp at h, ?_⟩
              try simp only [Act.put, pu1]
              refine wpAnyU_done (by kernel_rfl) (fun wF huE => ?_) _
              go_wp2
              go_meet
              case rel => exact leaf4 hSB hS1 (hU.trans hs1) k1 hs2 k2 huE (hQ.up hs1) (hR.up hs1) (by omega) (by omega) (by omega)
            · try simp only [Act.put, pu1, pu2, pu3]
              replace hU := hU.trans hw15
              replace hP := hP.up hw15
              replace hT := hT.up hw15
              replace hV := hV.up hw15
              replace hq := hq.up hw15
              have ha15 := Up.alloc w15 (.cells #[.bool false, .slice none 0 0] 30)
              have hp_le : wS.heap.size ≤ w15.heap.size := hU.size
              have hne := hq.lt
              replace hU := hU.trans ha15
              replace hP := hP.up ha15
              replace hT := hT.up ha15
              replace hV := hV.up ha15
              replace hq := hq.up ha15
              have hp : Blk _ w15.heap.size 30 #[.bool false, .slice none 0 0] := blk_new (w := w15) rfl
              generalize ep : w15.heap.size = p' at hp hp_le hne ⊢
              refine wpAnyU_callE (i := 8) (d := some 18) rfl rfl (by kernel_rfl) (by rfl) hSu.out (fun w' => by go_simp) (fun w' hw' => div_big2 (hT.up hw') (hV.up hw') hs h2y hYp) (fun v18 w18 hw18 hr18 => ?_)
              try simp only [Act.put, pu1, pu2, pu3]
              replace hU := hU.trans hw18
              replace hP := hP.up hw18
              replace hT := hT.up hw18
              replace hV := hV.up hw18
              replace hp := hp.up hw18
              replace hq := hq.up hw18
              obtain ⟨b18, a18, n18, c18, d18, e18, f18, g18, rfl, hQ, hR⟩ := hr18
              refine wpAnyU_pure (i := 9) (d := (some 9)) (v := ?_) rfl rfl (by kernel_rfl) (fun _ _ _ h => h) hSu.out (Or.inl ⟨by rfl, fun w' _ => yu_value ?_⟩) ?_
              rotate_left
              · (go_simp; (try exact rfl))
              try simp only [Act.put, pu1, pu2, pu3]
              refine wpAnyU_pure (i := 10) (d := (some 19)) (v := ?_) rfl rfl (by kernel_rfl) (fun _ _ _ h => h) hSu.out (Or.inl ⟨by rfl, fun w' _ => yu_value ?_⟩) ?_
              rotate_left
              · (go_simp; (try exact rfl))
              try simp only [Act.put, pu1, pu2, pu3]
              refine wpAnyU_pure (i := 11) (d := (some 20)) (v := ?_) rfl rfl (by kernel_rfl) (fun _ _ _ h => h) hSu.out (Or.inl ⟨by rfl, fun w' _ => yu_value ?_⟩) ?_
              rotate_left
              · (go_simp; (try exact rfl))
              try simp only [Act.put, pu1, pu2, pu3]
              refine wpAnyU_one (i := 14) rfl (by kernel_rfl) (by rfl) fun s1 hs1 => ?_
              have k1 := hp.up hs1
              refine wp_stB rfl rfl rfl rfl k1 rfl rfl (one2 _ _ _ _) ?_
              refine ⟨fun h => by simp at h, ?_⟩
              try simp only [Act.put, pu1]
              refine wpAnyU_one (i := 15) rfl (by kernel_rfl) (by rfl) fun s2 hs2 => ?_
              have k2 := ((hq.up hs1).row_other _ (show q' ≠ p' by omega)).up hs2
              refine wp_stB rfl rfl rfl rfl k2 rfl rfl (one2 _ _ _ _) ?_
              refine ⟨fun h => by simp at h, ?_⟩
              try simp only [Act.put, pu1]
              refine wpAnyU_done (by kernel_rfl) (fun wF huE => ?_) _
              go_wp2
              go_meet
              case rel => exact leaf4 hSB hS1 (hU.trans hs1) k1 hs2 k2 huE (hQ.up hs1) (hR.up hs1) (by omega) (by omega) (by omega)
        · try simp only [Act.put, pu1, pu2, pu3]
          replace hU := hU.trans hw3
          replace hP := hP.up hw3
          replace hT := hT.up hw3
          have ha3 := Up.alloc w3 (.cells #[.bool false, .slice none 0 0] 30)
          have hp_le : wS.heap.size ≤ w3.heap.size := hU.size
          replace hU := hU.trans ha3
          replace hP := hP.up ha3
          replace hT := hT.up ha3
          have hp : Blk _ w3.heap.size 30 #[.bool false, .slice none 0 0] := blk_new (w := w3) rfl
          generalize ep : w3.heap.size = p' at hp hp_le ⊢
          refine wpAnyU_ca1 (i := 7) (j := 13) (d := some 17) (dj := some 7) (by kernel_rfl) rfl rfl (by rfl) rfl rfl (by rfl) rfl hSu.out (fun w' => by go_simp) (fun w' hw' => mul_big (hS5.up (hU.trans hw')) (hB.out.up (below_up hSB (hU.trans hw'))) nTwo hy1) (fun v20 w20 hw20 hr20 => ?_) (fun w20 hw20 => ?_)
          · try simp only [Act.put, pu1, pu2, pu3]
            replace hU := hU.trans hw20
            replace hP := hP.up hw20
            replace hT := hT.up hw20
            replace hp := hp.up hw20
            obtain ⟨b20, a20, n20, c20, rfl⟩ := hr20.shape
            have hV := hr20
            refine wpAnyU_ca1 (i := 8) (j := 13) (d := some 18) (dj := some 7) (by kernel_rfl) rfl rfl (by rfl) rfl rfl (by rfl) rfl hSu.out (fun w' => by go_simp) (fun w' hw' => div_big2 (hT.up hw') (hV.up hw') hs h2y hYp) (fun v21 w21 hw21 hr21 => ?_) (fun w21 hw21 => ?_)
            · try simp only [Act.put, pu1, pu2, pu3]
              replace hU := hU.trans hw21
              replace hP := hP.up hw21
              replace hT := hT.up hw21
              replace hV := hV.up hw21
              replace hp := hp.up hw21
              obtain ⟨b21, a21, n21, c21, d21, e21, f21, g21, rfl, hQ, hR⟩ := hr21
              refine wpAnyU_pure (i := 9) (d := (some 9)) (v := ?_) rfl rfl (by kernel_rfl) (fun _ _ _ h => h) hSu.out (Or.inl ⟨by rfl, fun w' _ => yu_value ?_⟩) ?_
              rotate_left
              · (go_simp; (try exact rfl))
              try simp only [Act.put, pu1, pu2, pu3]
              refine wpAnyU_pure (i := 10) (d := (some 19)) (v := ?_) rfl rfl (by kernel_rfl) (fun _ _ _ h => h) hSu.out (Or.inl ⟨by rfl, fun w' _ => yu_value ?_⟩) ?_
              rotate_left
              · (go_simp; (try exact rfl))
              try simp only [Act.put, pu1, pu2, pu3]
              refine wpAnyU_pure (i := 11) (d := (some 20)) (v := ?_) rfl rfl (by kernel_rfl) (fun _ _ _ h => h) hSu.out (Or.inl ⟨by rfl, fun w' _ => yu_value ?_⟩) ?_
              rotate_left
              · (go_simp; (try exact rfl))
              try simp only [Act.put, pu1, pu2, pu3]
              refine wpAnyU_allocB (i := 13) (d := some 7) rfl rfl (by kernel_rfl) (by rfl) rfl hSu.out (fun w22 hw22 => ?_)
              try simp only [Act.put, pu1, pu2, pu3]
              replace hU := hU.trans hw22
              replace hP := hP.up hw22
              replace hT := hT.up hw22
              replace hV := hV.up hw22
              replace hQ := hQ.up hw22
              replace hR := hR.up hw22
              replace hp := hp.up hw22
              have ha22 := Up.alloc w22 (.cells #[.bool false, .slice none 0 0] 30)
              have hq_le : wS.heap.size ≤ w22.heap.size := hU.size
              have hne := hp.lt
              replace hU := hU.trans ha22
              replace hP := hP.up ha22
              replace hT := hT.up ha22
              replace hV := hV.up ha22
              replace hQ := hQ.up ha22
              replace hR := hR.up ha22
              replace hp := hp.up ha22
              have hq : Blk _ w22.heap.size 30 #[.bool false, .slice none 0 0] := blk_new (w := w22) rfl
              generalize eq : w22.heap.size = q' at hq hq_le hne ⊢
              refine wpAnyU_one (i := 14) rfl (by kernel_rfl) (by rfl) fun s1 hs1 => ?_
              have k1 := hp.up hs1
              refine wp_stB rfl rfl rfl rfl k1 rfl rfl (one2 _ _ _ _) ?_
              refine ⟨fun h => by simp at h, ?_⟩
              try simp only [Act.put, pu1]
              refine wpAnyU_one (i := 15) rfl (by kernel_rfl) (by rfl) fun s2 hs2 => ?_
              have k2 := ((hq.up hs1).row_other _ (show q' ≠ p' by omega)).up hs2
              refine wp_stB rfl rfl rfl rfl k2 rfl rfl (one2 _ _ _ _) ?_
              refine ⟨fun h => by simp at h, ?_⟩
              try simp only [Act.put, pu1]
              refine wpAnyU_done (by kernel_rfl) (fun wF huE => ?_) _
              go_wp2
              go_meet
              case rel => exact leaf4 hSB hS1 (hU.trans hs1) k1 hs2 k2 huE (hQ.up hs1) (hR.up hs1) (by omega) (by omega) (by omega)
            · try simp only [Act.put, pu1, pu2, pu3]
              replace hU := hU.trans hw21
              replace hP := hP.up hw21
              replace hT := hT.up hw21
              replace hV := hV.up hw21
              replace hp := hp.up hw21
              have ha21 := Up.alloc w21 (.cells #[.bool false, .slice none 0 0] 30)
              have hq_le : wS.heap.size ≤ w21.heap.size := hU.size
              have hne := hp.lt
              replace hU := hU.trans ha21
              replace hP := hP.up ha21
              replace hT := hT.up ha21
              replace hV := hV.up ha21
              replace hp := hp.up ha21
              have hq : Blk _ w21.heap.size 30 #[.bool false, .slice none 0 0] := blk_new (w := w21) rfl
              generalize eq : w21.heap.size = q' at hq hq_le hne ⊢
              refine wpAnyU_callE (i := 8) (d := some 18) rfl rfl (by kernel_rfl) (by rfl) hSu.out (fun w' => by go_simp) (fun w' hw' => div_big2 (hT.up hw') (hV.up hw') hs h2y hYp) (fun v24 w24 hw24 hr24 => ?_)
              try simp only [Act.put, pu1, pu2, pu3]
              replace hU := hU.trans hw24
              replace hP := hP.up hw24
              replace hT := hT.up hw24
              replace hV := hV.up hw24
              replace hp := hp.up hw24
              replace hq := hq.up hw24
              obtain ⟨b24, a24, n24, c24, d24, e24, f24, g24, rfl, hQ, hR⟩ := hr24
              refine wpAnyU_pure (i := 9) (d := (some 9)) (v := ?_) rfl rfl (by kernel_rfl) (fun _ _ _ h => h) hSu.out (Or.inl ⟨by rfl, fun w' _ => yu_value ?_⟩) ?_
              rotate_left
              · (go_simp; (try exact rfl))
              try simp only [Act.put, pu1, pu2, pu3]
              refine wpAnyU_pure (i := 10) (d := (some 19)) (v := ?_) rfl rfl (by kernel_rfl) (fun _ _ _ h => h) hSu.out (Or.inl ⟨by rfl, fun w' _ => yu_value ?_⟩) ?_
              rotate_left
              · (go_simp; (try exact rfl))
              try simp only [Act.put, pu1, pu2, pu3]
              refine wpAnyU_pure (i := 11) (d := (some 20)) (v := ?_) rfl rfl (by kernel_rfl) (fun _ _ _ h => h) hSu.out (Or.inl ⟨by rfl, fun w' _ => yu_value ?_⟩) ?_
              rotate_left
              · (go_simp; (try exact rfl))
              try simp only [Act.put, pu1, pu2, pu3]
              refine wpAnyU_one (i := 14) rfl (by kernel_rfl) (by rfl) fun s1 hs1 => ?_
              have k1 := hp.up hs1
              refine wp_stB rfl rfl rfl rfl k1 rfl rfl (one2 _ _ _ _) ?_
              refine ⟨fun h => by simp at h, ?_⟩
              try simp only [Act.put, pu1]
              refine wpAnyU_one (i := 15) rfl (by kernel_rfl) (by rfl) fun s2 hs2 => ?_
              have k2 := ((hq.up hs1).row_other _ (show q' ≠ p' by omega)).up hs2
              refine wp_stB rfl rfl rfl rfl k2 rfl rfl (one2 _ _ _ _) ?_
              refine ⟨fun h => by simp at h, ?_⟩
              try simp only [Act.put, pu1]
              refine wpAnyU_done (by kernel_rfl) (fun wF huE => ?_) _
              go_wp2
              go_meet
              case rel => exact leaf4 hSB hS1 (hU.trans hs1) k1 hs2 k2 huE (hQ.up hs1) (hR.up hs1) (by omega) (by omega) (by omega)
          · try simp only [Act.put, pu1, pu2, pu3]
            replace hU := hU.trans hw20
            replace hP := hP.up hw20
            replace hT := hT.up hw20
            replace hp := hp.up hw20
            have ha20 := Up.alloc w20 (.cells #[.bool false, .slice none 0 0] 30)
            have hq_le : wS.heap.size ≤ w20.heap.size := hU.size
            have hne := hp.lt
            replace hU := hU.trans ha20
            replace hP := hP.up ha20
            replace hT := hT.up ha20
            replace hp := hp.up ha20
            have hq : Blk _ w20.heap.size 30 #[.bool false, .slice none 0 0] := blk_new (w := w20) rfl
            generalize eq : w20.heap.size = q' at hq hq_le hne ⊢
            refine wpAnyU_callE (i := 7) (d := some 17) rfl rfl (by kernel_rfl) (by rfl) hSu.out (fun w' => by go_simp) (fun w' hw' => mul_big (hS5.up (hU.trans hw')) (hB.out.up (below_up hSB (hU.trans hw'))) nTwo hy1) (fun v26 w26 hw26 hr26 => ?_)
            try simp only [Act.put, pu1, pu2, pu3]
            replace hU := hU.trans hw26
            replace hP := hP.up hw26
            replace hT := hT.up hw26
            replace hp := hp.up hw26
            replace hq := hq.up hw26
            obtain ⟨b26, a26, n26, c26, rfl⟩ := hr26.shape
            have hV := hr26
            refine wpAnyU_callE (i := 8) (d := some 18) rfl rfl (by kernel_rfl) (by rfl) hSu.out (fun w' => by go_simp) (fun w' hw' => div_big2 (hT.up hw') (hV.up hw') hs h2y hYp) (fun v27 w27 hw27 hr27 => ?_)
            try simp only [Act.put, pu1, pu2, pu3]
            replace hU := hU.trans hw27
            replace hP := hP.up hw27
            replace hT := hT.up hw27
            replace hV := hV.up hw27
            replace hp := hp.up hw27
            replace hq := hq.up hw27
            obtain ⟨b27, a27, n27, c27, d27, e27, f27, g27, rfl, hQ, hR⟩ := hr27
            refine wpAnyU_pure (i := 9) (d := (some 9)) (v := ?_) rfl rfl (by kernel_rfl) (fun _ _ _ h => h) hSu.out (Or.inl ⟨by rfl, fun w' _ => yu_value ?_⟩) ?_
            rotate_left
            · (go_simp; (try exact rfl))
            try simp only [Act.put, pu1, pu2, pu3]
            refine wpAnyU_pure (i := 10) (d := (some 19)) (v := ?_) rfl rfl (by kernel_rfl) (fun _ _ _ h => h) hSu.out (Or.inl ⟨by rfl, fun w' _ => yu_value ?_⟩) ?_
            rotate_left
            · (go_simp; (try exact rfl))
            try simp only [Act.put, pu1, pu2, pu3]
            refine wpAnyU_pure (i := 11) (d := (some 20)) (v := ?_) rfl rfl (by kernel_rfl) (fun _ _ _ h => h) hSu.out (Or.inl ⟨by rfl, fun w' _ => yu_value ?_⟩) ?_
            rotate_left
            · (go_simp; (try exact rfl))
            try simp only [Act.put, pu1, pu2, pu3]
            refine wpAnyU_one (i := 14) rfl (by kernel_rfl) (by rfl) fun s1 hs1 => ?_
            have k1 := hp.up hs1
            refine wp_stB rfl rfl rfl rfl k1 rfl rfl (one2 _ _ _ _) ?_
            refine ⟨fun h => by simp at h, ?_⟩
            try simp only [Act.put, pu1]
            refine wpAnyU_one (i := 15) rfl (by kernel_rfl) (by rfl) fun s2 hs2 => ?_
            have k2 := ((hq.up hs1).row_other _ (show q' ≠ p' by omega)).up hs2
            refine wp_stB rfl rfl rfl rfl k2 rfl rfl (one2 _ _ _ _) ?_
            refine ⟨fun h => by simp at h, ?_⟩
            try simp only [Act.put, pu1]
            refine wpAnyU_done (by kernel_rfl) (fun wF huE => ?_) _
            go_wp2
            go_meet
            case rel => exact leaf4 hSB hS1 (hU.trans hs1) k1 hs2 k2 huE (hQ.up hs1) (hR.up hs1) (by omega) (by omega) (by omega)
        · try simp only [Act.put, pu1, pu2, pu3]
          replace hU := hU.trans hw3
          replace hP := hP.up hw3
          replace hT := hT.up hw3
          have ha3 := Up.alloc w3 (.cells #[.bool false, .slice none 0 0] 30)
          have hq_le : wS.heap.size ≤ w3.heap.size := hU.size
          replace hU := hU.trans ha3
          replace hP := hP.up ha3
          replace hT := hT.up ha3
          have hq : Blk _ w3.heap.size 30 #[.bool false, .slice none 0 0] := blk_new (w := w3) rfl
          generalize eq : w3.heap.size = q' at hq hq_le ⊢
          refine wpAnyU_ca1 (i := 7) (j := 12) (d := some 17) (dj := some 6) (by kernel_rfl) rfl rfl (by rfl) rfl rfl (by rfl) rfl hSu.out (fun w' => by go_simp) (fun w' hw' => mul_big (hS5.up (hU.trans hw')) (hB.out.up (below_up hSB (hU.trans hw'))) nTwo hy1) (fun v29 w29 hw29 hr29 => ?_) (fun w29 hw29 => ?_)
          · try simp only [Act.put, pu1, pu2, pu3]
            replace hU := hU.trans hw29
            replace hP := hP.up hw29
            replace hT := hT.up hw29
            replace hq := hq.up hw29
            obtain ⟨b29, a29, n29, c29, rfl⟩ := hr29.shape
            have hV := hr29
            refine wpAnyU_ca1 (i := 8) (j := 12) (d := some 18) (dj := some 6) (by kernel_rfl) rfl rfl (by rfl) rfl rfl (by rfl) rfl hSu.out (fun w' => by go_simp) (fun w' hw' => div_big2 (hT.up hw') (hV.up hw') hs h2y hYp) (fun v30 w30 hw30 hr30 => ?_) (fun w30 hw30 => ?_)
            · try simp only [Act.put, pu1, pu2, pu3]
              replace hU := hU.trans hw30
              replace hP := hP.up hw30
              replace hT := hT.up hw30
              replace hV := hV.up hw30
              replace hq := hq.up hw30
              obtain ⟨b30, a30, n30, c30, d30, e30, f30, g30, rfl, hQ, hR⟩ := hr30
              refine wpAnyU_pure (i := 9) (d := (some 9)) (v := ?_) rfl rfl (by kernel_rfl) (fun _ _ _ h => h) hSu.out (Or.inl ⟨by rfl, fun w' _ => yu_value ?_⟩) ?_
              rotate_left
              · (go_simp; (try exact rfl))
              try simp only [Act.put, pu1, pu2, pu3]
              refine wpAnyU_pure (i := 10) (d := (some 19)) (v := ?_) rfl rfl (by kernel_rfl) (fun _ _ _ h => h) hSu.out (Or.inl ⟨by rfl, fun w' _ => yu_value ?_⟩) ?_
              rotate_left
              · (go_simp; (try exact rfl))
              try simp only [Act.put, pu1, pu2, pu3]
              refine wpAnyU_pure (i := 11) (d := (some 20)) (v := ?_) rfl rfl (by kernel_rfl) (fun _ _ _ h => h) hSu.out (Or.inl ⟨by rfl, fun w' _ => yu_value ?_⟩) ?_
              rotate_left
              · (go_simp; (try exact rfl))
              try simp only [Act.put, pu1, pu2, pu3]
              refine wpAnyU_allocB (i := 12) (d := some 6) rfl rfl (by kernel_rfl) (by rfl) rfl hSu.out (fun w31 hw31 => ?_)
              try simp only [Act.put, pu1, pu2, pu3]
              replace hU := hU.trans hw31
              replace hP := hP.up hw31
              replace hT := hT.up hw31
              replace hV := hV.up hw31
              replace hQ := hQ.up hw31
              replace hR := hR.up hw31
              replace hq := hq.up hw31
              have ha31 := Up.alloc w31 (.cells #[.bool false, .slice none 0 0] 30)
              have hp_le : wS.heap.size ≤ w31.heap.size := hU.size
              have hne := hq.lt
              replace hU := hU.trans ha31
              replace hP := hP.up ha31
              replace hT := hT.up ha31
              replace hV := hV.up ha31
              replace hQ := hQ.up ha31
              replace hR := hR.up ha31
              replace hq := hq.up ha31
              have hp : Blk _ w31.heap.size 30 #[.bool false, .slice none 0 0] := blk_new (w := w31) rfl
              generalize ep : w31.heap.size = p' at hp hp_le hne ⊢
              refine wpAnyU_one (i := 14) rfl (by kernel_rfl) (by rfl) fun s1 hs1 => ?_
              have k1 := hp.up hs1
              refine wp_stB rfl rfl rfl rfl k1 rfl rfl (one2 _ _ _ _) ?_
              refine ⟨fun h => by simp at h, ?_⟩
              try simp only [Act.put, pu1]
              refine wpAnyU_one (i := 15) rfl (by kernel_rfl) (by rfl) fun s2 hs2 => ?_
              have k2 := ((hq.up hs1).row_other _ (show q' ≠ p' by omega)).up hs2
              refine wp_stB rfl rfl rfl rfl k2 rfl rfl (one2 _ _ _ _) ?_
              refine ⟨fun h => by simp at h, ?_⟩
              try simp only [Act.put, pu1]
              refine wpAnyU_done (by kernel_rfl) (fun wF huE => ?_) _
              go_wp2
              go_meet
              case rel => exact leaf4 hSB hS1 (hU.trans hs1) k1 hs2 k2 huE (hQ.up hs1) (hR.up hs1) (by omega) (by omega) (by omega)
            · try simp only [Act.put, pu1, pu2, pu3]
              replace hU := hU.trans hw30
              replace hP := hP.up hw30
              replace hT := hT.up hw30
              replace hV := hV.up hw30
              replace hq := hq.up hw30
              have ha30 := Up.alloc w30 (.cells #[.bool false, .slice none 0 0] 30)
              have hp_le : wS.heap.size ≤ w30.heap.size := hU.size
              have hne := hq.lt
              replace hU := hU.trans ha30
              replace hP := hP.up ha30
              replace hT := hT.up ha30
              replace hV := hV.up ha30
              replace hq := hq.up ha30
              have hp : Blk _ w30.heap.size 30 #[.bool false, .slice none 0 0] := blk_new (w := w30) rfl
              generalize ep : w30.heap.size = p' at hp hp_le hne ⊢
              refine wpAnyU_callE (i := 8) (d := some 18) rfl rfl (by kernel_rfl) (by rfl) hSu.out (fun w' => by go_simp) (fun w' hw' => div_big2 (hT.up hw') (hV.up hw') hs h2y hYp) (fun v33 w33 hw33 hr33 => ?_)
              try simp only [Act.put, pu1, pu2, pu3]
              replace hU := hU.trans hw33
              replace hP := hP.up hw33
              replace hT := hT.up hw33
              replace hV := hV.up hw33
              replace hp := hp.up hw33
              replace hq := hq.up hw33
              obtain ⟨b33, a33, n33, c33, d33, e33, f33, g33, rfl, hQ, hR⟩ := hr33
              refine wpAnyU_pure (i := 9) (d := (some 9)) (v := ?_) rfl rfl (by kernel_rfl) (fun _ _ _ h => h) hSu.out (Or.inl ⟨by rfl, fun w' _ => yu_value ?_⟩) ?_
              rotate_left
              · (go_simp; (try exact rfl))
              try simp only [Act.put, pu1, pu2, pu3]
              refine wpAnyU_pure (i := 10) (d := (some 19)) (v := ?_) rfl rfl (by kernel_rfl) (fun _ _ _ h => h) hSu.out (Or.inl ⟨by rfl, fun w' _ => yu_value ?_⟩) ?_
              rotate_left
              · (go_simp; (try exact rfl))
              try simp only [Act.put, pu1, pu2, pu3]
              refine wpAnyU_pure (i := 11) (d := (some 20)) (v := ?_) rfl rfl (by kernel_rfl) (fun _ _ _ h => h) hSu.out (Or.inl ⟨by rfl, fun w' _ => yu_value ?_⟩) ?_
              rotate_left
              · (go_simp; (try exact rfl))
              try simp only [Act.put, pu1, pu2, pu3]
              refine wpAnyU_one (i := 14) rfl (by kernel_rfl) (by rfl) fun s1 hs1 => ?_
              have k1 := hp.up hs1
              refine wp_stB rfl rfl rfl rfl k1 rfl rfl (one2 _ _ _ _) ?_
              refine ⟨fun h => by simp at h, ?_⟩
              try simp only [Act.put, pu1]
              refine wpAnyU_one (i := 15) rfl (by kernel_rfl) (by rfl) fun s2 hs2 => ?_
              have k2 := ((hq.up hs1).row_other _ (show q' ≠ p' by omega)).up hs2
              refine wp_stB rfl rfl rfl rfl k2 rfl rfl (one2 _ _ _ _) ?_
              refine ⟨fun h => by simp at h, ?_⟩
              try simp only [Act.put, pu1]
              refine wpAnyU_done (by kernel_rfl) (fun wF huE => ?_) _
              go_wp2
              go_meet
              case rel => exact leaf4 hSB hS1 (hU.trans hs1) k1 hs2 k2 huE (hQ.up hs1) (hR.up hs1) (by omega) (by omega) (by omega)
          · try simp only [Act.put, pu1, pu2, pu3]
            replace hU := hU.trans hw29
            replace hP := hP.up hw29
            replace hT := hT.up hw29
            replace hq := hq.up hw29
            have ha29 := Up.alloc w29 (.cells #[.bool false, .slice none 0 0] 30)
            have hp_le : wS.heap.size ≤ w29.heap.size := hU.size
            have hne := hq.lt
            replace hU := hU.trans ha29
            replace hP := hP.up ha29
            replace hT := hT.up ha29
            replace hq := hq.up ha29
            have hp : Blk _ w29.heap.size 30 #[.bool false, .slice none 0 0] := blk_new (w := w29) rfl
            generalize ep : w29.heap.size = p' at hp hp_le hne ⊢
            refine wpAnyU_callE (i := 7) (d := some 17) rfl rfl (by kernel_rfl) (by rfl) hSu.out (fun w' => by go_simp) (fun w' hw' => mul_big (hS5.up (hU.trans hw')) (hB.out.up (below_up hSB (hU.trans hw'))) nTwo hy1) (fun v35 w35 hw35 hr35 => ?_)
            try simp only [Act.put, pu1, pu2, pu3]
            replace hU := hU.trans hw35
            replace hP := hP.up hw35
            replace hT := hT.up hw35
            replace hp := hp.up hw35
            replace hq := hq.up hw35
            obtain ⟨b35, a35, n35, c35, rfl⟩ := hr35.shape
            have hV := hr35
            refine wpAnyU_callE (i := 8) (d := some 18) rfl rfl (by kernel_rfl) (by rfl) hSu.out (fun w' => by go_simp) (fun w' hw' => div_big2 (hT.up hw') (hV.up hw') hs h2y hYp) (fun v36 w36 hw36 hr36 => ?_)
            try simp only [Act.put, pu1, pu2, pu3]
            replace hU := hU.trans hw36
            replace hP := hP.up hw36
            replace hT := hT.up hw36
            replace hV := hV.up hw36
            replace hp := hp.up hw36
            replace hq := hq.up hw36
            obtain ⟨b36, a36, n36, c36, d36, e36, f36, g36, rfl, hQ, hR⟩ := hr36
            refine wpAnyU_pure (i := 9) (d := (some 9)) (v := ?_) rfl rfl (by kernel_rfl) (fun _ _ _ h => h) hSu.out (Or.inl ⟨by rfl, fun w' _ => yu_value ?_⟩) ?_
            rotate_left
            · (go_simp; (try exact rfl))
            try simp only [Act.put, pu1, pu2, pu3]
            refine wpAnyU_pure (i := 10) (d := (some 19)) (v := ?_) rfl rfl (by kernel_rfl) (fun _ _ _ h => h) hSu.out (Or.inl ⟨by rfl, fun w' _ => yu_value ?_⟩) ?_
            rotate_left
            · (go_simp; (try exact rfl))
            try simp only [Act.put, pu1, pu2, pu3]
            refine wpAnyU_pure (i := 11) (d := (some 20)) (v := ?_) rfl rfl (by kernel_rfl) (fun _ _ _ h => h) hSu.out (Or.inl ⟨by rfl, fun w' _ => yu_value ?_⟩) ?_
            rotate_left
            · (go_simp; (try exact rfl))
            try simp only [Act.put, pu1, pu2, pu3]
            refine wpAnyU_one (i := 14) rfl (by kernel_rfl) (by rfl) fun s1 hs1 => ?_
            have k1 := hp.up hs1
            refine wp_stB rfl rfl rfl rfl k1 rfl rfl (one2 _ _ _ _) ?_
            refine ⟨fun h => by simp at h, ?_⟩
            try simp only [Act.put, pu1]
            refine wpAnyU_one (i := 15) rfl (by kernel_rfl) (by rfl) fun s2 hs2 => ?_
            have k2 := ((hq.up hs1).row_other _ (show q' ≠ p' by omega)).up hs2
            refine wp_stB rfl rfl rfl rfl k2 rfl rfl (one2 _ _ _ _) ?_
            refine ⟨fun h => by simp at h, ?_⟩
            try simp only [Act.put, pu1]
            refine wpAnyU_done (by kernel_rfl) (fun wF huE => ?_) _
            go_wp2
            go_meet
            case rel => exact leaf4 hSB hS1 (hU.trans hs1) k1 hs2 k2 huE (hQ.up hs1) (hR.up hs1) (by omega) (by omega) (by omega)
      · try simp only [Act.put, pu1, pu2, pu3]
        replace hU := hU.trans hw2
        replace hP := hP.up hw2
        have ha2 := Up.alloc w2 (.cells #[.bool false, .slice none 0 0] 30)
        have hp_le : wS.heap.size ≤ w2.heap.size := hU.size
        replace hU := hU.trans ha2
        replace hP := hP.up ha2
        have hp : Blk _ w2.heap.size 30 #[.bool false, .slice none 0 0] := blk_new (w := w2) rfl
        generalize ep : w2.heap.size = p' at hp hp_le ⊢
        refine wpAnyU_ca1 (i := 4) (j := 13) (d := some 14) (dj := some 7) (by kernel_rfl) rfl rfl (by rfl) rfl rfl (by rfl) rfl hSu.out (fun w' => by go_simp) (fun w' hw' => add_big (hP.up hw') (hB.out.up (below_up hSB (hU.trans hw'))) h2x hy1) (fun v38 w38 hw38 hr38 => ?_) (fun w38 hw38 => ?_)
        · try simp only [Act.put, pu1, pu2, pu3]
          replace hU := hU.trans hw38
          replace hP := hP.up hw38
          replace hp := hp.up hw38
          obtain ⟨b38, a38, n38, c38, rfl⟩ := hr38.shape
          have hT := hr38
          refine wpAnyU_ca1 (i := 7) (j := 13) (d := some 17) (dj := some 7) (by kernel_rfl) rfl rfl (by rfl) rfl rfl (by rfl) rfl hSu.out (fun w' => by go_simp) (fun w' hw' => mul_big (hS5.up (hU.trans hw')) (hB.out.up (below_up hSB (hU.trans hw'))) nTwo hy1) (fun v39 w39 hw39 hr39 => ?_) (fun w39 hw39 => ?_)
          · try simp only [Act.put, pu1, pu2, pu3]
            replace hU := hU.trans hw39
            replace hP := hP.up hw39
            replace hT := hT.up hw39
            replace hp := hp.up hw39
            obtain ⟨b39, a39, n39, c39, rfl⟩ := hr39.shape
            have hV := hr39
            refine wpAnyU_ca1 (i := 8) (j := 13) (d := some 18) (dj := some 7) (by kernel_rfl) rfl rfl (by rfl) rfl rfl (by rfl) rfl hSu.out (fun w' => by go_simp) (fun w' hw' => div_big2 (hT.up hw') (hV.up hw') hs h2y hYp) (fun v40 w40 hw40 hr40 => ?_) (fun w40 hw40 => ?_)
            · try simp only [Act.put, pu1, pu2, pu3]
              replace hU := hU.trans hw40
              replace hP := hP.up hw40
              replace hT := hT.up hw40
              replace hV := hV.up hw40
              replace hp := hp.up hw40
              obtain ⟨b40, a40, n40, c40, d40, e40, f40, g40, rfl, hQ, hR⟩ := hr40
              refine wpAnyU_pure (i := 9) (d := (some 9)) (v := ?_) rfl rfl (by kernel_rfl) (fun _ _ _ h => h) hSu.out (Or.inl ⟨by rfl, fun w' _ => yu_value ?_⟩) ?_
              rotate_left
              · (go_simp; (try exact rfl))
              try simp only [Act.put, pu1, pu2, pu3]
              refine wpAnyU_pure (i := 10) (d := (some 19)) (v := ?_) rfl rfl (by kernel_rfl) (fun _ _ _ h => h) hSu.out (Or.inl ⟨by rfl, fun w' _ => yu_value ?_⟩) ?_
              rotate_left
              · (go_simp; (try exact rfl))
              try simp only [Act.put, pu1, pu2, pu3]
              refine wpAnyU_pure (i := 11) (d := (some 20)) (v := ?_) rfl rfl (by kernel_rfl) (fun _ _ _ h => h) hSu.out (Or.inl ⟨by rfl, fun w' _ => yu_value ?_⟩) ?_
              rotate_left
              · (go_simp; (try exact rfl))
              try simp only [Act.put, pu1, pu2, pu3]
              refine wpAnyU_allocB (i := 13) (d := some 7) rfl rfl (by kernel_rfl) (by rfl) rfl hSu.out (fun w41 hw41 => ?_)
              try simp only [Act.put, pu1, pu2, pu3]
              replace hU := hU.trans hw41
              replace hP := hP.up hw41
              replace hT := hT.up hw41
              replace hV := hV.up hw41
              replace hQ := hQ.up hw41
              replace hR := hR.up hw41
              replace hp := hp.up hw41
              have ha41 := Up.alloc w41 (.cells #[.bool false, .slice none 0 0] 30)
              have hq_le : wS.heap.size ≤ w41.heap.size := hU.size
              have hne := hp.lt
              replace hU := hU.trans ha41
              replace hP := hP.up ha41
              replace hT := hT.up ha41
              replace hV := hV.up ha41
              replace hQ := hQ.up ha41
              replace hR := hR.up ha41
              replace hp := hp.up ha41
              have hq : Blk _ w41.heap.size 30 #[.bool false, .slice none 0 0] := blk_new (w := w41) rfl
              generalize eq : w41.heap.size = q' at hq hq_le hne ⊢
              refine wpAnyU_one (i := 14) rfl (by kernel_rfl) (by rfl) fun s1 hs1 => ?_
              have k1 := hp.up hs1
              refine wp_stB rfl rfl rfl rfl k1 rfl rfl (one2 _ _ _ _) ?_
              refine ⟨fun h => by simp at h, ?_⟩
              try simp only [Act.put, pu1]
              refine wpAnyU_one (i := 15) rfl (by kernel_rfl) (by rfl) fun s2 hs2 => ?_
              have k2 := ((hq.up hs1).row_other _ (show q' ≠ p' by omega)).up hs2
              refine wp_stB rfl rfl rfl rfl k2 rfl rfl (one2 _ _ _ _) ?_
              refine ⟨fun h => by simp at h, ?_⟩
              try simp only [Act.put, pu1]
              refine wpAnyU_done (by kernel_rfl) (fun wF huE => ?_) _
              go_wp2
              go_meet
              case rel => exact leaf4 hSB hS1 (hU.trans hs1) k1 hs2 k2 huE (hQ.up hs1) (hR.up hs1) (by omega) (by omega) (by omega)
            · try simp only [Act.put, pu1, pu2, pu3]
              replace hU := hU.trans hw40
              replace hP := hP.up hw40
              replace hT := hT.up hw40
              replace hV := hV.up hw40
              replace hp := hp.up hw40
              have ha40 := Up.alloc w40 (.cells #[.bool false, .slice none 0 0] 30)
              have hq_le : wS.heap.size ≤ w40.heap.size := hU.size
              have hne := hp.lt
              replace hU := hU.trans ha40
              replace hP := hP.up ha40
              replace hT := hT.up ha40
              replace hV := hV.up ha40
              replace hp := hp.up ha40
              have hq : Blk _ w40.heap.size 30 #[.bool false, .slice none 0 0] := blk_new (w := w40) rfl
              generalize eq : w40.heap.size = q' at hq hq_le hne ⊢
              refine wpAnyU_callE (i := 8) (d := some 18) rfl rfl (by kernel_rfl) (by rfl) hSu.out (fun w' => by go_simp) (fun w' hw' => div_big2 (hT.up hw') (hV.up hw') hs h2y hYp) (fun v43 w43 hw43 hr43 => ?_)
              try simp only [Act.put, pu1, pu2, pu3]
              replace hU := hU.trans hw43
              replace hP := hP.up hw43
              replace hT := hT.up hw43
              replace hV := hV.up hw43
              replace hp := hp.up hw43
              replace hq := hq.up hw43
              obtain ⟨b43, a43, n43, c43, d43, e43, f43, g43, rfl, hQ, hR⟩ := hr43
              refine wpAnyU_pure (i := 9) (d := (some 9)) (v := ?_) rfl rfl (by kernel_rfl) (fun _ _ _ h => h) hSu.out (Or.inl ⟨by rfl, fun w' _ => yu_value ?_⟩) ?_
              rotate_left
              · (go_simp; (try exact rfl))
              try simp only [Act.put, pu1, pu2, pu3]
              refine wpAnyU_pure (i := 10) (d := (some 19)) (v := ?_) rfl rfl (by kernel_rfl) (fun _ _ _ h => h) hSu.out (Or.inl ⟨by rfl, fun w' _ => yu_value ?_⟩) ?_
              rotate_left
              · (go_simp; (try exact rfl))
              try simp only [Act.put, pu1, pu2, pu3]
              refine wpAnyU_pure (i := 11) (d := (some 20)) (v := ?_) rfl rfl (by kernel_rfl) (fun _ _ _ h => h) hSu.out (Or.inl ⟨by rfl, fun w' _ => yu_value ?_⟩) ?_
              rotate_left
              · (go_simp; (try exact rfl))
              try simp only [Act.put, pu1, pu2, pu3]
              refine wpAnyU_one (i := 14) rfl (by kernel_rfl) (by rfl) fun s1 hs1 => ?_
              have k1 := hp.up hs1
              refine wp_stB rfl rfl rfl rfl k1 rfl rfl (one2 _ _ _ _) ?_
              refine ⟨fun h => by simp at h, ?_⟩
              try simp only [Act.put, pu1]
              refine wpAnyU_one (i := 15) rfl (by kernel_rfl) (by rfl) fun s2 hs2 => ?_
              have k2 := ((hq.up hs1).row_other _ (show q' ≠ p' by omega)).up hs2
              refine wp_stB rfl rfl rfl rfl k2 rfl rfl (one2 _ _ _ _) ?_
              refine ⟨fun h => by simp at h, ?_⟩
              try simp only [Act.put, pu1]
              refine wpAnyU_done (by kernel_rfl) (fun wF huE => ?_) _
              go_wp2
              go_meet
              case rel => exact leaf4 hSB hS1 (hU.trans hs1) k1 hs2 k2 huE (hQ.up hs1) (hR.up hs1) (by omega) (by omega) (by omega)
          · try simp only [Act.put, pu1, pu2, pu3]
            replace hU := hU.trans hw39
            replace hP := hP.up hw39
            replace hT := hT.up hw39
            replace hp := hp.up hw39
            have ha39 := Up.alloc w39 (.cells #[.bool false, .slice none 0 0] 30)
            have hq_le : wS.heap.size ≤ w39.heap.size := hU.size
            have hne := hp.lt
            replace hU := hU.trans ha39
            replace hP := hP.up ha39
            replace hT := hT.up ha39
            replace hp := hp.up ha39
            have hq : Blk _ w39.heap.size 30 #[.bool false, .slice none 0 0] := blk_new (w := w39) rfl
            generalize eq : w39.heap.size = q' at hq hq_le hne ⊢
            refine wpAnyU_callE (i := 7) (d := some 17) rfl rfl (by kernel_rfl) (by rfl) hSu.out (fun w' => by go_simp) (fun w' hw' => mul_big (hS5.up (hU.trans hw')) (hB.out.up (below_up hSB (hU.trans hw'))) nTwo hy1) (fun v45 w45 hw45 hr45 => ?_)
            try simp only [Act.put, pu1, pu2, pu3]
            replace hU := hU.trans hw45
            replace hP := hP.up hw45
            replace hT := hT.up hw45
            replace hp := hp.up hw45
            replace hq := hq.up hw45
            obtain ⟨b45, a45, n45, c45, rfl⟩ := hr45.shape
            have hV := hr45
            refine wpAnyU_callE (i := 8) (d := some 18) rfl rfl (by kernel_rfl) (by rfl) hSu.out (fun w' => by go_simp) (fun w' hw' => div_big2 (hT.up hw') (hV.up hw') hs h2y hYp) (fun v46 w46 hw46 hr46 => ?_)
            try simp only [Act.put, pu1, pu2, pu3]
            replace hU := hU.trans hw46
            replace hP := hP.up hw46
            replace hT := hT.up hw46
            replace hV := hV.up hw46
            replace hp := hp.up hw46
            replace hq := hq.up hw46
            obtain ⟨b46, a46, n46, c46, d46, e46, f46, g46, rfl, hQ, hR⟩ := hr46
            refine wpAnyU_pure (i := 9) (d := (some 9)) (v := ?_) rfl rfl (by kernel_rfl) (fun _ _ _ h => h) hSu.out (Or.inl ⟨by rfl, fun w' _ => yu_value ?_⟩) ?_
            rotate_left
            · (go_simp; (try exact rfl))
            try simp only [Act.put, pu1, pu2, pu3]
            refine wpAnyU_pure (i := 10) (d := (some 19)) (v := ?_) rfl rfl (by kernel_rfl) (fun _ _ _ h => h) hSu.out (Or.inl ⟨by rfl, fun w' _ => yu_value ?_⟩) ?_
            rotate_left
            · (go_simp; (try exact rfl))
            try simp only [Act.put, pu1, pu2, pu3]
            refine wpAnyU_pure (i := 11) (d := (some 20)) (v := ?_) rfl rfl (by kernel_rfl) (fun _ _ _ h => h) hSu.out (Or.inl ⟨by rfl, fun w' _ => yu_value ?_⟩) ?_
            rotate_left
            · (go_simp; (try exact rfl))
            try simp only [Act.put, pu1, pu2, pu3]
            refine wpAnyU_one (i := 14) rfl (by kernel_rfl) (by rfl) fun s1 hs1 => ?_
            have k1 := hp.up hs1
            refine wp_stB rfl rfl rfl rfl k1 rfl rfl (one2 _ _ _ _) ?_
            refine ⟨fun h => by simp at h, ?_⟩
            try simp only [Act.put, pu1]
            refine wpAnyU_one (i := 15) rfl (by kernel_rfl) (by rfl) fun s2 hs2 => ?_
            have k2 := ((hq.up hs1).row_other _ (show q' ≠ p' by omega)).up hs2
            refine wp_stB rfl rfl rfl rfl k2 rfl rfl (one2 _ _ _ _) ?_
            refine ⟨fun h => by simp at h, ?_⟩
            try simp only [Act.put, pu1]
            refine wpAnyU_done (by kernel_rfl) (fun wF huE => ?_) _
            go_wp2
            go_meet
            case rel => exact leaf4 hSB hS1 (hU.trans hs1) k1 hs2 k2 huE (hQ.up hs1) (hR.up hs1) (by omega) (by omega) (by omega)
        · try simp only [Act.put, pu1, pu2, pu3]
          replace hU := hU.trans hw38
          replace hP := hP.up hw38
          replace hp := hp.up hw38
          have ha38 := Up.alloc w38 (.cells #[.bool false, .slice none 0 0] 30)
          have hq_le : wS.heap.size ≤ w38.heap.size := hU.size
          have hne := hp.lt
          replace hU := hU.trans ha38
          replace hP := hP.up ha38
          replace hp := hp.up ha38
          have hq : Blk _ w38.heap.size 30 #[.bool false, .slice none 0 0] := blk_new (w := w38) rfl
          generalize eq : w38.heap.size = q' at hq hq_le hne ⊢
          refine wpAnyU_callE (i := 4) (d := some 14) rfl rfl (by kernel_rfl) (by rfl) hSu.out (fun w' => by go_simp) (fun w' hw' => add_big (hP.up hw') (hB.out.up (below_up hSB (hU.trans hw'))) h2x hy1) (fun v48 w48 hw48 hr48 => ?_)
          try simp only [Act.put, pu1, pu2, pu3]
          replace hU := hU.trans hw48
          replace hP := hP.up hw48
          replace hp := hp.up hw48
          replace hq := hq.up hw48
          obtain ⟨b48, a48, n48, c48, rfl⟩ := hr48.shape
          have hT := hr48
          refine wpAnyU_callE (i := 7) (d := some 17) rfl rfl (by kernel_rfl) (by rfl) hSu.out (fun w' => by go_simp) (fun w' hw' => mul_big (hS5.up (hU.trans hw')) (hB.out.up (below_up hSB (hU.trans hw'))) nTwo hy1) (fun v49 w49 hw49 hr49 => ?_)
          try simp only [Act.put, pu1, pu2, pu3]
          replace hU := hU.trans hw49
          replace hP := hP.up hw49
          replace hT := hT.up hw49
          replace hp := hp.up hw49
          replace hq := hq.up hw49
          obtain ⟨b49, a49, n49, c49, rfl⟩ := hr49.shape
          have hV := hr49
          refine wpAnyU_callE (i := 8) (d := some 18) rfl rfl (by kernel_rfl) (by rfl) hSu.out (fun w' => by go_simp) (fun w' hw' => div_big2 (hT.up hw') (hV.up hw') hs h2y hYp) (fun v50 w50 hw50 hr50 => ?_)
          try simp only [Act.put, pu1, pu2, pu3]
          replace hU := hU.trans hw50
          replace hP := hP.up hw50
          replace hT := hT.up hw50
          replace hV := hV.up hw50
          replace hp := hp.up hw50
          replace hq := hq.up hw50
          obtain ⟨b50, a50, n50, c50, d50, e50, f50, g50, rfl, hQ, hR⟩ := hr50
          refine wpAnyU_pure (i := 9) (d := (some 9)) (v := ?_) rfl rfl (by kernel_rfl) (fun _ _ _ h => h) hSu.out (Or.inl ⟨by rfl, fun w' _ => yu_value ?_⟩) ?_
          rotate_left
          · (go_simp; (try exact rfl))
          try simp only [Act.put, pu1, pu2, pu3]
          refine wpAnyU_pure (i := 10) (d := (some 19)) (v := ?_) rfl rfl (by kernel_rfl) (fun _ _ _ h => h) hSu.out (Or.inl ⟨by rfl, fun w' _ => yu_value ?_⟩) ?_
          rotate_left
          · (go_simp; (try exact rfl))
          try simp only [Act.put, pu1, pu2, pu3]
          refine wpAnyU_pure (i := 11) (d := (some 20)) (v := ?_) rfl rfl (by kernel_rfl) (fun _ _ _ h => h) hSu.out (Or.inl ⟨by rfl, fun w' _ => yu_value ?_⟩) ?_
          rotate_left
          · (go_simp; (try exact rfl))
          try simp only [Act.put, pu1, pu2, pu3]
          refine wpAnyU_one (i := 14) rfl (by kernel_rfl) (by rfl) fun s1 hs1 => ?_
          have k1 := hp.up hs1
          refine wp_stB rfl rfl rfl rfl k1 rfl rfl (one2 _ _ _ _) ?_
          refine ⟨fun h => by simp at h, ?_⟩
          try simp only [Act.put, pu1]
          refine wpAnyU_one (i := 15) rfl (by kernel_rfl) (by rfl) fun s2 hs2 => ?_
          have k2 := ((hq.up hs1).row_other _ (show q' ≠ p' by omega)).up hs2
          refine wp_stB rfl rfl rfl rfl k2 rfl rfl (one2 _ _ _ _) ?_
          refine ⟨fun h => by simp at h, ?_⟩
          try simp only [Act.put, pu1]
          refine wpAnyU_done (by kernel_rfl) (fun wF huE => ?_) _
          go_wp2
          go_meet
          case rel => exact leaf4 hSB hS1 (hU.trans hs1) k1 hs2 k2 huE (hQ.up hs1) (hR.up hs1) (by omega) (by omega) (by omega)
      · try simp only [Act.put, pu1, pu2, pu3]
        replace hU := hU.trans hw2
        replace hP := hP.up hw2
        have ha2 := Up.alloc w2 (.cells #[.bool false, .slice none 0 0] 30)
        have hq_le : wS.heap.size ≤ w2.heap.size := hU.size
        replace hU := hU.trans ha2
        replace hP := hP.up ha2
        have hq : Blk _ w2.heap.size 30 #[.bool false, .slice none 0 0] := blk_new (w := w2) rfl
        generalize eq : w2.heap.size = q' at hq hq_le ⊢
        refine wpAnyU_ca1 (i := 4) (j := 12) (d := some 14) (dj := some 6) (by kernel_rfl) rfl rfl (by rfl) rfl rfl (by rfl) rfl hSu.out (fun w' => by go_simp) (fun w' hw' => add_big (hP.up hw') (hB.out.up (below_up hSB (hU.trans hw'))) h2x hy1) (fun v52 w52 hw52 hr52 => ?_) (fun w52 hw52 => ?_)
        · try simp only [Act.put, pu1, pu2, pu3]
          replace hU := hU.trans hw52
          replace hP := hP.up hw52
          replace hq := hq.up hw52
          obtain ⟨b52, a52, n52, c52, rfl⟩ := hr52.shape
          have hT := hr52
          refine wpAnyU_ca1 (i := 7) (j := 12) (d := some 17) (dj := some 6) (by kernel_rfl) rfl rfl (by rfl) rfl rfl (by rfl) rfl hSu.out (fun w' => by go_simp) (fun w' hw' => mul_big (hS5.up (hU.trans hw')) (hB.out.up (below_up hSB (hU.trans hw'))) nTwo hy1) (fun v53 w53 hw53 hr53 => ?_) (fun w53 hw53 => ?_)
          · try simp only [Act.put, pu1, pu2, pu3]
            replace hU := hU.trans hw53
            replace hP := hP.up hw53
            replace hT := hT.up hw53
            replace hq := hq.up hw53
            obtain ⟨b53, a53, n53, c53, rfl⟩ := hr53.shape
            have hV := hr53
            refine wpAnyU_ca1 (i := 8) (j := 12) (d := some 18) (dj := some 6) (by kernel_rfl) rfl rfl (by rfl) rfl rfl (by rfl) rfl hSu.out (fun w' => by go_simp) (fun w' hw' => div_big2 (hT.up hw') (hV.up hw') hs h2y hYp) (fun v54 w54 hw54 hr54 => ?_) (fun w54 hw54 => ?_)
            · try simp only [Act.put, pu1, pu2, pu3]
              replace hU := hU.trans hw54
              replace hP := hP.up hw54
              replace hT := hT.up hw54
              replace hV := hV.up hw54
              replace hq := hq.up hw54
              obtain ⟨b54, a54, n54, c54, d54, e54, f54, g54, rfl, hQ, hR⟩ := hr54
              refine wpAnyU_pure (i := 9) (d := (some 9)) (v := ?_) rfl rfl (by kernel_rfl) (fun _ _ _ h => h) hSu.out (Or.inl ⟨by rfl, fun w' _ => yu_value ?_⟩) ?_
              rotate_left
              · (go_simp; (try exact rfl))
              try simp only [Act.put, pu1, pu2, pu3]
              refine wpAnyU_pure (i := 10) (d := (some 19)) (v := ?_) rfl rfl (by kernel_rfl) (fun _ _ _ h => h) hSu.out (Or.inl ⟨by rfl, fun w' _ => yu_value ?_⟩) ?_
              rotate_left
              · (go_simp; (try exact rfl))
              try simp only [Act.put, pu1, pu2, pu3]
              refine wpAnyU_pure (i := 11) (d := (some 20)) (v := ?_) rfl rfl (by kernel_rfl) (fun _ _ _ h => h) hSu.out (Or.inl ⟨by rfl, fun w' _ => yu_value ?_⟩) ?_
              rotate_left
              · (go_simp; (try exact rfl))
              try simp only [Act.put, pu1, pu2, pu3]
              refine wpAnyU_allocB (i := 12) (d := some 6) rfl rfl (by kernel_rfl) (by rfl) rfl hSu.out (fun w55 hw55 => ?_)
              try simp only [Act.put, pu1, pu2, pu3]
              replace hU := hU.trans hw55
              replace hP := hP.up hw55
              replace hT := hT.up hw55
              replace hV := hV.up hw55
              replace hQ := hQ.up hw55
              replace hR := hR.up hw55
              replace hq := hq.up hw55
              have ha55 := Up.alloc w55 (.cells #[.bool false, .slice none 0 0] 30)
              have hp_le : wS.heap.size ≤ w55.heap.size := hU.size
              have hne := hq.lt
              replace hU := hU.trans ha55
              replace hP := hP.up ha55
              replace hT := hT.up ha55
              replace hV := hV.up ha55
              replace hQ := hQ.up ha55
              replace hR := hR.up ha55
              replace hq := hq.up ha55
              have hp : Blk _ w55.heap.size 30 #[.bool false, .slice none 0 0] := blk_new (w := w55) rfl
              generalize ep : w55.heap.size = p' at hp hp_le hne ⊢
              refine wpAnyU_one (i := 14) rfl (by kernel_rfl) (by rfl) fun s1 hs1 => ?_
              have k1 := hp.up hs1
              refine wp_stB rfl rfl rfl rfl k1 rfl rfl (one2 _ _ _ _) ?_
              refine ⟨fun h => by simp at h, ?_⟩
              try simp only [Act.put, pu1]
              refine wpAnyU_one (i := 15) rfl (by kernel_rfl) (by rfl) fun s2 hs2 => ?_
              have k2 := ((hq.up hs1).row_other _ (show q' ≠ p' by omega)).up hs2
              refine wp_stB rfl rfl rfl rfl k2 rfl rfl (one2 _ _ _ _) ?_
              refine ⟨fun h => by simp at h, ?_⟩
              try simp only [Act.put, pu1]
              refine wpAnyU_done (by kernel_rfl) (fun wF huE => ?_) _
              go_wp2
              go_meet
              case rel => exact leaf4 hSB hS1 (hU.trans hs1) k1 hs2 k2 huE (hQ.up hs1) (hR.up hs1) (by omega) (by omega) (by omega)
            · try simp only [Act.put, pu1, pu2, pu3]
              replace hU := hU.trans hw54
              replace hP := hP.up hw54
              replace hT := hT.up hw54
              replace hV := hV.up hw54
              replace hq := hq.up hw54
              have ha54 := Up.alloc w54 (.cells #[.bool false, .slice none 0 0] 30)
              have hp_le : wS.heap.size ≤ w54.heap.size := hU.size
              have hne := hq.lt
              replace hU := hU.trans ha54
              replace hP := hP.up ha54
              replace hT := hT.up ha54
              replace hV := hV.up ha54
              replace hq := hq.up ha54
              have hp : Blk _ w54.heap.size 30 #[.bool false, .slice none 0 0] := blk_new (w := w54) rfl
              generalize ep : w54.heap.size = p' at hp hp_le hne ⊢
              refine wpAnyU_callE (i := 8) (d := some 18) rfl rfl (by kernel_rfl) (by rfl) hSu.out (fun w' => by go_simp) (fun w' hw' => div_big2 (hT.up hw') (hV.up hw') hs h2y hYp) (fun v57 w57 hw57 hr57 => ?_)
              try simp only [Act.put, pu1, pu2, pu3]
              replace hU := hU.trans hw57
              replace hP := hP.up hw57
              replace hT := hT.up hw57
              replace hV := hV.up hw57
              replace hp := hp.up hw57
              replace hq := hq.up hw57
              obtain ⟨b57, a57, n57, c57, d57, e57, f57, g57, rfl, hQ, hR⟩ := hr57
              refine wpAnyU_pure (i := 9) (d := (some 9)) (v := ?_) rfl rfl (by kernel_rfl) (fun _ _ _ h => h) hSu.out (Or.inl ⟨by rfl, fun w' _ => yu_value ?_⟩) ?_
              rotate_left
              · (go_simp; (try exact rfl))
              try simp only [Act.put, pu1, pu2, pu3]
              refine wpAnyU_pure (i := 10) (d := (some 19)) (v := ?_) rfl rfl (by kernel_rfl) (fun _ _ _ h => h) hSu.out (Or.inl ⟨by rfl, fun w' _ => yu_value ?_⟩) ?_
              rotate_left
              · (go_simp; (try exact rfl))
              try simp only [Act.put, pu1, pu2, pu3]
              refine wpAnyU_pure (i := 11) (d := (some 20)) (v := ?_) rfl rfl (by kernel_rfl) (fun _ _ _ h => h) hSu.out (Or.inl ⟨by rfl, fun w' _ => yu_value ?_⟩) ?_
              rotate_left
              · (go_simp; (try exact rfl))
              try simp only [Act.put, pu1, pu2, pu3]
              refine wpAnyU_one (i := 14) rfl (by kernel_rfl) (by rfl) fun s1 hs1 => ?_
              have k1 := hp.up hs1
              refine wp_stB rfl rfl rfl rfl k1 rfl rfl (one2 _ _ _ _) ?_
              refine ⟨fun h => by simp at h, ?_⟩
              try simp only [Act.put, pu1]
              refine wpAnyU_one (i := 15) rfl (by kernel_rfl) (by rfl) fun s2 hs2 => ?_
              have k2 := ((hq.up hs1).row_other _ (show q' ≠ p' by omega)).up hs2
              refine wp_stB rfl rfl rfl rfl k2 rfl rfl (one2 _ _ _ _) ?_
              refine ⟨fun h => by simp at h, ?_⟩
              try simp only [Act.put, pu1]
              refine wpAnyU_done (by kernel_rfl) (fun wF huE => ?_) _
              go_wp2
              go_meet
              case rel => exact leaf4 hSB hS1 (hU.trans hs1) k1 hs2 k2 huE (hQ.up hs1) (hR.up hs1) (by omega) (by omega) (by omega)
          · try simp only [Act.put, pu1, pu2, pu3]
            replace hU := hU.trans hw53
            replace hP := hP.up hw53
            replace hT := hT.up hw53
            replace hq := hq.up hw53
            have ha53 := Up.alloc w53 (.cells #[.bool false, .slice none 0 0] 30)
            have hp_le : wS.heap.size ≤ w53.heap.size := hU.size
            have hne := hq.lt
            replace hU := hU.trans ha53
            replace hP := hP.up ha53
            replace hT := hT.up ha53
            replace hq := hq.up ha53
            have hp : Blk _ w53.heap.size 30 #[.bool false, .slice none 0 0] := blk_new (w := w53) rfl
            generalize ep : w53.heap.size = p' at hp hp_le hne ⊢
            refine wpAnyU_callE (i := 7) (d := some 17) rfl rfl (by kernel_rfl) (by rfl) hSu.out (fun w' => by go_simp) (fun w' hw' => mul_big (hS5.up (hU.trans hw')) (hB.out.up (below_up hSB (hU.trans hw'))) nTwo hy1) (fun v59 w59 hw59 hr59 => ?_)
            try simp only [Act.put, pu1, pu2, pu3]
            replace hU := hU.trans hw59
            replace hP := hP.up hw59
            replace hT := hT.up hw59
            replace hp := hp.up hw59
            replace hq := hq.up hw59
            obtain ⟨b59, a59, n59, c59, rfl⟩ := hr59.shape
            have hV := hr59
            refine wpAnyU_callE (i := 8) (d := some 18) rfl rfl (by kernel_rfl) (by rfl) hSu.out (fun w' => by go_simp) (fun w' hw' => div_big2 (hT.up hw') (hV.up hw') hs h2y hYp) (fun v60 w60 hw60 hr60 => ?_)
            try simp only [Act.put, pu1, pu2, pu3]
            replace hU := hU.trans hw60
            replace hP := hP.up hw60
            replace hT := hT.up hw60
            replace hV := hV.up hw60
            replace hp := hp.up hw60
            replace hq := hq.up hw60
            obtain ⟨b60, a60, n60, c60, d60, e60, f60, g60, rfl, hQ, hR⟩ := hr60
            refine wpAnyU_pure (i := 9) (d := (some 9)) (v := ?_) rfl rfl (by kernel_rfl) (fun _ _ _ h => h) hSu.out (Or.inl ⟨by rfl, fun w' _ => yu_value ?_⟩) ?_
            rotate_left
            · (go_simp; (try exact rfl))
            try simp only [Act.put, pu1, pu2, pu3]
            refine wpAnyU_pure (i := 10) (d := (some 19)) (v := ?_) rfl rfl (by kernel_rfl) (fun _ _ _ h => h) hSu.out (Or.inl ⟨by rfl, fun w' _ => yu_value ?_⟩) ?_
            rotate_left
            · (go_simp; (try exact rfl))
            try simp only [Act.put, pu1, pu2, pu3]
            refine wpAnyU_pure (i := 11) (d := (some 20)) (v := ?_) rfl rfl (by kernel_rfl) (fun _ _ _ h => h) hSu.out (Or.inl ⟨by rfl, fun w' _ => yu_value ?_⟩) ?_
            rotate_left
            · (go_simp; (try exact rfl))
            try simp only [Act.put, pu1, pu2, pu3]
            refine wpAnyU_one (i := 14) rfl (by kernel_rfl) (by rfl) fun s1 hs1 => ?_
            have k1 := hp.up hs1
            refine wp_stB rfl rfl rfl rfl k1 rfl rfl (one2 _ _ _ _) ?_
            refine ⟨fun h => by simp at h, ?_⟩
            try simp only [Act.put, pu1]
            refine wpAnyU_one (i := 15) rfl (by kernel_rfl) (by rfl) fun s2 hs2 => ?_
            have k2 := ((hq.up hs1).row_other _ (show q' ≠ p' by omega)).up hs2
            refine wp_stB rfl rfl rfl rfl k2 rfl rfl (one2 _ _ _ _) ?_
            refine ⟨fun h => by simp at h, ?_⟩
            try simp only [Act.put, pu1]
            refine wpAnyU_done (by kernel_rfl) (fun wF huE => ?_) _
            go_wp2
            go_meet
            case rel => exact leaf4 hSB hS1 (hU.trans hs1) k1 hs2 k2 huE (hQ.up hs1) (hR.up hs1) (by omega) (by omega) (by omega)
        · try simp only [Act.put, pu1, pu2, pu3]
          replace hU := hU.trans hw52
          replace hP := hP.up hw52
          replace hq := hq.up hw52
          have ha52 := Up.alloc w52 (.cells #[.bool false, .slice none 0 0] 30)
          have hp_le : wS.heap.size ≤ w52.heap.size := hU.size
          have hne := hq.lt
          replace hU := hU.trans ha52
          replace hP := hP.up ha52
          replace hq := hq.up ha52
          have hp : Blk _ w52.heap.size 30 #[.bool false, .slice none 0 0] := blk_new (w := w52) rfl
          generalize ep : w52.heap.size = p' at hp hp_le hne ⊢
          refine wpAnyU_callE (i := 4) (d := some 14) rfl rfl (by kernel_rfl) (by rfl) hSu.out (fun w' => by go_simp) (fun w' hw' => add_big (hP.up hw') (hB.out.up (below_up hSB (hU.trans hw'))) h2x hy1) (fun v62 w62 hw62 hr62 => ?_)
          try simp only [Act.put, pu1, pu2, pu3]
          replace hU := hU.trans hw62
          replace hP := hP.up hw62
          replace hp := hp.up hw62
          replace hq := hq.up hw62
          obtain ⟨b62, a62, n62, c62, rfl⟩ := hr62.shape
          have hT := hr62
          refine wpAnyU_callE (i := 7) (d := some 17) rfl rfl (by kernel_rfl) (by rfl) hSu.out (fun w' => by go_simp) (fun w' hw' => mul_big (hS5.up (hU.trans hw')) (hB.out.up (below_up hSB (hU.trans hw'))) nTwo hy1) (fun v63 w63 hw63 hr63 => ?_)
          try simp only [Act.put, pu1, pu2, pu3]
          replace hU := hU.trans hw63
          replace hP := hP.up hw63
          replace hT := hT.up hw63
          replace hp := hp.up hw63
          replace hq := hq.up hw63
          obtain ⟨b63, a63, n63, c63, rfl⟩ := hr63.shape
          have hV := hr63
          refine wpAnyU_callE (i := 8) (d := some 18) rfl rfl (by kernel_rfl) (by rfl) hSu.out (fun w' => by go_simp) (fun w' hw' => div_big2 (hT.up hw') (hV.up hw') hs h2y hYp) (fun v64 w64 hw64 hr64 => ?_)
          try simp only [Act.put, pu1, pu2, pu3]
          replace hU := hU.trans hw64
          replace hP := hP.up hw64
          replace hT := hT.up hw64
          replace hV := hV.up hw64
          replace hp := hp.up hw64
          replace hq := hq.up hw64
          obtain ⟨b64, a64, n64, c64, d64, e64, f64, g64, rfl, hQ, hR⟩ := hr64
          refine wpAnyU_pure (i := 9) (d := (some 9)) (v := ?_) rfl rfl (by kernel_rfl) (fun _ _ _ h => h) hSu.out (Or.inl ⟨by rfl, fun w' _ => yu_value ?_⟩) ?_
          rotate_left
          · (go_simp; (try exact rfl))
          try simp only [Act.put, pu1, pu2, pu3]
          refine wpAnyU_pure (i := 10) (d := (some 19)) (v := ?_) rfl rfl (by kernel_rfl) (fun _ _ _ h => h) hSu.out (Or.inl ⟨by rfl, fun w' _ => yu_value ?_⟩) ?_
          rotate_left
          · (go_simp; (try exact rfl))
          try simp only [Act.put, pu1, pu2, pu3]
          refine wpAnyU_pure (i := 11) (d := (some 20)) (v := ?_) rfl rfl (by kernel_rfl) (fun _ _ _ h => h) hSu.out (Or.inl ⟨by rfl, fun w' _ => yu_value ?_⟩) ?_
          rotate_left
          · (go_simp; (try exact rfl))
          try simp only [Act.put, pu1, pu2, pu3]
          refine wpAnyU_one (i := 14) rfl (by kernel_rfl) (by rfl) fun s1 hs1 => ?_
          have k1 := hp.up hs1
          refine wp_stB rfl rfl rfl rfl k1 rfl rfl (one2 _ _ _ _) ?_
          refine ⟨fun h => by simp at h, ?_⟩
          try simp only [Act.put, pu1]
          refine wpAnyU_one (i := 15) rfl (by kernel_rfl) (by rfl) fun s2 hs2 => ?_
          have k2 := ((hq.up hs1).row_other _ (show q' ≠ p' by omega)).up hs2
          refine wp_stB rfl rfl rfl rfl k2 rfl rfl (one2 _ _ _ _) ?_
          refine ⟨fun h => by simp at h, ?_⟩
          try simp only [Act.put, pu1]
          refine wpAnyU_done (by kernel_rfl) (fun wF huE => ?_) _
          go_wp2
          go_meet
          case rel => exact leaf4 hSB hS1 (hU.trans hs1) k1 hs2 k2 huE (hQ.up hs1) (hR.up hs1) (by omega) (by omega) (by omega)
    · try simp only [Act.put, pu1, pu2, pu3]
      replace hU := hU.trans hw1
      have ha1 := Up.alloc w1 (.cells #[.bool false, .slice none 0 0] 30)
      have hp_le : wS.heap.size ≤ w1.heap.size := hU.size
      replace hU := hU.trans ha1
      have hp : Blk _ w1.heap.size 30 #[.bool false, .slice none 0 0] := blk_new (w := w1) rfl
      generalize ep : w1.heap.size = p' at hp hp_le ⊢
      refine wpAnyU_ca1 (i := 2) (j := 13) (d := some 12) (dj := some 7) (by kernel_rfl) rfl rfl (by rfl) rfl rfl (by rfl) rfl hSu.out (fun w' => by go_simp) (fun w' hw' => mul_big (hS5.up (hU.trans hw')) (hA.out.up (below_up hSB (hU.trans hw'))) nTwo hx1) (fun v66 w66 hw66 hr66 => ?_) (fun w66 hw66 => ?_)
      · try simp only [Act.put, pu1, pu2, pu3]
        replace hU := hU.trans hw66
        replace hp := hp.up hw66
        obtain ⟨b66, a66, n66, c66, rfl⟩ := hr66.shape
        have hP := hr66
        refine wpAnyU_ca1 (i := 4) (j := 13) (d := some 14) (dj := some 7) (by kernel_rfl) rfl rfl (by rfl) rfl rfl (by rfl) rfl hSu.out (fun w' => by go_simp) (fun w' hw' => add_big (hP.up hw') (hB.out.up (below_up hSB (hU.trans hw'))) h2x hy1) (fun v67 w67 hw67 hr67 => ?_) (fun w67 hw67 => ?_)
        · try simp only [Act.put, pu1, pu2, pu3]
          replace hU := hU.trans hw67
          replace hP := hP.up hw67
          replace hp := hp.up hw67
          obtain ⟨b67, a67, n67, c67, rfl⟩ := hr67.shape
          have hT := hr67
          refine wpAnyU_ca1 (i := 7) (j := 13) (d := some 17) (dj := some 7) (by kernel_rfl) rfl rfl (by rfl) rfl rfl (by rfl) rfl hSu.out (fun w' => by go_simp) (fun w' hw' => mul_big (hS5.up (hU.trans hw')) (hB.out.up (below_up hSB (hU.trans hw'))) nTwo hy1) (fun v68 w68 hw68 hr68 => ?_) (fun w68 hw68 => ?_)
          · try simp only [Act.put, pu1, pu2, pu3]
            replace hU := hU.trans hw68
            replace hP := hP.up hw68
            replace hT := hT.up hw68
            replace hp := hp.up hw68
            obtain ⟨b68, a68, n68, c68, rfl⟩ := hr68.shape
            have hV := hr68
            refine wpAnyU_ca1 (i := 8) (j := 13) (d := some 18) (dj := some 7) (by kernel_rfl) rfl rfl (by rfl) rfl rfl (by rfl) rfl hSu.out (fun w' => by go_simp) (fun w' hw' => div_big2 (hT.up hw') (hV.up hw') hs h2y hYp) (fun v69 w69 hw69 hr69 => ?_) (fun w69 hw69 => ?_)
            · try simp only [Act.put, pu1, pu2, pu3]
              replace hU := hU.trans hw69
              replace hP := hP.up hw69
              replace hT := hT.up hw69
              replace hV := hV.up hw69
              replace hp := hp.up hw69
              obtain ⟨b69, a69, n69, c69, d69, e69, f69, g69, rfl, hQ, hR⟩ := hr69
              refine wpAnyU_pure (i := 9) (d := (some 9)) (v := ?_) rfl rfl (by kernel_rfl) (fun _ _ _ h => h) hSu.out (Or.inl ⟨by rfl, fun w' _ => yu_value ?_⟩) ?_
              rotate_left
              · (go_simp; (try exact rfl))
              try simp only [Act.put, pu1, pu2, pu3]
              refine wpAnyU_pure (i := 10) (d := (some 19)) (v := ?_) rfl rfl (by kernel_rfl) (fun _ _ _ h => h) hSu.out (Or.inl ⟨by rfl, fun w' _ => yu_value ?_⟩) ?_
              rotate_left
              · (go_simp; (try exact rfl))
              try simp only [Act.put, pu1, pu2, pu3]
              refine wpAnyU_pure (i := 11) (d := (some 20)) (v := ?_) rfl rfl (by kernel_rfl) (fun _ _ _ h => h) hSu.out (Or.inl ⟨by rfl, fun w' _ => yu_value ?_⟩) ?_
              rotate_left
              · (go_simp; (try exact rfl))
              try simp only [Act.put, pu1, pu2, pu3]
              refine wpAnyU_allocB (i := 13) (d := some 7) rfl rfl (by kernel_rfl) (by rfl) rfl hSu.out (fun w70 hw70 => ?_)
              try simp only [Act.put, pu1, pu2, pu3]
              replace hU := hU.trans hw70
              replace hP := hP.up hw70
              replace hT := hT.up hw70
              replace hV := hV.up hw70
              replace hQ := hQ.up hw70
              replace hR := hR.up hw70
              replace hp := hp.up hw70
              have ha70 := Up.alloc w70 (.cells #[.bool false, .slice none 0 0] 30)
              have hq_le : wS.heap.size ≤ w70.heap.size := hU.size
              have hne := hp.lt
              replace hU := hU.trans ha70
              replace hP := hP.up ha70
              replace hT := hT.up ha70
              replace hV := hV.up ha70
              replace hQ := hQ.up ha70
              replace hR := hR.up ha70
              replace hp := hp.up ha70
              have hq : Blk _ w70.heap.size 30 #[.bool false, .slice none 0 0] := blk_new (w := w70) rfl
              generalize eq : w70.heap.size = q' at hq hq_le hne ⊢
              refine wpAnyU_one (i := 14) rfl (by kernel_rfl) (by rfl) fun s1 hs1 => ?_
              have k1 := hp.up hs1
              refine wp_stB rfl rfl rfl rfl k1 rfl rfl (one2 _ _ _ _) ?_
              refine ⟨fun h => by simp at h, ?_⟩
              try simp only [Act.put, pu1]
              refine wpAnyU_one (i := 15) rfl (by kernel_rfl) (by rfl) fun s2 hs2 => ?_
              have k2 := ((hq.up hs1).row_other _ (show q' ≠ p' by omega)).up hs2
              refine wp_stB rfl rfl rfl rfl k2 rfl rfl (one2 _ _ _ _) ?_
              refine ⟨fun h => by simp at h, ?_⟩
              try simp only [Act.put, pu1]
              refine wpAnyU_done (by kernel_rfl) (fun wF huE => ?_) _
              go_wp2
              go_meet
              case rel => exact leaf4 hSB hS1 (hU.trans hs1) k1 hs2 k2 huE (hQ.up hs1) (hR.up hs1) (by omega) (by omega) (by omega)
            · try simp only [Act.put, pu1, pu2, pu3]
              replace hU := hU.trans hw69
              replace hP := hP.up hw69
              replace hT := hT.up hw69
              replace hV := hV.up hw69
              replace hp := hp.up hw69
              have ha69 := Up.alloc w69 (.cells #[.bool false, .slice none 0 0] 30)
              have hq_le : wS.heap.size ≤ w69.heap.size := hU.size
              have hne := hp.lt
              replace hU := hU.trans ha69
              replace hP := hP.up ha69
              replace hT := hT.up ha69
              replace hV := hV.up ha69
              replace hp := hp.up ha69
              have hq : Blk _ w69.heap.size 30 #[.bool false, .slice none 0 0] := blk_new (w := w69) rfl
              generalize eq : w69.heap.size = q' at hq hq_le hne ⊢
              refine wpAnyU_callE (i := 8) (d := some 18) rfl rfl (by kernel_rfl) (by rfl) hSu.out (fun w' => by go_simp) (fun w' hw' => div_big2 (hT.up hw') (hV.up hw') hs h2y hYp) (fun v72 w72 hw72 hr72 => ?_)
              try simp only [Act.put, pu1, pu2, pu3]
              replace hU := hU.trans hw72
              replace hP := hP.up hw72
              replace hT := hT.up hw72
              replace hV := hV.up hw72
              replace hp := hp.up hw72
              replace hq := hq.up hw72
              obtain ⟨b72, a72, n72, c72, d72, e72, f72, g72, rfl, hQ, hR⟩ := hr72
              refine wpAnyU_pure (i := 9) (d := (some 9)) (v := ?_) rfl rfl (by kernel_rfl) (fun _ _ _ h => h) hSu.out (Or.inl ⟨by rfl, fun w' _ => yu_value ?_⟩) ?_
              rotate_left
              · (go_simp; (try exact rfl))
              try simp only [Act.put, pu1, pu2, pu3]
              refine wpAnyU_pure (i := 10) (d := (some 19)) (v := ?_) rfl rfl (by kernel_rfl) (fun _ _ _ h => h) hSu.out (Or.inl ⟨by rfl, fun w' _ => yu_value ?_⟩) ?_
              rotate_left
              · (go_simp; (try exact rfl))
              try simp only [Act.put, pu1, pu2, pu3]
              refine wpAnyU_pure (i := 11) (d := (some 20)) (v := ?_) rfl rfl (by kernel_rfl) (fun _ _ _ h => h) hSu.out (Or.inl ⟨by rfl, fun w' _ => yu_value ?_⟩) ?_
              rotate_left
              · (go_simp; (try exact rfl))
              try simp only [Act.put, pu1, pu2, pu3]
              refine wpAnyU_one (i := 14) rfl (by kernel_rfl) (by rfl) fun s1 hs1 => ?_
              have k1 := hp.up hs1
              refine wp_stB rfl rfl rfl rfl k1 rfl rfl (one2 _ _ _ _) ?_
              refine ⟨fun h => by simp at h, ?_⟩
              try simp only [Act.put, pu1]
              refine wpAnyU_one (i := 15) rfl (by kernel_rfl) (by rfl) fun s2 hs2 => ?_
              have k2 := ((hq.up hs1).row_other _ (show q' ≠ p' by omega)).up hs2
              refine wp_stB rfl rfl rfl rfl k2 rfl rfl (one2 _ _ _ _) ?_
              refine ⟨fun h => by simp at h, ?_⟩
              try simp only [Act.put, pu1]
              refine wpAnyU_done (by kernel_rfl) (fun wF huE => ?_) _
              go_wp2
              go_meet
              case rel => exact leaf4 hSB hS1 (hU.trans hs1) k1 hs2 k2 huE (hQ.up hs1) (hR.up hs1) (by omega) (by omega) (by omega)
          · try simp only [Act.put, pu1, pu2, pu3]
            replace hU := hU.trans hw68
            replace hP := hP.up hw68
            replace hT := hT.up hw68
            replace hp := hp.up hw68
            have ha68 := Up.alloc w68 (.cells #[.bool false, .slice none 0 0] 30)
            have hq_le : wS.heap.size ≤ w68.heap.size := hU.size
            have hne := hp.lt
            replace hU := hU.trans ha68
            replace hP := hP.up ha68
            replace hT := hT.up ha68
            replace hp := hp.up ha68
            have hq : Blk _ w68.heap.size 30 #[.bool false, .slice none 0 0] := blk_new (w := w68) rfl
            generalize eq : w68.heap.size = q' at hq hq_le hne ⊢
            refine wpAnyU_callE (i := 7) (d := some 17) rfl rfl (by kernel_rfl) (by rfl) hSu.out (fun w' => by go_simp) (fun w' hw' => mul_big (hS5.up (hU.trans hw')) (hB.out.up (below_up hSB (hU.trans hw'))) nTwo hy1) (fun v74 w74 hw74 hr74 => ?_)
            try simp only [Act.put, pu1, pu2, pu3]
            replace hU := hU.trans hw74
            replace hP := hP.up hw74
            replace hT := hT.up hw74
            replace hp := hp.up hw74
            replace hq := hq.up hw74
            obtain ⟨b74, a74, n74, c74, rfl⟩ := hr74.shape
            have hV := hr74
            refine wpAnyU_callE (i := 8) (d := some 18) rfl rfl (by kernel_rfl) (by rfl) hSu.out (fun w' => by go_simp) (fun w' hw' => div_big2 (hT.up hw') (hV.up hw') hs h2y hYp) (fun v75 w75 hw75 hr75 => ?_)
            try simp only [Act.put, pu1, pu2, pu3]
            replace hU := hU.trans hw75
            replace hP := hP.up hw75
            replace hT := hT.up hw75
            replace hV := hV.up hw75
            replace hp := hp.up hw75
            replace hq := hq.up hw75
            obtain ⟨b75, a75, n75, c75, d75, e75, f75, g75, rfl, hQ, hR⟩ := hr75
            refine wpAnyU_pure (i := 9) (d := (some 9)) (v := ?_) rfl rfl (by kernel_rfl) (fun _ _ _ h => h) hSu.out (Or.inl ⟨by rfl, fun w' _ => yu_value ?_⟩) ?_
            rotate_left
            · (go_simp; (try exact rfl))
            try simp only [Act.put, pu1, pu2, pu3]
            refine wpAnyU_pure (i := 10) (d := (some 19)) (v := ?_) rfl rfl (by kernel_rfl) (fun _ _ _ h => h) hSu.out (Or.inl ⟨by rfl, fun w' _ => yu_value ?_⟩) ?_
            rotate_left
            · (go_simp; (try exact rfl))
            try simp only [Act.put, pu1, pu2, pu3]
            refine wpAnyU_pure (i := 11) (d := (some 20)) (v := ?_) rfl rfl (by kernel_rfl) (fun _ _ _ h => h) hSu.out (Or.inl ⟨by rfl, fun w' _ => yu_value ?_⟩) ?_
            rotate_left
            · (go_simp; (try exact rfl))
            try simp only [Act.put, pu1, pu2, pu3]
            refine wpAnyU_one (i := 14) rfl (by kernel_rfl) (by rfl) fun s1 hs1 => ?_
            have k1 := hp.up hs1
            refine wp_stB rfl rfl rfl rfl k1 rfl rfl (one2 _ _ _ _) ?_
            refine ⟨fun h => by simp at h, ?_⟩
            try simp only [Act.put, pu1]
            refine wpAnyU_one (i := 15) rfl (by kernel_rfl) (by rfl) fun s2 hs2 => ?_
            have k2 := ((hq.up hs1).row_other _ (show q' ≠ p' by omega)).up hs2
            refine wp_stB rfl rfl rfl rfl k2 rfl rfl (one2 _ _ _ _) ?_
            refine ⟨fun h => by simp at h, ?_⟩
            try simp only [Act.put, pu1]
            refine wpAnyU_done (by kernel_rfl) (fun wF huE => ?_) _
            go_wp2
            go_meet
            case rel => exact leaf4 hSB hS1 (hU.trans hs1) k1 hs2 k2 huE (hQ.up hs1) (hR.up hs1) (by omega) (by omega) (by omega)
        · try simp only [Act.put, pu1, pu2, pu3]
          replace hU := hU.trans hw67
          replace hP := hP.up hw67
          replace hp := hp.up hw67
          have ha67 := Up.alloc w67 (.cells #[.bool false, .slice none 0 0] 30)
          have hq_le : wS.heap.size ≤ w67.heap.size := hU.size
          have hne := hp.lt
          replace hU := hU.trans ha67
          replace hP := hP.up ha67
          replace hp := hp.up ha67
          have hq : Blk _ w67.heap.size 30 #[.bool false, .slice none 0 0] := blk_new (w := w67) rfl
          generalize eq : w67.heap.size = q' at hq hq_le hne ⊢
          refine wpAnyU_callE (i := 4) (d := some 14) rfl rfl (by kernel_rfl) (by rfl) hSu.out (fun w' => by go_simp) (fun w' hw' => add_big (hP.up hw') (hB.out.up (below_up hSB (hU.trans hw'))) h2x hy1) (fun v77 w77 hw77 hr77 => ?_)
          try simp only [Act.put, pu1, pu2, pu3]
          replace hU := hU.trans hw77
          replace hP := hP.up hw77
          replace hp := hp.up hw77
          replace hq := hq.up hw77
          obtain ⟨b77, a77, n77, c77, rfl⟩ := hr77.shape
          have hT := hr77
          refine wpAnyU_callE (i := 7) (d := some 17) rfl rfl (by kernel_rfl) (by rfl) hSu.out (fun w' => by go_simp) (fun w' hw' => mul_big (hS5.up (hU.trans hw')) (hB.out.up (below_up hSB (hU.trans hw'))) nTwo hy1) (fun v78 w78 hw78 hr78 => ?_)
          try simp only [Act.put, pu1, pu2, pu3]
          replace hU := hU.trans hw78
          replace hP := hP.up hw78
          replace hT := hT.up hw78
          replace hp := hp.up hw78
          replace hq := hq.up hw78
          obtain ⟨b78, a78, n78, c78, rfl⟩ := hr78.shape
          have hV := hr78
          refine wpAnyU_callE (i := 8) (d := some 18) rfl rfl (by kernel_rfl) (by rfl) hSu.out (fun w' => by go_simp) (fun w' hw' => div_big2 (hT.up hw') (hV.up hw') hs h2y hYp) (fun v79 w79 hw79 hr79 => ?_)
          try simp only [Act.put, pu1, pu2, pu3]
          replace hU := hU.trans hw79
          replace hP := hP.up hw79
          replace hT := hT.up hw79
          replace hV := hV.up hw79
          replace hp := hp.up hw79
          replace hq := hq.up hw79
          obtain ⟨b79, a79, n79, c79, d79, e79, f79, g79, rfl, hQ, hR⟩ := hr79
          refine wpAnyU_pure (i := 9) (d := (some 9)) (v := ?_) rfl rfl (by kernel_rfl) (fun _ _ _ h => h) hSu.out (Or.inl ⟨by rfl, fun w' _ => yu_value ?_⟩) ?_
          rotate_left
          · (go_simp; (try exact rfl))
          try simp only [Act.put, pu1, pu2, pu3]
          refine wpAnyU_pure (i := 10) (d := (some 19)) (v := ?_) rfl rfl (by kernel_rfl) (fun _ _ _ h => h) hSu.out (Or.inl ⟨by rfl, fun w' _ => yu_value ?_⟩) ?_
          rotate_left
          · (go_simp; (try exact rfl))
          try simp only [Act.put, pu1, pu2, pu3]
          refine wpAnyU_pure (i := 11) (d := (some 20)) (v := ?_) rfl rfl (by kernel_rfl) (fun _ _ _ h => h) hSu.out (Or.inl ⟨by rfl, fun w' _ => yu_value ?_⟩) ?_
          rotate_left
          · (go_simp; (try exact rfl))
          try simp only [Act.put, pu1, pu2, pu3]
          refine wpAnyU_one (i := 14) rfl (by kernel_rfl) (by rfl) fun s1 hs1 => ?_
          have k1 := hp.up hs1
          refine wp_stB rfl rfl rfl rfl k1 rfl rfl (one2 _ _ _ _) ?_
          refine ⟨fun h => by simp at h, ?_⟩
          try simp only [Act.put, pu1]
          refine wpAnyU_one (i := 15) rfl (by kernel_rfl) (by rfl) fun s2 hs2 => ?_
          have k2 := ((hq.up hs1).row_other _ (show q' ≠ p' by omega)).up hs2
          refine wp_stB rfl rfl rfl rfl k2 rfl rfl (one2 _ _ _ _) ?_
          refine ⟨fun h => by simp at h, ?_⟩
          try simp only [Act.put, pu1]
          refine wpAnyU_done (by kernel_rfl) (fun wF huE => ?_) _
          go_wp2
          go_meet
          case rel => exact leaf4 hSB hS1 (hU.trans hs1) k1 hs2 k2 huE (hQ.up hs1) (hR.up hs1) (by omega) (by omega) (by omega)
      · try simp only [Act.put, pu1, pu2, pu3]
        replace hU := hU.trans hw66
        replace hp := hp.up hw66
        have ha66 := Up.alloc w66 (.cells #[.bool false, .slice none 0 0] 30)
        have hq_le : wS.heap.size ≤ w66.heap.size := hU.size
        have hne := hp.lt
        replace hU := hU.trans ha66
        replace hp := hp.up ha66
        have hq : Blk _ w66.heap.size 30 #[.bool false, .slice none 0 0] := blk_new (w := w66) rfl
        generalize eq : w66.heap.size = q' at hq hq_le hne ⊢
        refine wpAnyU_callE (i := 2) (d := some 12) rfl rfl (by kernel_rfl) (by rfl) hSu.out (fun w' => by go_simp) (fun w' hw' => mul_big (hS5.up (hU.trans hw')) (hA.out.up (below_up hSB (hU.trans hw'))) nTwo hx1) (fun v81 w81 hw81 hr81 => ?_)
        try simp only [Act.put, pu1, pu2, pu3]
        replace hU := hU.trans hw81
        replace hp := hp.up hw81
        replace hq := hq.up hw81
        obtain ⟨b81, a81, n81, c81, rfl⟩ := hr81.shape
        have hP := hr81
        refine wpAnyU_callE (i := 4) (d := some 14) rfl rfl (by kernel_rfl) (by rfl) hSu.out (fun w' => by go_simp) (fun w' hw' => add_big (hP.up hw') (hB.out.up (below_up hSB (hU.trans hw'))) h2x hy1) (fun v82 w82 hw82 hr82 => ?_)
        try simp only [Act.put, pu1, pu2, pu3]
        replace hU := hU.trans hw82
        replace hP := hP.up hw82
        replace hp := hp.up hw82
        replace hq := hq.up hw82
        obtain ⟨b82, a82, n82, c82, rfl⟩ := hr82.shape
        have hT := hr82
        refine wpAnyU_callE (i := 7) (d := some 17) rfl rfl (by kernel_rfl) (by rfl) hSu.out (fun w' => by go_simp) (fun w' hw' => mul_big (hS5.up (hU.trans hw')) (hB.out.up (below_up hSB (hU.trans hw'))) nTwo hy1) (fun v83 w83 hw83 hr83 => ?_)
        try simp only [Act.put, pu1, pu2, pu3]
        replace hU := hU.trans hw83
        replace hP := hP.up hw83
        replace hT := hT.up hw83
        replace hp := hp.up hw83
        replace hq := hq.up hw83
        obtain ⟨b83, a83, n83, c83, rfl⟩ := hr83.shape
        have hV := hr83
        refine wpAnyU_callE (i := 8) (d := some 18) rfl rfl (by kernel_rfl) (by rfl) hSu.out (fun w' => by go_simp) (fun w' hw' => div_big2 (hT.up hw') (hV.up hw') hs h2y hYp) (fun v84 w84 hw84 hr84 => ?_)
        try simp only [Act.put, pu1, pu2, pu3]
        replace hU := hU.trans hw84
        replace hP := hP.up hw84
        replace hT := hT.up hw84
        replace hV := hV.up hw84
        replace hp := hp.up hw84
        replace hq := hq.up hw84
        obtain ⟨b84, a84, n84, c84, d84, e84, f84, g84, rfl, hQ, hR⟩ := hr84
        refine wpAnyU_pure (i := 9) (d := (some 9)) (v := ?_) rfl rfl (by kernel_rfl) (fun _ _ _ h => h) hSu.out (Or.inl ⟨by rfl, fun w' _ => yu_value ?_⟩) ?_
        rotate_left
        · (go_simp; (try exact rfl))
        try simp only [Act.put, pu1, pu2, pu3]
        refine wpAnyU_pure (i := 10) (d := (some 19)) (v := ?_) rfl rfl (by kernel_rfl) (fun _ _ _ h => h) hSu.out (Or.inl ⟨by rfl, fun w' _ => yu_value ?_⟩) ?_
        rotate_left
        · (go_simp; (try exact rfl))
        try simp only [Act.put, pu1, pu2, pu3]
        refine wpAnyU_pure (i := 11) (d := (some 20)) (v := ?_) rfl rfl (by kernel_rfl) (fun _ _ _ h => h) hSu.out (Or.inl ⟨by rfl, fun w' _ => yu_value ?_⟩) ?_
        rotate_left
        · (go_simp; (try exact rfl))
        try simp only [Act.put, pu1, pu2, pu3]
        refine wpAnyU_one (i := 14) rfl (by kernel_rfl) (by rfl) fun s1 hs1 => ?_
        have k1 := hp.up hs1
        refine wp_stB rfl rfl rfl rfl k1 rfl rfl (one2 _ _ _ _) ?_
        refine ⟨fun h => by simp at h, ?_⟩
        try simp only [Act.put, pu1]
        refine wpAnyU_one (i := 15) rfl (by kernel_rfl) (by rfl) fun s2 hs2 => ?_
        have k2 := ((hq.up hs1).row_other _ (show q' ≠ p' by omega)).up hs2
        refine wp_stB rfl rfl rfl rfl k2 rfl rfl (one2 _ _ _ _) ?_
        refine ⟨fun h => by simp at h, ?_⟩
        try simp only [Act.put, pu1]
        refine wpAnyU_done (by kernel_rfl) (fun wF huE => ?_) _
        go_wp2
        go_meet
        case rel => exact leaf4 hSB hS1 (hU.trans hs1) k1 hs2 k2 huE (hQ.up hs1) (hR.up hs1) (by omega) (by omega) (by omega)
    · try simp only [Act.put, pu1, pu2, pu3]
      replace hU := hU.trans hw1
      have ha1 := Up.alloc w1 (.cells #[.bool false, .slice none 0 0] 30)
      have hq_le : wS.heap.size ≤ w1.heap.size := hU.size
      replace hU := hU.trans ha1
      have hq : Blk _ w1.heap.size 30 #[.bool false, .slice none 0 0] := blk_new (w := w1) rfl
      generalize eq : w1.heap.size = q' at hq hq_le ⊢
      refine wpAnyU_ca1 (i := 2) (j := 12) (d := some 12) (dj := some 6) (by kernel_rfl) rfl rfl (by rfl) rfl rfl (by rfl) rfl hSu.out (fun w' => by go_simp) (fun w' hw' => mul_big (hS5.up (hU.trans hw')) (hA.out.up (below_up hSB (hU.trans hw'))) nTwo hx1) (fun v86 w86 hw86 hr86 => ?_) (fun w86 hw86 => ?_)
      · try simp only [Act.put, pu1, pu2, pu3]
        replace hU := hU.trans hw86
        replace hq := hq.up hw86
        obtain ⟨b86, a86, n86, c86, rfl⟩ := hr86.shape
        have hP := hr86
        refine wpAnyU_ca1 (i := 4) (j := 12) (d := some 14) (dj := some 6) (by kernel_rfl) rfl rfl (by rfl) rfl rfl (by rfl) rfl hSu.out (fun w' => by go_simp) (fun w' hw' => add_big (hP.up hw') (hB.out.up (below_up hSB (hU.trans hw'))) h2x hy1) (fun v87 w87 hw87 hr87 => ?_) (fun w87 hw87 => ?_)
        · try simp only [Act.put, pu1, pu2, pu3]
          replace hU := hU.trans hw87
          replace hP := hP.up hw87
          replace hq := hq.up hw87
          obtain ⟨b87, a87, n87, c87, rfl⟩ := hr87.shape
          have hT := hr87
          refine wpAnyU_ca1 (i := 7) (j := 12) (d := some 17) (dj := some 6) (by kernel_rfl) rfl rfl (by rfl) rfl rfl (by rfl) rfl hSu.out (fun w' => by go_simp) (fun w' hw' => mul_big (hS5.up (hU.trans hw')) (hB.out.up (below_up hSB (hU.trans hw'))) nTwo hy1) (fun v88 w88 hw88 hr88 => ?_) (fun w88 hw88 => ?_)
          · try simp only [Act.put, pu1, pu2, pu3]
            replace hU := hU.trans hw88
            replace hP := hP.up hw88
            replace hT := hT.up hw88
            replace hq := hq.up hw88
            obtain ⟨b88, a88, n88, c88, rfl⟩ := hr88.shape
            have hV := hr88
            refine wpAnyU_ca1 (i := 8) (j := 12) (d := some 18) (dj := some 6) (by kernel_rfl) rfl rfl (by rfl) rfl rfl (by rfl) rfl hSu.out (fun w' => by go_simp) (fun w' hw' => div_big2 (hT.up hw') (hV.up hw') hs h2y hYp) (fun v89 w89 hw89 hr89 => ?_) (fun w89 hw89 => ?_)
            · try simp only [Act.put, pu1, pu2, pu3]
              replace hU := hU.trans hw89
              replace hP := hP.up hw89
              replace hT := hT.up hw89
              replace hV := hV.up hw89
              replace hq := hq.up hw89
              obtain ⟨b89, a89, n89, c89, d89, e89, f89, g89, rfl, hQ, hR⟩ := hr89
              refine wpAnyU_pure (i := 9) (d := (some 9)) (v := ?_) rfl rfl (by kernel_rfl) (fun _ _ _ h => h) hSu.out (Or.inl ⟨by rfl, fun w' _ => yu_value ?_⟩) ?_
              rotate_left
              · (go_simp; (try exact rfl))
              try simp only [Act.put, pu1, pu2, pu3]
              refine wpAnyU_pure (i := 10) (d := (some 19)) (v := ?_) rfl rfl (by kernel_rfl) (fun _ _ _ h => h) hSu.out (Or.inl ⟨by rfl, fun w' _ => yu_value ?_⟩) ?_
              rotate_left
              · (go_simp; (try exact rfl))
              try simp only [Act.put, pu1, pu2, pu3]
              refine wpAnyU_pure (i := 11) (d := (some 20)) (v := ?_) rfl rfl (by kernel_rfl) (fun _ _ _ h => h) hSu.out (Or.inl ⟨by rfl, fun w' _ => yu_value ?_⟩) ?_
              rotate_left
              · (go_simp; (try exact rfl))
              try simp only [Act.put, pu1, pu2, pu3]
              refine wpAnyU_allocB (i := 12) (d := some 6) rfl rfl (by kernel_rfl) (by rfl) rfl hSu.out (fun w90 hw90 => ?_)
              try simp only [Act.put, pu1, pu2, pu3]
              replace hU := hU.trans hw90
              replace hP := hP.up hw90
              replace hT := hT.up hw90
              replace hV := hV.up hw90
              replace hQ := hQ.up hw90
              replace hR := hR.up hw90
              replace hq := hq.up hw90
              have ha90 := Up.alloc w90 (.cells #[.bool false, .slice none 0 0] 30)
              have hp_le : wS.heap.size ≤ w90.heap.size := hU.size
              have hne := hq.lt
              replace hU := hU.trans ha90
              replace hP := hP.up ha90
              replace hT := hT.up ha90
              replace hV := hV.up ha90
              replace hQ := hQ.up ha90
              replace hR := hR.up ha90
              replace hq := hq.up ha90
              have hp : Blk _ w90.heap.size 30 #[.bool false, .slice none 0 0] := blk_new (w := w90) rfl
              generalize ep : w90.heap.size = p' at hp hp_le hne ⊢
              refine wpAnyU_one (i := 14) rfl (by kernel_rfl) (by rfl) fun s1 hs1 => ?_
              have k1 := hp.up hs1
              refine wp_stB rfl rfl rfl rfl k1 rfl rfl (one2 _ _ _ _) ?_
              refine ⟨fun h => by simp at h, ?_⟩
              try simp only [Act.put, pu1]
              refine wpAnyU_one (i := 15) rfl (by kernel_rfl) (by rfl) fun s2 hs2 => ?_
              have k2 := ((hq.up hs1).row_other _ (show q' ≠ p' by omega)).up hs2
              refine wp_stB rfl rfl rfl rfl k2 rfl rfl (one2 _ _ _ _) ?_
              refine ⟨fun h => by simp at h, ?_⟩
              try simp only [Act.put, pu1]
              refine wpAnyU_done (by kernel_rfl) (fun wF huE => ?_) _
              go_wp2
              go_meet
              case rel => exact leaf4 hSB hS1 (hU.trans hs1) k1 hs2 k2 huE (hQ.up hs1) (hR.up hs1) (by omega) (by omega) (by omega)
            · try simp only [Act.put, pu1, pu2, pu3]
              replace hU := hU.trans hw89
              replace hP := hP.up hw89
              replace hT := hT.up hw89
              replace hV := hV.up hw89
              replace hq := hq.up hw89
              have ha89 := Up.alloc w89 (.cells #[.bool false, .slice none 0 0] 30)
              have hp_le : wS.heap.size ≤ w89.heap.size := hU.size
              have hne := hq.lt
              replace hU := hU.trans ha89
              replace hP := hP.up ha89
              replace hT := hT.up ha89
              replace hV := hV.up ha89
              replace hq := hq.up ha89
              have hp : Blk _ w89.heap.size 30 #[.bool false, .slice none 0 0] := blk_new (w := w89) rfl
              generalize ep : w89.heap.size = p' at hp hp_le hne ⊢
              refine wpAnyU_callE (i := 8) (d := some 18) rfl rfl (by kernel_rfl) (by rfl) hSu.out (fun w' => by go_simp) (fun w' hw' => div_big2 (hT.up hw') (hV.up hw') hs h2y hYp) (fun v92 w92 hw92 hr92 => ?_)
              try simp only [Act.put, pu1, pu2, pu3]
              replace hU := hU.trans hw92
              replace hP := hP.up hw92
              replace hT := hT.up hw92
              replace hV := hV.up hw92
              replace hp := hp.up hw92
              replace hq := hq.up hw92
              obtain ⟨b92, a92, n92, c92, d92, e92, f92, g92, rfl, hQ, hR⟩ := hr92
              refine wpAnyU_pure (i := 9) (d := (some 9)) (v := ?_) rfl rfl (by kernel_rfl) (fun _ _ _ h => h) hSu.out (Or.inl ⟨by rfl, fun w' _ => yu_value ?_⟩) ?_
              rotate_left
              · (go_simp; (try exact rfl))
              try simp only [Act.put, pu1, pu2, pu3]
              refine wpAnyU_pure (i := 10) (d := (some 19)) (v := ?_) rfl rfl (by kernel_rfl) (fun _ _ _ h => h) hSu.out (Or.inl ⟨by rfl, fun w' _ => yu_value ?_⟩) ?_
              rotate_left
              · (go_simp; (try exact rfl))
              try simp only [Act.put, pu1, pu2, pu3]
              refine wpAnyU_pure (i := 11) (d := (some 20)) (v := ?_) rfl rfl (by kernel_rfl) (fun _ _ _ h => h) hSu.out (Or.inl ⟨by rfl, fun w' _ => yu_value ?_⟩) ?_
              rotate_left
              · (go_simp; (try exact rfl))
              try simp only [Act.put, pu1, pu2, pu3]
              refine wpAnyU_one (i := 14) rfl (by kernel_rfl) (by rfl) fun s1 hs1 => ?_
              have k1 := hp.up hs1
              refine wp_stB rfl rfl rfl rfl k1 rfl rfl (one2 _ _ _ _) ?_
              refine ⟨fun h => by simp at h, ?_⟩
              try simp only [Act.put, pu1]
              refine wpAnyU_one (i := 15) rfl (by kernel_rfl) (by rfl) fun s2 hs2 => ?_
              have k2 := ((hq.up hs1).row_other _ (show q' ≠ p' by omega)).up hs2
              refine wp_stB rfl rfl rfl rfl k2 rfl rfl (one2 _ _ _ _) ?_
              refine ⟨fun h => by simp at h, ?_⟩
              try simp only [Act.put, pu1]
              refine wpAnyU_done (by kernel_rfl) (fun wF huE => ?_) _
              go_wp2
              go_meet
              case rel => exact leaf4 hSB hS1 (hU.trans hs1) k1 hs2 k2 huE (hQ.up hs1) (hR.up hs1) (by omega) (by omega) (by omega)
          · try simp only [Act.put, pu1, pu2, pu3]
            replace hU := hU.trans hw88
            replace hP := hP.up hw88
            replace hT := hT.up hw88
            replace hq := hq.up hw88
            have ha88 := Up.alloc w88 (.cells #[.bool false, .slice none 0 0] 30)
            have hp_le : wS.heap.size ≤ w88.heap.size := hU.size
            have hne := hq.lt
            replace hU := hU.trans ha88
            replace hP := hP.up ha88
            replace hT := hT.up ha88
            replace hq := hq.up ha88
            have hp : Blk _ w88.heap.size 30 #[.bool false, .slice none 0 0] := blk_new (w := w88) rfl
            generalize ep : w88.heap.size = p' at hp hp_le hne ⊢
            refine wpAnyU_callE (i := 7) (d := some 17) rfl rfl (by kernel_rfl) (by rfl) hSu.out (fun w' => by go_simp) (fun w' hw' => mul_big (hS5.up (hU.trans hw')) (hB.out.up (below_up hSB (hU.trans hw'))) nTwo hy1) (fun v94 w94 hw94 hr94 => ?_)
            try simp only [Act.put, pu1, pu2, pu3]
            replace hU := hU.trans hw94
            replace hP := hP.up hw94
            replace hT := hT.up hw94
            replace hp := hp.up hw94
            replace hq := hq.up hw94
            obtain ⟨b94, a94, n94, c94, rfl⟩ := hr94.shape
            have hV := hr94
            refine wpAnyU_callE (i := 8) (d := some 18) rfl rfl (by kernel_rfl) (by rfl) hSu.out (fun w' => by go_simp) (fun w' hw' => div_big2 (hT.up hw') (hV.up hw') hs h2y hYp) (fun v95 w95 hw95 hr95 => ?_)
            try simp only [Act.put, pu1, pu2, pu3]
            replace hU := hU.trans hw95
            replace hP := hP.up hw95
            replace hT := hT.up hw95
            replace hV := hV.up hw95
            replace hp := hp.up hw95
            replace hq := hq.up hw95
            obtain ⟨b95, a95, n95, c95, d95, e95, f95, g95, rfl, hQ, hR⟩ := hr95
            refine wpAnyU_pure (i := 9) (d := (some 9)) (v := ?_) rfl rfl (by kernel_rfl) (fun _ _ _ h => h) hSu.out (Or.inl ⟨by rfl, fun w' _ => yu_value ?_⟩) ?_
            rotate_left
            · (go_simp; (try exact rfl))
            try simp only [Act.put, pu1, pu2, pu3]
            refine wpAnyU_pure (i := 10) (d := (some 19)) (v := ?_) rfl rfl (by kernel_rfl) (fun _ _ _ h => h) hSu.out (Or.inl ⟨by rfl, fun w' _ => yu_value ?_⟩) ?_
            rotate_left
            · (go_simp; (try exact rfl))
            try simp only [Act.put, pu1, pu2, pu3]
            refine wpAnyU_pure (i := 11) (d := (some 20)) (v := ?_) rfl rfl (by kernel_rfl) (fun _ _ _ h => h) hSu.out (Or.inl ⟨by rfl, fun w' _ => yu_value ?_⟩) ?_
            rotate_left
            · (go_simp; (try exact rfl))
            try simp only [Act.put, pu1, pu2, pu3]
            refine wpAnyU_one (i := 14) rfl (by kernel_rfl) (by rfl) fun s1 hs1 => ?_
            have k1 := hp.up hs1
            refine wp_stB rfl rfl rfl rfl k1 rfl rfl (one2 _ _ _ _) ?_
            refine ⟨fun h => by simp at h, ?_⟩
            try simp only [Act.put, pu1]
            refine wpAnyU_one (i := 15) rfl (by kernel_rfl) (by rfl) fun s2 hs2 => ?_
            have k2 := ((hq.up hs1).row_other _ (show q' ≠ p' by omega)).up hs2
            refine wp_stB rfl rfl rfl rfl k2 rfl rfl (one2 _ _ _ _) ?_
            refine ⟨fun h => by simp at h, ?_⟩
            try simp only [Act.put, pu1]
            refine wpAnyU_done (by kernel_rfl) (fun wF huE => ?_) _
            go_wp2
            go_meet
            case rel => exact leaf4 hSB hS1 (hU.trans hs1) k1 hs2 k2 huE (hQ.up hs1) (hR.up hs1) (by omega) (by omega) (by omega)
        · try simp only [Act.put, pu1, pu2, pu3]
          replace hU := hU.trans hw87
          replace hP := hP.up hw87
          replace hq := hq.up hw87
          have ha87 := Up.alloc w87 (.cells #[.bool false, .slice none 0 0] 30)
          have hp_le : wS.heap.size ≤ w87.heap.size := hU.size
          have hne := hq.lt
          replace hU := hU.trans ha87
          replace hP := hP.up ha87
          replace hq := hq.up ha87
          have hp : Blk _ w87.heap.size 30 #[.bool false, .slice none 0 0] := blk_new (w := w87) rfl
          generalize ep : w87.heap.size = p' at hp hp_le hne ⊢
          refine wpAnyU_callE (i := 4) (d := some 14) rfl rfl (by kernel_rfl) (by rfl) hSu.out (fun w' => by go_simp) (fun w' hw' => add_big (hP.up hw') (hB.out.up (below_up hSB (hU.trans hw'))) h2x hy1) (fun v97 w97 hw97 hr97 => ?_)
          try simp only [Act.put, pu1, pu2, pu3]
          replace hU := hU.trans hw97
          replace hP := hP.up hw97
          replace hp := hp.up hw97
          replace hq := hq.up hw97
          obtain ⟨b97, a97, n97, c97, rfl⟩ := hr97.shape
          have hT := hr97
          refine wpAnyU_callE (i := 7) (d := some 17) rfl rfl (by kernel_rfl) (by rfl) hSu.out (fun w' => by go_simp) (fun w' hw' => mul_big (hS5.up (hU.trans hw')) (hB.out.up (below_up hSB (hU.trans hw'))) nTwo hy1) (fun v98 w98 hw98 hr98 => ?_)
          try simp only [Act.put, pu1, pu2, pu3]
          replace hU := hU.trans hw98
          replace hP := hP.up hw98
          replace hT := hT.up hw98
          replace hp := hp.up hw98
          replace hq := hq.up hw98
          obtain ⟨b98, a98, n98, c98, rfl⟩ := hr98.shape
          have hV := hr98
          refine wpAnyU_callE (i := 8) (d := some 18) rfl rfl (by kernel_rfl) (by rfl) hSu.out (fun w' => by go_simp) (fun w' hw' => div_big2 (hT.up hw') (hV.up hw') hs h2y hYp) (fun v99 w99 hw99 hr99 => ?_)
          try simp only [Act.put, pu1, pu2, pu3]
          replace hU := hU.trans hw99
          replace hP := hP.up hw99
          replace hT := hT.up hw99
          replace hV := hV.up hw99
          replace hp := hp.up hw99
          replace hq := hq.up hw99
          obtain ⟨b99, a99, n99, c99, d99, e99, f99, g99, rfl, hQ, hR⟩ := hr99
          refine wpAnyU_pure (i := 9) (d := (some 9)) (v := ?_) rfl rfl (by kernel_rfl) (fun _ _ _ h => h) hSu.out (Or.inl ⟨by rfl, fun w' _ => yu_value ?_⟩) ?_
          rotate_left
          · (go_simp; (try exact rfl))
          try simp only [Act.put, pu1, pu2, pu3]
          refine wpAnyU_pure (i := 10) (d := (some 19)) (v := ?_) rfl rfl (by kernel_rfl) (fun _ _ _ h => h) hSu.out (Or.inl ⟨by rfl, fun w' _ => yu_value ?_⟩) ?_
          rotate_left
          · (go_simp; (try exact rfl))
          try simp only [Act.put, pu1, pu2, pu3]
          refine wpAnyU_pure (i := 11) (d := (some 20)) (v := ?_) rfl rfl (by kernel_rfl) (fun _ _ _ h => h) hSu.out (Or.inl ⟨by rfl, fun w' _ => yu_value ?_⟩) ?_
          rotate_left
          · (go_simp; (try exact rfl))
          try simp only [Act.put, pu1, pu2, pu3]
          refine wpAnyU_one (i := 14) rfl (by kernel_rfl) (by rfl) fun s1 hs1 => ?_
          have k1 := hp.up hs1
          refine wp_stB rfl rfl rfl rfl k1 rfl rfl (one2 _ _ _ _) ?_
          refine ⟨fun h => by simp at h, ?_⟩
          try simp only [Act.put, pu1]
          refine wpAnyU_one (i := 15) rfl (by kernel_rfl) (by rfl) fun s2 hs2 => ?_
          have k2 := ((hq.up hs1).row_other _ (show q' ≠ p' by omega)).up hs2
          refine wp_stB rfl rfl rfl rfl k2 rfl rfl (one2 _ _ _ _) ?_
          refine ⟨fun h => by simp at h, ?_⟩
          try simp only [Act.put, pu1]
          refine wpAnyU_done (by kernel_rfl) (fun wF huE => ?_) _
          go_wp2
          go_meet
          case rel => exact leaf4 hSB hS1 (hU.trans hs1) k1 hs2 k2 huE (hQ.up hs1) (hR.up hs1) (by omega) (by omega) (by omega)
      · try simp only [Act.put, pu1, pu2, pu3]
        replace hU := hU.trans hw86
        replace hq := hq.up hw86
        have ha86 := Up.alloc w86 (.cells #[.bool false, .slice none 0 0] 30)
        have hp_le : wS.heap.size ≤ w86.heap.size := hU.size
        have hne := hq.lt
        replace hU := hU.trans ha86
        replace hq := hq.up ha86
        have hp : Blk _ w86.heap.size 30 #[.bool false, .slice none 0 0] := blk_new (w := w86) rfl
        generalize ep : w86.heap.size = p' at hp hp_le hne ⊢
        refine wpAnyU_callE (i := 2) (d := some 12) rfl rfl (by kernel_rfl) (by rfl) hSu.out (fun w' => by go_simp) (fun w' hw' => mul_big (hS5.up (hU.trans hw')) (hA.out.up (below_up hSB (hU.trans hw'))) nTwo hx1) (fun v101 w101 hw101 hr101 => ?_)
        try simp only [Act.put, pu1, pu2, pu3]
        replace hU := hU.trans hw101
        replace hp := hp.up hw101
        replace hq := hq.up hw101
        obtain ⟨b101, a101, n101, c101, rfl⟩ := hr101.shape
        have hP := hr101
        refine wpAnyU_callE (i := 4) (d := some 14) rfl rfl (by kernel_rfl) (by rfl) hSu.out (fun w' => by go_simp) (fun w' hw' => add_big (hP.up hw') (hB.out.up (below_up hSB (hU.trans hw'))) h2x hy1) (fun v102 w102 hw102 hr102 => ?_)
        try simp only [Act.put, pu1, pu2, pu3]
        replace hU := hU.trans hw102
        replace hP := hP.up hw102
        replace hp := hp.up hw102
        replace hq := hq.up hw102
        obtain ⟨b102, a102, n102, c102, rfl⟩ := hr102.shape
        have hT := hr102
        refine wpAnyU_callE (i := 7) (d := some 17) rfl rfl (by kernel_rfl) (by rfl) hSu.out (fun w' => by go_simp) (fun w' hw' => mul_big (hS5.up (hU.trans hw')) (hB.out.up (below_up hSB (hU.trans hw'))) nTwo hy1) (fun v103 w103 hw103 hr103 => ?_)
        try simp only [Act.put, pu1, pu2, pu3]
        replace hU := hU.trans hw103
        replace hP := hP.up hw103
        replace hT := hT.up hw103
        replace hp := hp.up hw103
        replace hq := hq.up hw103
        obtain ⟨b103, a103, n103, c103, rfl⟩ := hr103.shape
        have hV := hr103
        refine wpAnyU_callE (i := 8) (d := some 18) rfl rfl (by kernel_rfl) (by rfl) hSu.out (fun w' => by go_simp) (fun w' hw' => div_big2 (hT.up hw') (hV.up hw') hs h2y hYp) (fun v104 w104 hw104 hr104 => ?_)
        try simp only [Act.put, pu1, pu2, pu3]
        replace hU := hU.trans hw104
        replace hP := hP.up hw104
        replace hT := hT.up hw104
        replace hV := hV.up hw104
        replace hp := hp.up hw104
        replace hq := hq.up hw104
        obtain ⟨b104, a104, n104, c104, d104, e104, f104, g104, rfl, hQ, hR⟩ := hr104
        refine wpAnyU_pure (i := 9) (d := (some 9)) (v := ?_) rfl rfl (by kernel_rfl) (fun _ _ _ h => h) hSu.out (Or.inl ⟨by rfl, fun w' _ => yu_value ?_⟩) ?_
        rotate_left
        · (go_simp; (try exact rfl))
        try simp only [Act.put, pu1, pu2, pu3]
        refine wpAnyU_pure (i := 10) (d := (some 19)) (v := ?_) rfl rfl (by kernel_rfl) (fun _ _ _ h => h) hSu.out (Or.inl ⟨by rfl, fun w' _ => yu_value ?_⟩) ?_
        rotate_left
        · (go_simp; (try exact rfl))
        try simp only [Act.put, pu1, pu2, pu3]
        refine wpAnyU_pure (i := 11) (d := (some 20)) (v := ?_) rfl rfl (by kernel_rfl) (fun _ _ _ h => h) hSu.out (Or.inl ⟨by rfl, fun w' _ => yu_value ?_⟩) ?_
        rotate_left
        · (go_simp; (try exact rfl))
        try simp only [Act.put, pu1, pu2, pu3]
        refine wpAnyU_one (i := 14) rfl (by kernel_rfl) (by rfl) fun s1 hs1 => ?_
        have k1 := hp.up hs1
        refine wp_stB rfl rfl rfl rfl k1 rfl rfl (one2 _ _ _ _) ?_
        refine ⟨fun h => by simp at h, ?_⟩
        try simp only [Act.put, pu1]
        refine wpAnyU_one (i := 15) rfl (by kernel_rfl) (by rfl) fun s2 hs2 => ?_
        have k2 := ((hq.up hs1).row_other _ (show q' ≠ p' by omega)).up hs2
        refine wp_stB rfl rfl rfl rfl k2 rfl rfl (one2 _ _ _ _) ?_
        refine ⟨fun h => by simp at h, ?_⟩
        try simp only [Act.put, pu1]
        refine wpAnyU_done (by kernel_rfl) (fun wF huE => ?_) _
        go_wp2
        go_meet
        case rel => exact leaf4 hSB hS1 (hU.trans hs1) k1 hs2 k2 huE (hQ.up hs1) (hR.up hs1) (by omega) (by omega) (by omega)
  case rest =>
    obtain ⟨p', q', b4, a4, n4, c4, b5, a5, n5, c5, rfl, rfl, hKp, hKq, hQ, hR, hK4, hp4, hq4, hBel⟩ := hcut
    obtain ⟨sg, hsg⟩ : ∃ sg, decide (bsign b5 n5 < 0) = sg := ⟨_, rfl⟩
    have hval : (2 * x + y) / (2 * y) = if sg = true then (2 * x + y).tdiv (2 * y) - 1 else (2 * x + y).tdiv (2 * y) := by
      have h1 := HFl.out
      obtain ⟨a', c', he, -⟩ := hR
      obtain ⟨rfl, rfl, rfl, rfl⟩ : b5 = decide ((2 * x + y).tmod (2 * y) < 0) ∧ a5 = a' ∧ n5 = nl ((2 * x + y).tmod (2 * y)).natAbs ∧ c5 = c' := by simpa using he
      rw [sgn_big] at hsg
      rw [h1, ← hsg]
      have : (sgn ((2 * x + y).tmod (2 * y)) < 0) ↔ ((2 * x + y).tmod (2 * y) < 0) := by
        unfold sgn
        split
        · simp [*]
        · split <;> simp [*]
      simp only [decide_eq_true_eq, this]
    have hqb : nl ((2 * x + y).tdiv (2 * y)).natAbs < 50000 := by
      have h1 : ((2 * x + y).tdiv (2 * y)).natAbs ≤ (2 * x + y).natAbs := by rw [Int.natAbs_tdiv]; exact Nat.div_le_self _ _
      have h2 := nl_le (Nat.lt_of_le_of_lt h1 (lt_bp_nl _))
      omega
    have HO1 := hid (fun w => of_big 1 (by decide) (by decide) w)
    have hneq : p' ≠ w.heap.size + 1 + 1 := by omega
    clear hR
    cases sg with
    | true =>
      rw [if_pos rfl] at hval
      have HV := hid hval
      clear hval
      go_wp2_with (first | ((with_reducible apply ldB_P); exact rfl; exact rfl; (focus (repeat (first | assumption | ((with_reducible apply blk_new); (focus (first | rfl | (simp; done)))) | (with_reducible apply blk_alloc) | (with_reducible apply blk_drew) | (with_reducible apply blk_drewN) | ((with_reducible apply blk_up); assumption) | (with_reducible apply blk_same) | ((with_reducible apply blk_else); (focus (first | (simp; done) | (simp; omega) | omega)))))); exact rfl) | (go_at_call 9; (with_reducible refine (bsign_any _ _ _ _ _).mono ?_); rintro e wG ⟨rfl, huG⟩))
      refine wp_region_upH (S := (fun wq => Blk wq (w.heap.size + 1 + 1) 30 #[.bool false, .slice none 0 0] ∧ Blk wq p' 30 #[.bool b4, .slice a4 n4 c4] ∧ Big wq (.agg #[.bool b4, .slice a4 n4 c4]) ((2 * x + y).tdiv (2 * y)) ∧ Below w.heap.size w wq)) (req := (fun j => j != 3)) (by kernel_rfl) (fun _ _ h hu => ⟨(h.1).up hu, (h.2.1).up hu, (h.2.2.1).up hu, below_up (h.2.2.2) hu⟩) ⟨(by (repeat (first | assumption | ((with_reducible apply blk_new); (focus (first | rfl | (simp; done)))) | (with_reducible apply blk_alloc) | (with_reducible apply blk_drew) | (with_reducible apply blk_drewN) | ((with_reducible apply blk_up); assumption) | (with_reducible apply blk_same) | ((with_reducible apply blk_else); (focus (first | (simp; done) | (simp; omega) | omega)))))), (by (repeat (first | assumption | ((with_reducible apply blk_new); (focus (first | rfl | (simp; done)))) | (with_reducible apply blk_alloc) | (with_reducible apply blk_drew) | (with_reducible apply blk_drewN) | ((with_reducible apply blk_up); assumption) | (with_reducible apply blk_same) | ((with_reducible apply blk_else); (focus (first | (simp; done) | (simp; omega) | omega)))))), (by (repeat (first | assumption | ((with_reducible apply big_set); (focus (repeat (first | assumption | ((with_reducible apply blk_new); (focus (first | rfl | (simp; done)))) | (with_reducible apply blk_alloc) | (with_reducible apply blk_drew) | (with_reducible apply blk_drewN) | ((with_reducible apply blk_up); assumption) | (with_reducible apply blk_same) | ((with_reducible apply blk_else); (focus (first | (simp; done) | (simp; omega) | omega))))))) | (with_reducible apply big_alloc) | ((with_reducible apply big_up); assumption))); done), (by repeat (first | assumption | (with_reducible apply Up.of) | (with_reducible exact Below.refl _ _) | (with_reducible exact Up.refl _) | ((with_reducible apply bl_setRow); (focus (first | exact Nat.le_refl _ | (simp; done) | (simp; omega) | omega))) | (with_reducible apply below_drewN) | (with_reducible apply Below.drew) | ((with_reducible apply bl_alloc); (focus (first | exact Nat.le_refl _ | (simp; done) | (simp; omega) | omega))) | ((with_reducible apply bl_setCell); (focus (first | exact Nat.le_refl _ | (simp; done) | (simp; omega) | omega))) | ((with_reducible apply up_tr); assumption)))⟩ (fun wS hSS hSu => ?_)
      have ⟨hS1, hS2, hS3, hSB⟩ := hSS
      refine wpAnyU_take (i := 0) (d := (some 24)) (v := _) rfl rfl (by kernel_rfl) (fun _ _ _ h => h) hSu.out hSS (Or.inl ⟨by rfl, fun w' hSw => yu_value (run_ldB rfl rfl hSw.2.1 rfl)⟩) ?_
      try simp only [Act.put, pu1, pu2, pu3]
      refine wpAnyU_callE (i := 1) (d := (some 25)) rfl rfl (by kernel_rfl) (by rfl) hSu.out (fun w' => by go_simp) (fun w' hw' => HO1.out w') fun vO wO hwO hRO => ?_
      try simp only [Act.put, pu1, pu2, pu3]
      obtain ⟨b6, a6, n6, c6, rfl⟩ := hRO.shape
      refine wpAnyU_callE (i := 2) (d := (some 26)) rfl rfl (by kernel_rfl) (by rfl) hSu.out (fun w' => by go_simp) (fun w' hw' => sub_big ((hS3.up hwO).up hw') (hRO.up hw') hqb nOne) fun vD wD hwD hRD => ?_
      try simp only [Act.put, pu1, pu2, pu3]
      obtain ⟨b7, a7, n7, c7, rfl⟩ := hRD.shape
      refine wpAnyU_one (i := 3) rfl (by kernel_rfl) (by rfl) fun s1 hs1 => ?_
      have k1 := ((hS1.up hwO).up hwD).up hs1
      refine wp_stB rfl rfl rfl rfl k1 rfl rfl (one2 _ _ _ _) ?_
      refine ⟨fun h => by simp at h, ?_⟩
      try simp only [Act.put, pu1]
      refine wpAnyU_done (by kernel_rfl) (fun wF huE => ?_) _
      have gR := (k1.setRow #[.bool b7, .slice a7 n7 c7]).up huE
      have gA := ((hRD.up hs1).setRow (D := #[.bool b7, .slice a7 n7 c7]) k1).up huE
      have gB := below_up (below_setRow (below_up (below_up (below_up hSB hwO) hwD) hs1) (show w.heap.size ≤ w.heap.size + 1 + 1 by omega) #[.bool b7, .slice a7 n7 c7]) huE
      clear k1 hRD hRO hwO hwD hs1 huE hS1 hS2 hS3 hSB hSS
      go_wp2
      exact bodyPost_ret (resB rfl rfl gR rfl) rfl ⟨gB, _, rfl, by rw [HV.out]; exact gA⟩
    | false =>
      rw [if_neg (by decide)] at hval
      have HV := hid hval
      clear hval
      go_wp2_with (first | ((with_reducible apply ldB_P); exact rfl; exact rfl; (focus (repeat (first | assumption | ((with_reducible apply blk_new); (focus (first | rfl | (simp; done)))) | (with_reducible apply blk_alloc) | (with_reducible apply blk_drew) | (with_reducible apply blk_drewN) | ((with_reducible apply blk_up); assumption) | (with_reducible apply blk_same) | ((with_reducible apply blk_else); (focus (first | (simp; done) | (simp; omega) | omega)))))); exact rfl) | ((with_reducible apply stB_P); exact rfl; exact rfl; (focus (repeat (first | assumption | ((with_reducible apply blk_new); (focus (first | rfl | (simp; done)))) | (with_reducible apply blk_alloc) | (with_reducible apply blk_drew) | (with_reducible apply blk_drewN) | ((with_reducible apply blk_up); assumption) | (with_reducible apply blk_same) | ((with_reducible apply blk_else); (focus (first | (simp; done) | (simp; omega) | omega)))))); exact rfl; exact rfl; exact one2 _ _ _ _) | (go_at_call 9; (with_reducible refine (bsign_any _ _ _ _ _).mono ?_); rintro e wG ⟨rfl, huG⟩))
      have kK : Blk wG (w.heap.size + 1 + 1) 30 #[.bool false, .slice none 0 0] := hK4.up huG
      exact bodyPost_ret (resB rfl rfl (kK.setRow _) rfl) rfl ⟨below_setRow (below_up hBel huG) (by omega) _, _, rfl, by rw [HV.out]; exact (hQ.up huG).setRow kK⟩
end Go.Proofs.Ytbogbdokllmanaa
