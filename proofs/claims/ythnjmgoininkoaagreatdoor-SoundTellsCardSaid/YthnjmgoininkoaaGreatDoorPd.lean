import Derived.Test.YthnjmgoininkoaaGreatDoorPc
import Derived.Deep.DeepCutAuto
import Derived.Deep.CutBlock
import Derived.OwnWalk
import Derived.Test.YthnjmgoininkoaaGreatDoorRows
import Derived.Test.YthnjmgoininkoaaGreatDoorTie
import Derived.ChangeSame
import Derived.ChangeVars
import Derived.JoinedOf
import Derived.RowKit
import Derived.RowKitTokens
import Derived.LaidLaws
import Derived.LaidHandle
import Derived.Stop.Joined
import Derived.ChangeMaps5
import Derived.SevenTiedAt
namespace Go.Proofs.YthnjmgoininkoaaGreatDoor
open Go Go.RowKit
set_option maxRecDepth 100000
theorem run_allocB {o : Oper} {a : Act} (ho : o.op = .alloc 44) (w : World) :
   (execOp a.eval o).run Tryz.prog w = .ok (.value (.pointer (some ⟨w.heap.size, 0, none⟩))) (w.alloc (.cells #[.bool false, .slice none 0 0] 44)) := by
 unfold execOp
 rw [ho]
 dsimp only
 go_simp
theorem wpAnyU_allocB {ops : Array Oper} {Q : Exit -> Act -> World -> Prop} {md : Region.Mode} {S : World -> Prop} {req : Nat -> Bool} {i : Nat} {o : Oper} {d : Option Tmp} {fuel : Nat} {listed : Array Bool} {a : Act} {w : World}
   (hi : ops[i]? = some o) (hd : o.dst = d) (hr : Region.ready md ops listed = [i]) (hw : Region.wanted o (yielded ops a.tmps) = true) (ho : o.op = .alloc 44) (hSup : ∀ w w', S w -> Up w w' -> S w')
   (h : ∀ w1, Up w w1 -> wpAnyU Tryz.prog md ops Q S req fuel (listed.setIfInBounds i true) (a.put d (.pointer (some ⟨w1.heap.size, 0, none⟩))) (w1.alloc (.cells #[.bool false, .slice none 0 0] 44))) : wpAnyU Tryz.prog md ops Q S req (fuel + 1) listed a w := by
 subst hd
 refine wpAnyU_one hi hr hw fun w1 hw1 => ?_
 unfold Oper.wp
 rw [run_allocB ho w1]
 exact ⟨fun _ hS => hSup _ _ hS (Up.alloc _ _), h w1 hw1⟩
section
variable {P : Program} {ops : Array Oper} {Q : Exit -> Act -> World -> Prop} {md : Region.Mode} {S : World -> Prop} {req : Nat -> Bool}
theorem wpOp_callE {i : Nat} {o : Oper} {d : Option Tmp} {fuel : Nat} {listed : Array Bool} {a : Act} {w : World} {f : FuncId} {args : Array Value} {R : Value -> World -> Prop} (hi : ops[i]? = some o) (hd : o.dst = d) (hw : Region.wanted o (yielded ops a.tmps) = true)
   (hSup : ∀ w w', S w -> Up w w' -> S w') (hrun : (execOp a.eval o).run P w = .ok (.enter f args) w) (hc : Calls P f args w fun e w'' => Up w w'' /\ ∃ v, e = .returned v /\ R v w'')
   (h : ∀ v w'', Up w w'' -> R v w'' -> wpAnyU P md ops Q S req fuel (listed.setIfInBounds i true) (a.put d v) w'') : wpOp P ops Q i (fun a' w'' => (req i = true -> S w -> S w'') /\ wpAnyU P md ops Q S req fuel (listed.setIfInBounds i true) a' w'') a w := by
 unfold wpOp
 simp only [hi, hw, if_true]
 refine .inl ?_
 unfold Oper.wp
 rw [hrun]
 subst hd
 refine Calls.mono hc fun e w'' he => ?_
 obtain ⟨hu, v, rfl, hR⟩ := he
 exact ⟨fun _ hs => hSup _ _ hs hu, h v w'' hu hR⟩
end
theorem wpOp_allocB {ops : Array Oper} {Q : Exit -> Act -> World -> Prop} {md : Region.Mode} {S : World -> Prop} {req : Nat -> Bool} {i : Nat} {o : Oper} {d : Option Tmp} {fuel : Nat} {listed : Array Bool} {a : Act} {w : World}
   (hi : ops[i]? = some o) (hd : o.dst = d) (hw : Region.wanted o (yielded ops a.tmps) = true) (ho : o.op = .alloc 44) (hSup : ∀ w w', S w -> Up w w' -> S w')
   (h : wpAnyU Tryz.prog md ops Q S req fuel (listed.setIfInBounds i true) (a.put d (.pointer (some ⟨w.heap.size, 0, none⟩))) (w.alloc (.cells #[.bool false, .slice none 0 0] 44))) : wpOp Tryz.prog ops Q i (fun a' w'' => (req i = true -> S w -> S w'') /\ wpAnyU Tryz.prog md ops Q S req fuel (listed.setIfInBounds i true) a' w'') a w := by
 unfold wpOp
 simp only [hi, hw, if_true]
 refine .inl ?_
 unfold Oper.wp
 rw [run_allocB ho w]
 subst hd
 exact ⟨fun _ hS => hSup _ _ hS (Up.alloc _ _), h⟩
theorem wpAnyU_a2 {ops : Array Oper} {Q : Exit -> Act -> World -> Prop} {md : Region.Mode} {S : World -> Prop} {req : Nat -> Bool} {j k : Nat} {oj ok : Oper} {dj dk : Option Tmp} {fuel : Nat} {listed : Array Bool} {a : Act} {w : World} (hr : Region.ready md ops listed = [j, k])
   (hj : ops[j]? = some oj) (hdj : oj.dst = dj) (hwj : Region.wanted oj (yielded ops a.tmps) = true) (hoj : oj.op = .alloc 44) (hk : ops[k]? = some ok) (hdk : ok.dst = dk) (hwk : Region.wanted ok (yielded ops a.tmps) = true) (hok : ok.op = .alloc 44) (hSup : ∀ w w', S w -> Up w w' -> S w')
   (h1 : ∀ w1, Up w w1 -> wpAnyU Tryz.prog md ops Q S req fuel (listed.setIfInBounds j true) (a.put dj (.pointer (some ⟨w1.heap.size, 0, none⟩))) (w1.alloc (.cells #[.bool false, .slice none 0 0] 44)))
   (h2 : ∀ w1, Up w w1 -> wpAnyU Tryz.prog md ops Q S req fuel (listed.setIfInBounds k true) (a.put dk (.pointer (some ⟨w1.heap.size, 0, none⟩))) (w1.alloc (.cells #[.bool false, .slice none 0 0] 44))) : wpAnyU Tryz.prog md ops Q S req (fuel + 1) listed a w :=
 wpAnyU_all hr (by simp) fun w' hw' x hx => by
  simp only [List.mem_cons, List.not_mem_nil, or_false] at hx
  rcases hx with rfl | rfl
  ·exact wpOp_allocB hj hdj hwj hoj hSup (h1 w' hw')
  ·exact wpOp_allocB hk hdk hwk hok hSup (h2 w' hw')
theorem wpAnyU_ca1 {ops : Array Oper} {Q : Exit -> Act -> World -> Prop} {md : Region.Mode} {S : World -> Prop} {req : Nat -> Bool} {i j : Nat} {o oj : Oper} {d dj : Option Tmp} {fuel : Nat} {listed : Array Bool} {a : Act} {w : World} {f : FuncId} {args : Array Value} {R : Value -> World -> Prop} (hr : Region.ready md ops listed = [i, j])
   (hi : ops[i]? = some o) (hd : o.dst = d) (hw : Region.wanted o (yielded ops a.tmps) = true) (hj : ops[j]? = some oj) (hdj : oj.dst = dj) (hwj : Region.wanted oj (yielded ops a.tmps) = true) (hoj : oj.op = .alloc 44) (hSup : ∀ w w', S w -> Up w w' -> S w')
   (hrun : ∀ w', (execOp a.eval o).run Tryz.prog w' = .ok (.enter f args) w') (hc : ∀ w', Up w w' -> Calls Tryz.prog f args w' fun e w'' => Up w' w'' /\ ∃ v, e = .returned v /\ R v w'')
   (h : ∀ v w'', Up w w'' -> R v w'' -> wpAnyU Tryz.prog md ops Q S req fuel (listed.setIfInBounds i true) (a.put d v) w'')
   (h1 : ∀ w1, Up w w1 -> wpAnyU Tryz.prog md ops Q S req fuel (listed.setIfInBounds j true) (a.put dj (.pointer (some ⟨w1.heap.size, 0, none⟩))) (w1.alloc (.cells #[.bool false, .slice none 0 0] 44))) : wpAnyU Tryz.prog md ops Q S req (fuel + 1) listed a w :=
 wpAnyU_all hr (by simp) fun w' hw' x hx => by
  simp only [List.mem_cons, List.not_mem_nil, or_false] at hx
  rcases hx with rfl | rfl
  ·exact wpOp_callE hi hd hw hSup (hrun w') (hc w' hw') fun v w'' hu hR => h v w'' (hw'.trans hu) hR
  ·exact wpOp_allocB hj hdj hwj hoj hSup (h1 w' hw')
theorem wpAnyU_ca2 {ops : Array Oper} {Q : Exit -> Act -> World -> Prop} {md : Region.Mode} {S : World -> Prop} {req : Nat -> Bool} {i j k : Nat} {o oj ok : Oper} {d dj dk : Option Tmp} {fuel : Nat} {listed : Array Bool} {a : Act} {w : World} {f : FuncId} {args : Array Value} {R : Value -> World -> Prop} (hr : Region.ready md ops listed = [i, j, k])
   (hi : ops[i]? = some o) (hd : o.dst = d) (hw : Region.wanted o (yielded ops a.tmps) = true) (hj : ops[j]? = some oj) (hdj : oj.dst = dj) (hwj : Region.wanted oj (yielded ops a.tmps) = true) (hoj : oj.op = .alloc 44) (hk : ops[k]? = some ok) (hdk : ok.dst = dk) (hwk : Region.wanted ok (yielded ops a.tmps) = true) (hok : ok.op = .alloc 44) (hSup : ∀ w w', S w -> Up w w' -> S w')
   (hrun : ∀ w', (execOp a.eval o).run Tryz.prog w' = .ok (.enter f args) w') (hc : ∀ w', Up w w' -> Calls Tryz.prog f args w' fun e w'' => Up w' w'' /\ ∃ v, e = .returned v /\ R v w'')
   (h : ∀ v w'', Up w w'' -> R v w'' -> wpAnyU Tryz.prog md ops Q S req fuel (listed.setIfInBounds i true) (a.put d v) w'')
   (h1 : ∀ w1, Up w w1 -> wpAnyU Tryz.prog md ops Q S req fuel (listed.setIfInBounds j true) (a.put dj (.pointer (some ⟨w1.heap.size, 0, none⟩))) (w1.alloc (.cells #[.bool false, .slice none 0 0] 44)))
   (h2 : ∀ w1, Up w w1 -> wpAnyU Tryz.prog md ops Q S req fuel (listed.setIfInBounds k true) (a.put dk (.pointer (some ⟨w1.heap.size, 0, none⟩))) (w1.alloc (.cells #[.bool false, .slice none 0 0] 44))) : wpAnyU Tryz.prog md ops Q S req (fuel + 1) listed a w :=
 wpAnyU_all hr (by simp) fun w' hw' x hx => by
  simp only [List.mem_cons, List.not_mem_nil, or_false] at hx
  rcases hx with rfl | rfl | rfl
  ·exact wpOp_callE hi hd hw hSup (hrun w') (hc w' hw') fun v w'' hu hR => h v w'' (hw'.trans hu) hR
  ·exact wpOp_allocB hj hdj hwj hoj hSup (h1 w' hw')
  ·exact wpOp_allocB hk hdk hwk hok hSup (h2 w' hw')
def RCut (w : World) (s d : Int) (t6 t7 : Value) (wc : World) : Prop :=
 ∃ p q b4 a4 n4 c4 b5 a5 n5 c5, t6 = .pointer (some ⟨p, 0, none⟩) /\ t7 = .pointer (some ⟨q, 0, none⟩) /\ Blk wc p 44 #[.bool b4, .slice a4 n4 c4] /\ Blk wc q 44 #[.bool b5, .slice a5 n5 c5] /\
   Big wc (.agg #[.bool b4, .slice a4 n4 c4]) (s.tdiv d) /\ Big wc (.agg #[.bool b5, .slice a5 n5 c5]) (s.tmod d) /\ Blk wc (w.heap.size + 1 + 1) 44 #[.bool false, .slice none 0 0] /\ w.heap.size + 1 + 1 < p /\ w.heap.size + 1 + 1 < q /\ Below w.heap.size w wc
theorem leaf4 {w wS s1 s2 wF : World} {p q : Nat} {s d : Int} {b4 b5 : Bool} {a4 a5 : Option Addr} {n4 c4 n5 c5 : Nat} (hSB : Below w.heap.size w wS) (hS1 : Blk wS (w.heap.size + 1 + 1) 44 #[.bool false, .slice none 0 0]) (hU : Up wS s1) (k1 : Blk s1 p 44 #[.bool false, .slice none 0 0])
   (hs2 : Up (s1.setRow p #[.bool b4, .slice a4 n4 c4]) s2) (k2 : Blk s2 q 44 #[.bool false, .slice none 0 0]) (huE : Up (s2.setRow q #[.bool b5, .slice a5 n5 c5]) wF) (hQ : Big s1 (.agg #[.bool b4, .slice a4 n4 c4]) (s.tdiv d)) (hR : Big s1 (.agg #[.bool b5, .slice a5 n5 c5]) (s.tmod d))
   (hp : wS.heap.size <= p) (hq : wS.heap.size <= q) (hne : q ≠ p) : RCut w s d (.pointer (some ⟨p, 0, none⟩)) (.pointer (some ⟨q, 0, none⟩)) wF := by
 have h1 := hS1.lt
 refine ⟨p, q, b4, a4, n4, c4, b5, a5, n5, c5, rfl, rfl, ?_, (k2.setRow _).up huE, (((hQ.setRow k1).up hs2).setRow k2).up huE, (((hR.setRow k1).up hs2).setRow k2).up huE, ?_, by omega, by omega, ?_⟩
 ·exact (((k1.setRow _).up hs2).row_other _ (Ne.symm hne)).up huE
 ·exact ((((hS1.up hU).row_other _ (show w.heap.size + 1 + 1 ≠ p by omega)).up hs2).row_other _ (show w.heap.size + 1 + 1 ≠ q by omega)).up huE
 ·exact below_up (below_setRow (below_up (below_setRow (below_up hSB hU) (show w.heap.size <= p by omega) _) hs2) (show w.heap.size <= q by omega) _) huE
theorem div_big {x y : Int} {va vb : Value} {w : World} (ha : Big w va x) (hb : Big w vb y) (hx : nl x.natAbs < 50000) (hy : nl y.natAbs = 1) :
   Calls Tryz.prog 61 #[va, vb] w fun e w' => Up w w' /\ ∃ v, e = .returned v /\ ∃ b1 a1 n1 c1 b2 a2 n2 c2, v = .tuple #[.agg #[.bool b1, .slice a1 n1 c1], .agg #[.bool b2, .slice a2 n2 c2]] /\ Big w' (.agg #[.bool b1, .slice a1 n1 c1]) (x.tdiv y) /\ Big w' (.agg #[.bool b2, .slice a2 n2 c2]) (x.tmod y) := by
 obtain ⟨a, ca, rfl, hA⟩ := ha
 obtain ⟨b, cb, rfl, hB⟩ := hb
 have h := div_pm (decide (x < 0)) (decide (y < 0)) x.natAbs y.natAbs a b ca cb w hA hB hx hy
 rw [<- pm_int, <- pm_int] at h
 refine h.mono ?_
 rintro e w' ⟨hu, b1, a1, n1, c1, b2, a2, n2, c2, rfl, h1, h2⟩
 exact ⟨hu, _, rfl, _, _, _, _, _, _, _, _, rfl, h1, h2⟩
set_option maxHeartbeats 20000000 in
theorem round_big {x y : Int} {va vb : Value} {w : World} (ha : Big w va x) (hb : Big w vb y) (hy : 0 < y) (hx1 : nl x.natAbs < 50000) (hy1 : nl y.natAbs < 50000) (h2x : nl (2 * x).natAbs < 50000) (hs : nl (2 * x + y).natAbs < 50000) (h2y : nl (2 * y).natAbs = 1) :
   Calls Tryz.prog 40 #[va, vb] w fun e w' => Up w w' /\ ∃ v, e = .returned v /\ Big w' v ((2 * x + y) / (2 * y)) := by
 obtain ⟨p, a, n, ca, rfl⟩ := ha.shape
 obtain ⟨q, b, m, cb, rfl⟩ := hb.shape
 have hA := hid ha
 have hB := hid hb
 have nTwo : nl (2 : Int).natAbs < 50000 := by
  exact small_nl (by omega) (by omega)
 have nOne : nl (1 : Int).natAbs < 50000 := by
  exact small_nl (by omega) (by omega)
 have HO2 := hid (fun w => of_big 2 (by decide) (by decide) w)
 have HFl := hid (round_floor (s := 2 * x + y) (d := 2 * y) (by omega))
 clear ha hb
 go_enter Tryz.func40, Tryz.ntmps40
 go_wp2_with (first | ((with_reducible apply stB_P); exact rfl; exact rfl; exact gBlk; exact rfl; exact rfl; exact one2 _ _ _ _) | (go_at_call 19; (with_reducible refine (HO2.out _).mono ?_); rintro e wO ⟨huO, u, rfl, hBO⟩; obtain ⟨qo, ao, no, co, rfl⟩ := hBO.shape))
 have hsO := huO.size
 simp at hsO
 try simp only [Act.put]
 go_cut [6, 7] (fun t6 t7 wc => RCut w (2 * x + y) (2 * y) t6 t7 wc)
 case first =>
  refine opU (S := (fun wq => Blk wq (w.heap.size + 1 + 1) 44 #[.bool false, .slice none 0 0] /\ Blk wq w.heap.size 44 #[.bool p, .slice a n ca] /\ Blk wq (w.heap.size + 1) 44 #[.bool q, .slice b m cb] /\ Blk wq wO.heap.size 44 #[.bool qo, .slice ao no co] /\ Big wq (.agg #[.bool qo, .slice ao no co]) 2 /\ Below w.heap.size w wq)) (req := (fun j => j != 14 && j != 15)) (fun _ _ h hu => ⟨(h.1).up hu, (h.2.1).up hu, (h.2.2.1).up hu, (h.2.2.2.1).up hu, (h.2.2.2.2.1).up hu, below_up (h.2.2.2.2.2) hu⟩) ⟨gBlk, gBlk, gBlk, gBlk, (by (repeat (first | assumption | ((with_reducible apply big_set); exact gBlk) | (with_reducible apply big_alloc) | ((with_reducible apply big_up); assumption))); done), gUp⟩ (fun wS hSS hSu => ?_)
  have ⟨hS1, hS2, hS3, hS4, hS5, hSB⟩ := hSS
  refine tkT 0 (some 10) rfl hSu hSS ?_ (hy := fun w' hSw => run_ldB rfl rfl hSw.2.2.2.1 rfl)
  refine tkT 1 (some 11) rfl hSu hSS ?_ (hy := fun w' hSw => run_ldB rfl rfl hSw.2.1 rfl)
  refine tkT 3 (some 13) rfl hSu hSS ?_ (hy := fun w' hSw => run_ldB rfl rfl hSw.2.2.1 rfl)
  refine tkT 5 (some 15) rfl hSu hSS ?_ (hy := fun w' hSw => run_ldB rfl rfl hSw.2.2.2.1 rfl)
  refine tkT 6 (some 16) rfl hSu hSS ?_ (hy := fun w' hSw => run_ldB rfl rfl hSw.2.2.1 rfl)
  have hU := Up.refl wS
  refine wpAnyU_ca2 (i := 2) (j := 12) (k := 13) (d := some 12) (dj := some 6) (dk := some 7) (by kernel_rfl) rfl rfl (by rfl) rfl rfl (by rfl) rfl rfl rfl (by rfl) rfl hSu.out (fun w' => by go_simp) (fun w' hw' => mul_big (hS5.up (hU.trans hw')) (hA.out.up (below_up hSB (hU.trans hw'))) nTwo hx1) (fun v1 w1 hw1 hr1 => ?_) (fun w1 hw1 => ?_) (fun w1 hw1 => ?_)
  ·try simp only [Act.put, pu1, pu2, pu3]
   replace hU := hU.trans hw1
   obtain ⟨b1, a1, n1, c1, rfl⟩ := hr1.shape
   have hP := hr1
   refine wpAnyU_ca2 (i := 4) (j := 12) (k := 13) (d := some 14) (dj := some 6) (dk := some 7) (by kernel_rfl) rfl rfl (by rfl) rfl rfl (by rfl) rfl rfl rfl (by rfl) rfl hSu.out (fun w' => by go_simp) (fun w' hw' => add_big (hP.up hw') (hB.out.up (below_up hSB (hU.trans hw'))) h2x hy1) (fun v2 w2 hw2 hr2 => ?_) (fun w2 hw2 => ?_) (fun w2 hw2 => ?_)
   ·try simp only [Act.put, pu1, pu2, pu3]
    replace hU := hU.trans hw2
    replace hP := hP.up hw2
    obtain ⟨b2, a2, n2, c2, rfl⟩ := hr2.shape
    have hT := hr2
    refine wpAnyU_ca2 (i := 7) (j := 12) (k := 13) (d := some 17) (dj := some 6) (dk := some 7) (by kernel_rfl) rfl rfl (by rfl) rfl rfl (by rfl) rfl rfl rfl (by rfl) rfl hSu.out (fun w' => by go_simp) (fun w' hw' => mul_big (hS5.up (hU.trans hw')) (hB.out.up (below_up hSB (hU.trans hw'))) nTwo hy1) (fun v3 w3 hw3 hr3 => ?_) (fun w3 hw3 => ?_) (fun w3 hw3 => ?_)
    ·try simp only [Act.put, pu1, pu2, pu3]
     replace hU := hU.trans hw3
     replace hP := hP.up hw3
     replace hT := hT.up hw3
     obtain ⟨b3, a3, n3, c3, rfl⟩ := hr3.shape
     have hV := hr3
     refine wpAnyU_ca2 (i := 8) (j := 12) (k := 13) (d := some 18) (dj := some 6) (dk := some 7) (by kernel_rfl) rfl rfl (by rfl) rfl rfl (by rfl) rfl rfl rfl (by rfl) rfl hSu.out (fun w' => by go_simp) (fun w' hw' => div_big (hT.up hw') (hV.up hw') hs h2y) (fun v4 w4 hw4 hr4 => ?_) (fun w4 hw4 => ?_) (fun w4 hw4 => ?_)
     ·try simp only [Act.put, pu1, pu2, pu3]
      replace hU := hU.trans hw4
      replace hP := hP.up hw4
      replace hT := hT.up hw4
      replace hV := hV.up hw4
      obtain ⟨b4, a4, n4, c4, d4, e4, f4, g4, rfl, hQ, hR⟩ := hr4
      refine tkP 9 (some 9) hSu ?_
      refine tkP 10 (some 19) hSu ?_
      refine tkP 11 (some 20) hSu ?_
      refine wpAnyU_a2 (j := 12) (k := 13) (dj := some 6) (dk := some 7) (by kernel_rfl) rfl rfl (by rfl) rfl rfl rfl (by rfl) rfl hSu.out (fun w5 hw5 => ?_) (fun w5 hw5 => ?_)
      ·try simp only [Act.put, pu1, pu2, pu3]
       replace hU := hU.trans hw5
       replace hP := hP.up hw5
       replace hT := hT.up hw5
       replace hV := hV.up hw5
       replace hQ := hQ.up hw5
       replace hR := hR.up hw5
       have ha5 := Up.alloc w5 (.cells #[.bool false, .slice none 0 0] 44)
       have hp_le : wS.heap.size <= w5.heap.size := hU.size
       replace hU := hU.trans ha5
       replace hP := hP.up ha5
       replace hT := hT.up ha5
       replace hV := hV.up ha5
       replace hQ := hQ.up ha5
       replace hR := hR.up ha5
       have hp : Blk _ w5.heap.size 44 #[.bool false, .slice none 0 0] := blk_new (w := w5) rfl
       generalize ep : w5.heap.size = p' at hp hp_le ⊢
       refine wpAnyU_allocB (i := 13) (d := some 7) rfl rfl (by kernel_rfl) (by rfl) rfl hSu.out (fun w6 hw6 => ?_)
       try simp only [Act.put, pu1, pu2, pu3]
       replace hU := hU.trans hw6
       replace hP := hP.up hw6
       replace hT := hT.up hw6
       replace hV := hV.up hw6
       replace hQ := hQ.up hw6
       replace hR := hR.up hw6
       replace hp := hp.up hw6
       have ha6 := Up.alloc w6 (.cells #[.bool false, .slice none 0 0] 44)
       have hq_le : wS.heap.size <= w6.heap.size := hU.size
       have hne := hp.lt
       replace hU := hU.trans ha6
       replace hP := hP.up ha6
       replace hT := hT.up ha6
       replace hV := hV.up ha6
       replace hQ := hQ.up ha6
       replace hR := hR.up ha6
       replace hp := hp.up ha6
       have hq : Blk _ w6.heap.size 44 #[.bool false, .slice none 0 0] := blk_new (w := w6) rfl
       generalize eq : w6.heap.size = q' at hq hq_le hne ⊢
       refine wpAnyU_one (i := 14) rfl (by kernel_rfl) (by rfl) fun s1 hs1 => ?_
       have k1 := hp.up hs1
       refine wp_stB rfl rfl rfl rfl k1 rfl rfl (one2 _ _ _ _) ?_
       refine ⟨fun h => by simp at h, ?_⟩
       try simp only [Act.put, pu1]
       refine wpAnyU_one (i := 15) rfl (by kernel_rfl) (by rfl) fun s2 hs2 => ?_
       have k2 := ((hq.up hs1).row_other _ (show q' ≠ p' by omega)).up hs2
       refine wp_stB rfl rfl rfl rfl k2 rfl rfl (one2 _ _ _ _) ?_
       refine ⟨fun h => by simp at h, ?_⟩
       try simp only [Act.put, pu1]
       refine wpAnyU_done (by kernel_rfl) (fun wF huE => ?_) _
       go_wp2
       go_meet
       case rel => exact leaf4 hSB hS1 (hU.trans hs1) k1 hs2 k2 huE (hQ.up hs1) (hR.up hs1) (by omega) (by omega) (by omega)
      ·try simp only [Act.put, pu1, pu2, pu3]
       replace hU := hU.trans hw5
       replace hP := hP.up hw5
       replace hT := hT.up hw5
       replace hV := hV.up hw5
       replace hQ := hQ.up hw5
       replace hR := hR.up hw5
       have ha5 := Up.alloc w5 (.cells #[.bool false, .slice none 0 0] 44)
       have hq_le : wS.heap.size <= w5.heap.size := hU.size
       replace hU := hU.trans ha5
       replace hP := hP.up ha5
       replace hT := hT.up ha5
       replace hV := hV.up ha5
       replace hQ := hQ.up ha5
       replace hR := hR.up ha5
       have hq : Blk _ w5.heap.size 44 #[.bool false, .slice none 0 0] := blk_new (w := w5) rfl
       generalize eq : w5.heap.size = q' at hq hq_le ⊢
       refine wpAnyU_allocB (i := 12) (d := some 6) rfl rfl (by kernel_rfl) (by rfl) rfl hSu.out (fun w8 hw8 => ?_)
       try simp only [Act.put, pu1, pu2, pu3]
       replace hU := hU.trans hw8
       replace hP := hP.up hw8
       replace hT := hT.up hw8
       replace hV := hV.up hw8
       replace hQ := hQ.up hw8
       replace hR := hR.up hw8
       replace hq := hq.up hw8
       have ha8 := Up.alloc w8 (.cells #[.bool false, .slice none 0 0] 44)
       have hp_le : wS.heap.size <= w8.heap.size := hU.size
       have hne := hq.lt
       replace hU := hU.trans ha8
       replace hP := hP.up ha8
       replace hT := hT.up ha8
       replace hV := hV.up ha8
       replace hQ := hQ.up ha8
       replace hR := hR.up ha8
       replace hq := hq.up ha8
       have hp : Blk _ w8.heap.size 44 #[.bool false, .slice none 0 0] := blk_new (w := w8) rfl
       generalize ep : w8.heap.size = p' at hp hp_le hne ⊢
       refine wpAnyU_one (i := 14) rfl (by kernel_rfl) (by rfl) fun s1 hs1 => ?_
       have k1 := hp.up hs1
       refine wp_stB rfl rfl rfl rfl k1 rfl rfl (one2 _ _ _ _) ?_
       refine ⟨fun h => by simp at h, ?_⟩
       try simp only [Act.put, pu1]
       refine wpAnyU_one (i := 15) rfl (by kernel_rfl) (by rfl) fun s2 hs2 => ?_
       have k2 := ((hq.up hs1).row_other _ (show q' ≠ p' by omega)).up hs2
       refine wp_stB rfl rfl rfl rfl k2 rfl rfl (one2 _ _ _ _) ?_
       refine ⟨fun h => by simp at h, ?_⟩
       try simp only [Act.put, pu1]
       refine wpAnyU_done (by kernel_rfl) (fun wF huE => ?_) _
       go_wp2
       go_meet
       case rel => exact leaf4 hSB hS1 (hU.trans hs1) k1 hs2 k2 huE (hQ.up hs1) (hR.up hs1) (by omega) (by omega) (by omega)
     ·try simp only [Act.put, pu1, pu2, pu3]
      replace hU := hU.trans hw4
      replace hP := hP.up hw4
      replace hT := hT.up hw4
      replace hV := hV.up hw4
      have ha4 := Up.alloc w4 (.cells #[.bool false, .slice none 0 0] 44)
      have hp_le : wS.heap.size <= w4.heap.size := hU.size
      replace hU := hU.trans ha4
      replace hP := hP.up ha4
      replace hT := hT.up ha4
      replace hV := hV.up ha4
      have hp : Blk _ w4.heap.size 44 #[.bool false, .slice none 0 0] := blk_new (w := w4) rfl
      generalize ep : w4.heap.size = p' at hp hp_le ⊢
      refine wpAnyU_ca1 (i := 8) (j := 13) (d := some 18) (dj := some 7) (by kernel_rfl) rfl rfl (by rfl) rfl rfl (by rfl) rfl hSu.out (fun w' => by go_simp) (fun w' hw' => div_big (hT.up hw') (hV.up hw') hs h2y) (fun v10 w10 hw10 hr10 => ?_) (fun w10 hw10 => ?_)
      ·try simp only [Act.put, pu1, pu2, pu3]
       replace hU := hU.trans hw10
       replace hP := hP.up hw10
       replace hT := hT.up hw10
       replace hV := hV.up hw10
       replace hp := hp.up hw10
       obtain ⟨b10, a10, n10, c10, d10, e10, f10, g10, rfl, hQ, hR⟩ := hr10
       refine tkP 9 (some 9) hSu ?_
       refine tkP 10 (some 19) hSu ?_
       refine tkP 11 (some 20) hSu ?_
       refine wpAnyU_allocB (i := 13) (d := some 7) rfl rfl (by kernel_rfl) (by rfl) rfl hSu.out (fun w11 hw11 => ?_)
       try simp only [Act.put, pu1, pu2, pu3]
       replace hU := hU.trans hw11
       replace hP := hP.up hw11
       replace hT := hT.up hw11
       replace hV := hV.up hw11
       replace hQ := hQ.up hw11
       replace hR := hR.up hw11
       replace hp := hp.up hw11
       have ha11 := Up.alloc w11 (.cells #[.bool false, .slice none 0 0] 44)
       have hq_le : wS.heap.size <= w11.heap.size := hU.size
       have hne := hp.lt
       replace hU := hU.trans ha11
       replace hP := hP.up ha11
       replace hT := hT.up ha11
       replace hV := hV.up ha11
       replace hQ := hQ.up ha11
       replace hR := hR.up ha11
       replace hp := hp.up ha11
       have hq : Blk _ w11.heap.size 44 #[.bool false, .slice none 0 0] := blk_new (w := w11) rfl
       generalize eq : w11.heap.size = q' at hq hq_le hne ⊢
       refine wpAnyU_one (i := 14) rfl (by kernel_rfl) (by rfl) fun s1 hs1 => ?_
       have k1 := hp.up hs1
       refine wp_stB rfl rfl rfl rfl k1 rfl rfl (one2 _ _ _ _) ?_
       refine ⟨fun h => by simp at h, ?_⟩
       try simp only [Act.put, pu1]
       refine wpAnyU_one (i := 15) rfl (by kernel_rfl) (by rfl) fun s2 hs2 => ?_
       have k2 := ((hq.up hs1).row_other _ (show q' ≠ p' by omega)).up hs2
       refine wp_stB rfl rfl rfl rfl k2 rfl rfl (one2 _ _ _ _) ?_
       refine ⟨fun h => by simp at h, ?_⟩
       try simp only [Act.put, pu1]
       refine wpAnyU_done (by kernel_rfl) (fun wF huE => ?_) _
       go_wp2
       go_meet
       case rel => exact leaf4 hSB hS1 (hU.trans hs1) k1 hs2 k2 huE (hQ.up hs1) (hR.up hs1) (by omega) (by omega) (by omega)
      ·try simp only [Act.put, pu1, pu2, pu3]
       replace hU := hU.trans hw10
       replace hP := hP.up hw10
       replace hT := hT.up hw10
       replace hV := hV.up hw10
       replace hp := hp.up hw10
       have ha10 := Up.alloc w10 (.cells #[.bool false, .slice none 0 0] 44)
       have hq_le : wS.heap.size <= w10.heap.size := hU.size
       have hne := hp.lt
       replace hU := hU.trans ha10
       replace hP := hP.up ha10
       replace hT := hT.up ha10
       replace hV := hV.up ha10
       replace hp := hp.up ha10
       have hq : Blk _ w10.heap.size 44 #[.bool false, .slice none 0 0] := blk_new (w := w10) rfl
       generalize eq : w10.heap.size = q' at hq hq_le hne ⊢
       refine wpAnyU_callE (i := 8) (d := some 18) rfl rfl (by kernel_rfl) (by rfl) hSu.out (fun w' => by go_simp) (fun w' hw' => div_big (hT.up hw') (hV.up hw') hs h2y) (fun v13 w13 hw13 hr13 => ?_)
       try simp only [Act.put, pu1, pu2, pu3]
       replace hU := hU.trans hw13
       replace hP := hP.up hw13
       replace hT := hT.up hw13
       replace hV := hV.up hw13
       replace hp := hp.up hw13
       replace hq := hq.up hw13
       obtain ⟨b13, a13, n13, c13, d13, e13, f13, g13, rfl, hQ, hR⟩ := hr13
       refine tkP 9 (some 9) hSu ?_
       refine tkP 10 (some 19) hSu ?_
       refine tkP 11 (some 20) hSu ?_
       refine wpAnyU_one (i := 14) rfl (by kernel_rfl) (by rfl) fun s1 hs1 => ?_
       have k1 := hp.up hs1
       refine wp_stB rfl rfl rfl rfl k1 rfl rfl (one2 _ _ _ _) ?_
       refine ⟨fun h => by simp at h, ?_⟩
       try simp only [Act.put, pu1]
       refine wpAnyU_one (i := 15) rfl (by kernel_rfl) (by rfl) fun s2 hs2 => ?_
       have k2 := ((hq.up hs1).row_other _ (show q' ≠ p' by omega)).up hs2
       refine wp_stB rfl rfl rfl rfl k2 rfl rfl (one2 _ _ _ _) ?_
       refine ⟨fun h => by simp at h, ?_⟩
       try simp only [Act.put, pu1]
       refine wpAnyU_done (by kernel_rfl) (fun wF huE => ?_) _
       go_wp2
       go_meet
       case rel => exact leaf4 hSB hS1 (hU.trans hs1) k1 hs2 k2 huE (hQ.up hs1) (hR.up hs1) (by omega) (by omega) (by omega)
     ·try simp only [Act.put, pu1, pu2, pu3]
      replace hU := hU.trans hw4
      replace hP := hP.up hw4
      replace hT := hT.up hw4
      replace hV := hV.up hw4
      have ha4 := Up.alloc w4 (.cells #[.bool false, .slice none 0 0] 44)
      have hq_le : wS.heap.size <= w4.heap.size := hU.size
      replace hU := hU.trans ha4
      replace hP := hP.up ha4
      replace hT := hT.up ha4
      replace hV := hV.up ha4
      have hq : Blk _ w4.heap.size 44 #[.bool false, .slice none 0 0] := blk_new (w := w4) rfl
      generalize eq : w4.heap.size = q' at hq hq_le ⊢
      refine wpAnyU_ca1 (i := 8) (j := 12) (d := some 18) (dj := some 6) (by kernel_rfl) rfl rfl (by rfl) rfl rfl (by rfl) rfl hSu.out (fun w' => by go_simp) (fun w' hw' => div_big (hT.up hw') (hV.up hw') hs h2y) (fun v15 w15 hw15 hr15 => ?_) (fun w15 hw15 => ?_)
      ·try simp only [Act.put, pu1, pu2, pu3]
       replace hU := hU.trans hw15
       replace hP := hP.up hw15
       replace hT := hT.up hw15
       replace hV := hV.up hw15
       replace hq := hq.up hw15
       obtain ⟨b15, a15, n15, c15, d15, e15, f15, g15, rfl, hQ, hR⟩ := hr15
       refine tkP 9 (some 9) hSu ?_
       refine tkP 10 (some 19) hSu ?_
       refine tkP 11 (some 20) hSu ?_
       refine wpAnyU_allocB (i := 12) (d := some 6) rfl rfl (by kernel_rfl) (by rfl) rfl hSu.out (fun w16 hw16 => ?_)
       try simp only [Act.put, pu1, pu2, pu3]
       replace hU := hU.trans hw16
       replace hP := hP.up hw16
       replace hT := hT.up hw16
       replace hV := hV.up hw16
       replace hQ := hQ.up hw16
       replace hR := hR.up hw16
       replace hq := hq.up hw16
       have ha16 := Up.alloc w16 (.cells #[.bool false, .slice none 0 0] 44)
       have hp_le : wS.heap.size <= w16.heap.size := hU.size
       have hne := hq.lt
       replace hU := hU.trans ha16
       replace hP := hP.up ha16
       replace hT := hT.up ha16
       replace hV := hV.up ha16
       replace hQ := hQ.up ha16
       replace hR := hR.up ha16
       replace hq := hq.up ha16
       have hp : Blk _ w16.heap.size 44 #[.bool false, .slice none 0 0] := blk_new (w := w16) rfl
       generalize ep : w16.heap.size = p' at hp hp_le hne ⊢
       refine wpAnyU_one (i := 14) rfl (by kernel_rfl) (by rfl) fun s1 hs1 => ?_
       have k1 := hp.up hs1
       refine wp_stB rfl rfl rfl rfl k1 rfl rfl (one2 _ _ _ _) ?_
       refine ⟨fun h => by simp at h, ?_⟩
       try simp only [Act.put, pu1]
       refine wpAnyU_one (i := 15) rfl (by kernel_rfl) (by rfl) fun s2 hs2 => ?_
       have k2 := ((hq.up hs1).row_other _ (show q' ≠ p' by omega)).up hs2
       refine wp_stB rfl rfl rfl rfl k2 rfl rfl (one2 _ _ _ _) ?_
       refine ⟨fun h => by simp at h, ?_⟩
       try simp only [Act.put, pu1]
       refine wpAnyU_done (by kernel_rfl) (fun wF huE => ?_) _
       go_wp2
       go_meet
       case rel => exact leaf4 hSB hS1 (hU.trans hs1) k1 hs2 k2 huE (hQ.up hs1) (hR.up hs1) (by omega) (by omega) (by omega)
      ·try simp only [Act.put, pu1, pu2, pu3]
       replace hU := hU.trans hw15
       replace hP := hP.up hw15
       replace hT := hT.up hw15
       replace hV := hV.up hw15
       replace hq := hq.up hw15
       have ha15 := Up.alloc w15 (.cells #[.bool false, .slice none 0 0] 44)
       have hp_le : wS.heap.size <= w15.heap.size := hU.size
       have hne := hq.lt
       replace hU := hU.trans ha15
       replace hP := hP.up ha15
       replace hT := hT.up ha15
       replace hV := hV.up ha15
       replace hq := hq.up ha15
       have hp : Blk _ w15.heap.size 44 #[.bool false, .slice none 0 0] := blk_new (w := w15) rfl
       generalize ep : w15.heap.size = p' at hp hp_le hne ⊢
       refine wpAnyU_callE (i := 8) (d := some 18) rfl rfl (by kernel_rfl) (by rfl) hSu.out (fun w' => by go_simp) (fun w' hw' => div_big (hT.up hw') (hV.up hw') hs h2y) (fun v18 w18 hw18 hr18 => ?_)
       try simp only [Act.put, pu1, pu2, pu3]
       replace hU := hU.trans hw18
       replace hP := hP.up hw18
       replace hT := hT.up hw18
       replace hV := hV.up hw18
       replace hp := hp.up hw18
       replace hq := hq.up hw18
       obtain ⟨b18, a18, n18, c18, d18, e18, f18, g18, rfl, hQ, hR⟩ := hr18
       refine tkP 9 (some 9) hSu ?_
       refine tkP 10 (some 19) hSu ?_
       refine tkP 11 (some 20) hSu ?_
       refine wpAnyU_one (i := 14) rfl (by kernel_rfl) (by rfl) fun s1 hs1 => ?_
       have k1 := hp.up hs1
       refine wp_stB rfl rfl rfl rfl k1 rfl rfl (one2 _ _ _ _) ?_
       refine ⟨fun h => by simp at h, ?_⟩
       try simp only [Act.put, pu1]
       refine wpAnyU_one (i := 15) rfl (by kernel_rfl) (by rfl) fun s2 hs2 => ?_
       have k2 := ((hq.up hs1).row_other _ (show q' ≠ p' by omega)).up hs2
       refine wp_stB rfl rfl rfl rfl k2 rfl rfl (one2 _ _ _ _) ?_
       refine ⟨fun h => by simp at h, ?_⟩
       try simp only [Act.put, pu1]
       refine wpAnyU_done (by kernel_rfl) (fun wF huE => ?_) _
       go_wp2
       go_meet
       case rel => exact leaf4 hSB hS1 (hU.trans hs1) k1 hs2 k2 huE (hQ.up hs1) (hR.up hs1) (by omega) (by omega) (by omega)
    ·try simp only [Act.put, pu1, pu2, pu3]
     replace hU := hU.trans hw3
     replace hP := hP.up hw3
     replace hT := hT.up hw3
     have ha3 := Up.alloc w3 (.cells #[.bool false, .slice none 0 0] 44)
     have hp_le : wS.heap.size <= w3.heap.size := hU.size
     replace hU := hU.trans ha3
     replace hP := hP.up ha3
     replace hT := hT.up ha3
     have hp : Blk _ w3.heap.size 44 #[.bool false, .slice none 0 0] := blk_new (w := w3) rfl
     generalize ep : w3.heap.size = p' at hp hp_le ⊢
     refine wpAnyU_ca1 (i := 7) (j := 13) (d := some 17) (dj := some 7) (by kernel_rfl) rfl rfl (by rfl) rfl rfl (by rfl) rfl hSu.out (fun w' => by go_simp) (fun w' hw' => mul_big (hS5.up (hU.trans hw')) (hB.out.up (below_up hSB (hU.trans hw'))) nTwo hy1) (fun v20 w20 hw20 hr20 => ?_) (fun w20 hw20 => ?_)
     ·try simp only [Act.put, pu1, pu2, pu3]
      replace hU := hU.trans hw20
      replace hP := hP.up hw20
      replace hT := hT.up hw20
      replace hp := hp.up hw20
      obtain ⟨b20, a20, n20, c20, rfl⟩ := hr20.shape
      have hV := hr20
      refine wpAnyU_ca1 (i := 8) (j := 13) (d := some 18) (dj := some 7) (by kernel_rfl) rfl rfl (by rfl) rfl rfl (by rfl) rfl hSu.out (fun w' => by go_simp) (fun w' hw' => div_big (hT.up hw') (hV.up hw') hs h2y) (fun v21 w21 hw21 hr21 => ?_) (fun w21 hw21 => ?_)
      ·try simp only [Act.put, pu1, pu2, pu3]
       replace hU := hU.trans hw21
       replace hP := hP.up hw21
       replace hT := hT.up hw21
       replace hV := hV.up hw21
       replace hp := hp.up hw21
       obtain ⟨b21, a21, n21, c21, d21, e21, f21, g21, rfl, hQ, hR⟩ := hr21
       refine tkP 9 (some 9) hSu ?_
       refine tkP 10 (some 19) hSu ?_
       refine tkP 11 (some 20) hSu ?_
       refine wpAnyU_allocB (i := 13) (d := some 7) rfl rfl (by kernel_rfl) (by rfl) rfl hSu.out (fun w22 hw22 => ?_)
       try simp only [Act.put, pu1, pu2, pu3]
       replace hU := hU.trans hw22
       replace hP := hP.up hw22
       replace hT := hT.up hw22
       replace hV := hV.up hw22
       replace hQ := hQ.up hw22
       replace hR := hR.up hw22
       replace hp := hp.up hw22
       have ha22 := Up.alloc w22 (.cells #[.bool false, .slice none 0 0] 44)
       have hq_le : wS.heap.size <= w22.heap.size := hU.size
       have hne := hp.lt
       replace hU := hU.trans ha22
       replace hP := hP.up ha22
       replace hT := hT.up ha22
       replace hV := hV.up ha22
       replace hQ := hQ.up ha22
       replace hR := hR.up ha22
       replace hp := hp.up ha22
       have hq : Blk _ w22.heap.size 44 #[.bool false, .slice none 0 0] := blk_new (w := w22) rfl
       generalize eq : w22.heap.size = q' at hq hq_le hne ⊢
       refine wpAnyU_one (i := 14) rfl (by kernel_rfl) (by rfl) fun s1 hs1 => ?_
       have k1 := hp.up hs1
       refine wp_stB rfl rfl rfl rfl k1 rfl rfl (one2 _ _ _ _) ?_
       refine ⟨fun h => by simp at h, ?_⟩
       try simp only [Act.put, pu1]
       refine wpAnyU_one (i := 15) rfl (by kernel_rfl) (by rfl) fun s2 hs2 => ?_
       have k2 := ((hq.up hs1).row_other _ (show q' ≠ p' by omega)).up hs2
       refine wp_stB rfl rfl rfl rfl k2 rfl rfl (one2 _ _ _ _) ?_
       refine ⟨fun h => by simp at h, ?_⟩
       try simp only [Act.put, pu1]
       refine wpAnyU_done (by kernel_rfl) (fun wF huE => ?_) _
       go_wp2
       go_meet
       case rel => exact leaf4 hSB hS1 (hU.trans hs1) k1 hs2 k2 huE (hQ.up hs1) (hR.up hs1) (by omega) (by omega) (by omega)
      ·try simp only [Act.put, pu1, pu2, pu3]
       replace hU := hU.trans hw21
       replace hP := hP.up hw21
       replace hT := hT.up hw21
       replace hV := hV.up hw21
       replace hp := hp.up hw21
       have ha21 := Up.alloc w21 (.cells #[.bool false, .slice none 0 0] 44)
       have hq_le : wS.heap.size <= w21.heap.size := hU.size
       have hne := hp.lt
       replace hU := hU.trans ha21
       replace hP := hP.up ha21
       replace hT := hT.up ha21
       replace hV := hV.up ha21
       replace hp := hp.up ha21
       have hq : Blk _ w21.heap.size 44 #[.bool false, .slice none 0 0] := blk_new (w := w21) rfl
       generalize eq : w21.heap.size = q' at hq hq_le hne ⊢
       refine wpAnyU_callE (i := 8) (d := some 18) rfl rfl (by kernel_rfl) (by rfl) hSu.out (fun w' => by go_simp) (fun w' hw' => div_big (hT.up hw') (hV.up hw') hs h2y) (fun v24 w24 hw24 hr24 => ?_)
       try simp only [Act.put, pu1, pu2, pu3]
       replace hU := hU.trans hw24
       replace hP := hP.up hw24
       replace hT := hT.up hw24
       replace hV := hV.up hw24
       replace hp := hp.up hw24
       replace hq := hq.up hw24
       obtain ⟨b24, a24, n24, c24, d24, e24, f24, g24, rfl, hQ, hR⟩ := hr24
       refine tkP 9 (some 9) hSu ?_
       refine tkP 10 (some 19) hSu ?_
       refine tkP 11 (some 20) hSu ?_
       refine wpAnyU_one (i := 14) rfl (by kernel_rfl) (by rfl) fun s1 hs1 => ?_
       have k1 := hp.up hs1
       refine wp_stB rfl rfl rfl rfl k1 rfl rfl (one2 _ _ _ _) ?_
       refine ⟨fun h => by simp at h, ?_⟩
       try simp only [Act.put, pu1]
       refine wpAnyU_one (i := 15) rfl (by kernel_rfl) (by rfl) fun s2 hs2 => ?_
       have k2 := ((hq.up hs1).row_other _ (show q' ≠ p' by omega)).up hs2
       refine wp_stB rfl rfl rfl rfl k2 rfl rfl (one2 _ _ _ _) ?_
       refine ⟨fun h => by simp at h, ?_⟩
       try simp only [Act.put, pu1]
       refine wpAnyU_done (by kernel_rfl) (fun wF huE => ?_) _
       go_wp2
       go_meet
       case rel => exact leaf4 hSB hS1 (hU.trans hs1) k1 hs2 k2 huE (hQ.up hs1) (hR.up hs1) (by omega) (by omega) (by omega)
     ·try simp only [Act.put, pu1, pu2, pu3]
      replace hU := hU.trans hw20
      replace hP := hP.up hw20
      replace hT := hT.up hw20
      replace hp := hp.up hw20
      have ha20 := Up.alloc w20 (.cells #[.bool false, .slice none 0 0] 44)
      have hq_le : wS.heap.size <= w20.heap.size := hU.size
      have hne := hp.lt
      replace hU := hU.trans ha20
      replace hP := hP.up ha20
      replace hT := hT.up ha20
      replace hp := hp.up ha20
      have hq : Blk _ w20.heap.size 44 #[.bool false, .slice none 0 0] := blk_new (w := w20) rfl
      generalize eq : w20.heap.size = q' at hq hq_le hne ⊢
      refine wpAnyU_callE (i := 7) (d := some 17) rfl rfl (by kernel_rfl) (by rfl) hSu.out (fun w' => by go_simp) (fun w' hw' => mul_big (hS5.up (hU.trans hw')) (hB.out.up (below_up hSB (hU.trans hw'))) nTwo hy1) (fun v26 w26 hw26 hr26 => ?_)
      try simp only [Act.put, pu1, pu2, pu3]
      replace hU := hU.trans hw26
      replace hP := hP.up hw26
      replace hT := hT.up hw26
      replace hp := hp.up hw26
      replace hq := hq.up hw26
      obtain ⟨b26, a26, n26, c26, rfl⟩ := hr26.shape
      have hV := hr26
      refine wpAnyU_callE (i := 8) (d := some 18) rfl rfl (by kernel_rfl) (by rfl) hSu.out (fun w' => by go_simp) (fun w' hw' => div_big (hT.up hw') (hV.up hw') hs h2y) (fun v27 w27 hw27 hr27 => ?_)
      try simp only [Act.put, pu1, pu2, pu3]
      replace hU := hU.trans hw27
      replace hP := hP.up hw27
      replace hT := hT.up hw27
      replace hV := hV.up hw27
      replace hp := hp.up hw27
      replace hq := hq.up hw27
      obtain ⟨b27, a27, n27, c27, d27, e27, f27, g27, rfl, hQ, hR⟩ := hr27
      refine tkP 9 (some 9) hSu ?_
      refine tkP 10 (some 19) hSu ?_
      refine tkP 11 (some 20) hSu ?_
      refine wpAnyU_one (i := 14) rfl (by kernel_rfl) (by rfl) fun s1 hs1 => ?_
      have k1 := hp.up hs1
      refine wp_stB rfl rfl rfl rfl k1 rfl rfl (one2 _ _ _ _) ?_
      refine ⟨fun h => by simp at h, ?_⟩
      try simp only [Act.put, pu1]
      refine wpAnyU_one (i := 15) rfl (by kernel_rfl) (by rfl) fun s2 hs2 => ?_
      have k2 := ((hq.up hs1).row_other _ (show q' ≠ p' by omega)).up hs2
      refine wp_stB rfl rfl rfl rfl k2 rfl rfl (one2 _ _ _ _) ?_
      refine ⟨fun h => by simp at h, ?_⟩
      try simp only [Act.put, pu1]
      refine wpAnyU_done (by kernel_rfl) (fun wF huE => ?_) _
      go_wp2
      go_meet
      case rel => exact leaf4 hSB hS1 (hU.trans hs1) k1 hs2 k2 huE (hQ.up hs1) (hR.up hs1) (by omega) (by omega) (by omega)
    ·try simp only [Act.put, pu1, pu2, pu3]
     replace hU := hU.trans hw3
     replace hP := hP.up hw3
     replace hT := hT.up hw3
     have ha3 := Up.alloc w3 (.cells #[.bool false, .slice none 0 0] 44)
     have hq_le : wS.heap.size <= w3.heap.size := hU.size
     replace hU := hU.trans ha3
     replace hP := hP.up ha3
     replace hT := hT.up ha3
     have hq : Blk _ w3.heap.size 44 #[.bool false, .slice none 0 0] := blk_new (w := w3) rfl
     generalize eq : w3.heap.size = q' at hq hq_le ⊢
     refine wpAnyU_ca1 (i := 7) (j := 12) (d := some 17) (dj := some 6) (by kernel_rfl) rfl rfl (by rfl) rfl rfl (by rfl) rfl hSu.out (fun w' => by go_simp) (fun w' hw' => mul_big (hS5.up (hU.trans hw')) (hB.out.up (below_up hSB (hU.trans hw'))) nTwo hy1) (fun v29 w29 hw29 hr29 => ?_) (fun w29 hw29 => ?_)
     ·try simp only [Act.put, pu1, pu2, pu3]
      replace hU := hU.trans hw29
      replace hP := hP.up hw29
      replace hT := hT.up hw29
      replace hq := hq.up hw29
      obtain ⟨b29, a29, n29, c29, rfl⟩ := hr29.shape
      have hV := hr29
      refine wpAnyU_ca1 (i := 8) (j := 12) (d := some 18) (dj := some 6) (by kernel_rfl) rfl rfl (by rfl) rfl rfl (by rfl) rfl hSu.out (fun w' => by go_simp) (fun w' hw' => div_big (hT.up hw') (hV.up hw') hs h2y) (fun v30 w30 hw30 hr30 => ?_) (fun w30 hw30 => ?_)
      ·try simp only [Act.put, pu1, pu2, pu3]
       replace hU := hU.trans hw30
       replace hP := hP.up hw30
       replace hT := hT.up hw30
       replace hV := hV.up hw30
       replace hq := hq.up hw30
       obtain ⟨b30, a30, n30, c30, d30, e30, f30, g30, rfl, hQ, hR⟩ := hr30
       refine tkP 9 (some 9) hSu ?_
       refine tkP 10 (some 19) hSu ?_
       refine tkP 11 (some 20) hSu ?_
       refine wpAnyU_allocB (i := 12) (d := some 6) rfl rfl (by kernel_rfl) (by rfl) rfl hSu.out (fun w31 hw31 => ?_)
       try simp only [Act.put, pu1, pu2, pu3]
       replace hU := hU.trans hw31
       replace hP := hP.up hw31
       replace hT := hT.up hw31
       replace hV := hV.up hw31
       replace hQ := hQ.up hw31
       replace hR := hR.up hw31
       replace hq := hq.up hw31
       have ha31 := Up.alloc w31 (.cells #[.bool false, .slice none 0 0] 44)
       have hp_le : wS.heap.size <= w31.heap.size := hU.size
       have hne := hq.lt
       replace hU := hU.trans ha31
       replace hP := hP.up ha31
       replace hT := hT.up ha31
       replace hV := hV.up ha31
       replace hQ := hQ.up ha31
       replace hR := hR.up ha31
       replace hq := hq.up ha31
       have hp : Blk _ w31.heap.size 44 #[.bool false, .slice none 0 0] := blk_new (w := w31) rfl
       generalize ep : w31.heap.size = p' at hp hp_le hne ⊢
       refine wpAnyU_one (i := 14) rfl (by kernel_rfl) (by rfl) fun s1 hs1 => ?_
       have k1 := hp.up hs1
       refine wp_stB rfl rfl rfl rfl k1 rfl rfl (one2 _ _ _ _) ?_
       refine ⟨fun h => by simp at h, ?_⟩
       try simp only [Act.put, pu1]
       refine wpAnyU_one (i := 15) rfl (by kernel_rfl) (by rfl) fun s2 hs2 => ?_
       have k2 := ((hq.up hs1).row_other _ (show q' ≠ p' by omega)).up hs2
       refine wp_stB rfl rfl rfl rfl k2 rfl rfl (one2 _ _ _ _) ?_
       refine ⟨fun h => by simp at h, ?_⟩
       try simp only [Act.put, pu1]
       refine wpAnyU_done (by kernel_rfl) (fun wF huE => ?_) _
       go_wp2
       go_meet
       case rel => exact leaf4 hSB hS1 (hU.trans hs1) k1 hs2 k2 huE (hQ.up hs1) (hR.up hs1) (by omega) (by omega) (by omega)
      ·try simp only [Act.put, pu1, pu2, pu3]
       replace hU := hU.trans hw30
       replace hP := hP.up hw30
       replace hT := hT.up hw30
       replace hV := hV.up hw30
       replace hq := hq.up hw30
       have ha30 := Up.alloc w30 (.cells #[.bool false, .slice none 0 0] 44)
       have hp_le : wS.heap.size <= w30.heap.size := hU.size
       have hne := hq.lt
       replace hU := hU.trans ha30
       replace hP := hP.up ha30
       replace hT := hT.up ha30
       replace hV := hV.up ha30
       replace hq := hq.up ha30
       have hp : Blk _ w30.heap.size 44 #[.bool false, .slice none 0 0] := blk_new (w := w30) rfl
       generalize ep : w30.heap.size = p' at hp hp_le hne ⊢
       refine wpAnyU_callE (i := 8) (d := some 18) rfl rfl (by kernel_rfl) (by rfl) hSu.out (fun w' => by go_simp) (fun w' hw' => div_big (hT.up hw') (hV.up hw') hs h2y) (fun v33 w33 hw33 hr33 => ?_)
       try simp only [Act.put, pu1, pu2, pu3]
       replace hU := hU.trans hw33
       replace hP := hP.up hw33
       replace hT := hT.up hw33
       replace hV := hV.up hw33
       replace hp := hp.up hw33
       replace hq := hq.up hw33
       obtain ⟨b33, a33, n33, c33, d33, e33, f33, g33, rfl, hQ, hR⟩ := hr33
       refine tkP 9 (some 9) hSu ?_
       refine tkP 10 (some 19) hSu ?_
       refine tkP 11 (some 20) hSu ?_
       refine wpAnyU_one (i := 14) rfl (by kernel_rfl) (by rfl) fun s1 hs1 => ?_
       have k1 := hp.up hs1
       refine wp_stB rfl rfl rfl rfl k1 rfl rfl (one2 _ _ _ _) ?_
       refine ⟨fun h => by simp at h, ?_⟩
       try simp only [Act.put, pu1]
       refine wpAnyU_one (i := 15) rfl (by kernel_rfl) (by rfl) fun s2 hs2 => ?_
       have k2 := ((hq.up hs1).row_other _ (show q' ≠ p' by omega)).up hs2
       refine wp_stB rfl rfl rfl rfl k2 rfl rfl (one2 _ _ _ _) ?_
       refine ⟨fun h => by simp at h, ?_⟩
       try simp only [Act.put, pu1]
       refine wpAnyU_done (by kernel_rfl) (fun wF huE => ?_) _
       go_wp2
       go_meet
       case rel => exact leaf4 hSB hS1 (hU.trans hs1) k1 hs2 k2 huE (hQ.up hs1) (hR.up hs1) (by omega) (by omega) (by omega)
     ·try simp only [Act.put, pu1, pu2, pu3]
      replace hU := hU.trans hw29
      replace hP := hP.up hw29
      replace hT := hT.up hw29
      replace hq := hq.up hw29
      have ha29 := Up.alloc w29 (.cells #[.bool false, .slice none 0 0] 44)
      have hp_le : wS.heap.size <= w29.heap.size := hU.size
      have hne := hq.lt
      replace hU := hU.trans ha29
      replace hP := hP.up ha29
      replace hT := hT.up ha29
      replace hq := hq.up ha29
      have hp : Blk _ w29.heap.size 44 #[.bool false, .slice none 0 0] := blk_new (w := w29) rfl
      generalize ep : w29.heap.size = p' at hp hp_le hne ⊢
      refine wpAnyU_callE (i := 7) (d := some 17) rfl rfl (by kernel_rfl) (by rfl) hSu.out (fun w' => by go_simp) (fun w' hw' => mul_big (hS5.up (hU.trans hw')) (hB.out.up (below_up hSB (hU.trans hw'))) nTwo hy1) (fun v35 w35 hw35 hr35 => ?_)
      try simp only [Act.put, pu1, pu2, pu3]
      replace hU := hU.trans hw35
      replace hP := hP.up hw35
      replace hT := hT.up hw35
      replace hp := hp.up hw35
      replace hq := hq.up hw35
      obtain ⟨b35, a35, n35, c35, rfl⟩ := hr35.shape
      have hV := hr35
      refine wpAnyU_callE (i := 8) (d := some 18) rfl rfl (by kernel_rfl) (by rfl) hSu.out (fun w' => by go_simp) (fun w' hw' => div_big (hT.up hw') (hV.up hw') hs h2y) (fun v36 w36 hw36 hr36 => ?_)
      try simp only [Act.put, pu1, pu2, pu3]
      replace hU := hU.trans hw36
      replace hP := hP.up hw36
      replace hT := hT.up hw36
      replace hV := hV.up hw36
      replace hp := hp.up hw36
      replace hq := hq.up hw36
      obtain ⟨b36, a36, n36, c36, d36, e36, f36, g36, rfl, hQ, hR⟩ := hr36
      refine tkP 9 (some 9) hSu ?_
      refine tkP 10 (some 19) hSu ?_
      refine tkP 11 (some 20) hSu ?_
      refine wpAnyU_one (i := 14) rfl (by kernel_rfl) (by rfl) fun s1 hs1 => ?_
      have k1 := hp.up hs1
      refine wp_stB rfl rfl rfl rfl k1 rfl rfl (one2 _ _ _ _) ?_
      refine ⟨fun h => by simp at h, ?_⟩
      try simp only [Act.put, pu1]
      refine wpAnyU_one (i := 15) rfl (by kernel_rfl) (by rfl) fun s2 hs2 => ?_
      have k2 := ((hq.up hs1).row_other _ (show q' ≠ p' by omega)).up hs2
      refine wp_stB rfl rfl rfl rfl k2 rfl rfl (one2 _ _ _ _) ?_
      refine ⟨fun h => by simp at h, ?_⟩
      try simp only [Act.put, pu1]
      refine wpAnyU_done (by kernel_rfl) (fun wF huE => ?_) _
      go_wp2
      go_meet
      case rel => exact leaf4 hSB hS1 (hU.trans hs1) k1 hs2 k2 huE (hQ.up hs1) (hR.up hs1) (by omega) (by omega) (by omega)
   ·try simp only [Act.put, pu1, pu2, pu3]
    replace hU := hU.trans hw2
    replace hP := hP.up hw2
    have ha2 := Up.alloc w2 (.cells #[.bool false, .slice none 0 0] 44)
    have hp_le : wS.heap.size <= w2.heap.size := hU.size
    replace hU := hU.trans ha2
    replace hP := hP.up ha2
    have hp : Blk _ w2.heap.size 44 #[.bool false, .slice none 0 0] := blk_new (w := w2) rfl
    generalize ep : w2.heap.size = p' at hp hp_le ⊢
    refine wpAnyU_ca1 (i := 4) (j := 13) (d := some 14) (dj := some 7) (by kernel_rfl) rfl rfl (by rfl) rfl rfl (by rfl) rfl hSu.out (fun w' => by go_simp) (fun w' hw' => add_big (hP.up hw') (hB.out.up (below_up hSB (hU.trans hw'))) h2x hy1) (fun v38 w38 hw38 hr38 => ?_) (fun w38 hw38 => ?_)
    ·try simp only [Act.put, pu1, pu2, pu3]
     replace hU := hU.trans hw38
     replace hP := hP.up hw38
     replace hp := hp.up hw38
     obtain ⟨b38, a38, n38, c38, rfl⟩ := hr38.shape
     have hT := hr38
     refine wpAnyU_ca1 (i := 7) (j := 13) (d := some 17) (dj := some 7) (by kernel_rfl) rfl rfl (by rfl) rfl rfl (by rfl) rfl hSu.out (fun w' => by go_simp) (fun w' hw' => mul_big (hS5.up (hU.trans hw')) (hB.out.up (below_up hSB (hU.trans hw'))) nTwo hy1) (fun v39 w39 hw39 hr39 => ?_) (fun w39 hw39 => ?_)
     ·try simp only [Act.put, pu1, pu2, pu3]
      replace hU := hU.trans hw39
      replace hP := hP.up hw39
      replace hT := hT.up hw39
      replace hp := hp.up hw39
      obtain ⟨b39, a39, n39, c39, rfl⟩ := hr39.shape
      have hV := hr39
      refine wpAnyU_ca1 (i := 8) (j := 13) (d := some 18) (dj := some 7) (by kernel_rfl) rfl rfl (by rfl) rfl rfl (by rfl) rfl hSu.out (fun w' => by go_simp) (fun w' hw' => div_big (hT.up hw') (hV.up hw') hs h2y) (fun v40 w40 hw40 hr40 => ?_) (fun w40 hw40 => ?_)
      ·try simp only [Act.put, pu1, pu2, pu3]
       replace hU := hU.trans hw40
       replace hP := hP.up hw40
       replace hT := hT.up hw40
       replace hV := hV.up hw40
       replace hp := hp.up hw40
       obtain ⟨b40, a40, n40, c40, d40, e40, f40, g40, rfl, hQ, hR⟩ := hr40
       refine tkP 9 (some 9) hSu ?_
       refine tkP 10 (some 19) hSu ?_
       refine tkP 11 (some 20) hSu ?_
       refine wpAnyU_allocB (i := 13) (d := some 7) rfl rfl (by kernel_rfl) (by rfl) rfl hSu.out (fun w41 hw41 => ?_)
       try simp only [Act.put, pu1, pu2, pu3]
       replace hU := hU.trans hw41
       replace hP := hP.up hw41
       replace hT := hT.up hw41
       replace hV := hV.up hw41
       replace hQ := hQ.up hw41
       replace hR := hR.up hw41
       replace hp := hp.up hw41
       have ha41 := Up.alloc w41 (.cells #[.bool false, .slice none 0 0] 44)
       have hq_le : wS.heap.size <= w41.heap.size := hU.size
       have hne := hp.lt
       replace hU := hU.trans ha41
       replace hP := hP.up ha41
       replace hT := hT.up ha41
       replace hV := hV.up ha41
       replace hQ := hQ.up ha41
       replace hR := hR.up ha41
       replace hp := hp.up ha41
       have hq : Blk _ w41.heap.size 44 #[.bool false, .slice none 0 0] := blk_new (w := w41) rfl
       generalize eq : w41.heap.size = q' at hq hq_le hne ⊢
       refine wpAnyU_one (i := 14) rfl (by kernel_rfl) (by rfl) fun s1 hs1 => ?_
       have k1 := hp.up hs1
       refine wp_stB rfl rfl rfl rfl k1 rfl rfl (one2 _ _ _ _) ?_
       refine ⟨fun h => by simp at h, ?_⟩
       try simp only [Act.put, pu1]
       refine wpAnyU_one (i := 15) rfl (by kernel_rfl) (by rfl) fun s2 hs2 => ?_
       have k2 := ((hq.up hs1).row_other _ (show q' ≠ p' by omega)).up hs2
       refine wp_stB rfl rfl rfl rfl k2 rfl rfl (one2 _ _ _ _) ?_
       refine ⟨fun h => by simp at h, ?_⟩
       try simp only [Act.put, pu1]
       refine wpAnyU_done (by kernel_rfl) (fun wF huE => ?_) _
       go_wp2
       go_meet
       case rel => exact leaf4 hSB hS1 (hU.trans hs1) k1 hs2 k2 huE (hQ.up hs1) (hR.up hs1) (by omega) (by omega) (by omega)
      ·try simp only [Act.put, pu1, pu2, pu3]
       replace hU := hU.trans hw40
       replace hP := hP.up hw40
       replace hT := hT.up hw40
       replace hV := hV.up hw40
       replace hp := hp.up hw40
       have ha40 := Up.alloc w40 (.cells #[.bool false, .slice none 0 0] 44)
       have hq_le : wS.heap.size <= w40.heap.size := hU.size
       have hne := hp.lt
       replace hU := hU.trans ha40
       replace hP := hP.up ha40
       replace hT := hT.up ha40
       replace hV := hV.up ha40
       replace hp := hp.up ha40
       have hq : Blk _ w40.heap.size 44 #[.bool false, .slice none 0 0] := blk_new (w := w40) rfl
       generalize eq : w40.heap.size = q' at hq hq_le hne ⊢
       refine wpAnyU_callE (i := 8) (d := some 18) rfl rfl (by kernel_rfl) (by rfl) hSu.out (fun w' => by go_simp) (fun w' hw' => div_big (hT.up hw') (hV.up hw') hs h2y) (fun v43 w43 hw43 hr43 => ?_)
       try simp only [Act.put, pu1, pu2, pu3]
       replace hU := hU.trans hw43
       replace hP := hP.up hw43
       replace hT := hT.up hw43
       replace hV := hV.up hw43
       replace hp := hp.up hw43
       replace hq := hq.up hw43
       obtain ⟨b43, a43, n43, c43, d43, e43, f43, g43, rfl, hQ, hR⟩ := hr43
       refine tkP 9 (some 9) hSu ?_
       refine tkP 10 (some 19) hSu ?_
       refine tkP 11 (some 20) hSu ?_
       refine wpAnyU_one (i := 14) rfl (by kernel_rfl) (by rfl) fun s1 hs1 => ?_
       have k1 := hp.up hs1
       refine wp_stB rfl rfl rfl rfl k1 rfl rfl (one2 _ _ _ _) ?_
       refine ⟨fun h => by simp at h, ?_⟩
       try simp only [Act.put, pu1]
       refine wpAnyU_one (i := 15) rfl (by kernel_rfl) (by rfl) fun s2 hs2 => ?_
       have k2 := ((hq.up hs1).row_other _ (show q' ≠ p' by omega)).up hs2
       refine wp_stB rfl rfl rfl rfl k2 rfl rfl (one2 _ _ _ _) ?_
       refine ⟨fun h => by simp at h, ?_⟩
       try simp only [Act.put, pu1]
       refine wpAnyU_done (by kernel_rfl) (fun wF huE => ?_) _
       go_wp2
       go_meet
       case rel => exact leaf4 hSB hS1 (hU.trans hs1) k1 hs2 k2 huE (hQ.up hs1) (hR.up hs1) (by omega) (by omega) (by omega)
     ·try simp only [Act.put, pu1, pu2, pu3]
      replace hU := hU.trans hw39
      replace hP := hP.up hw39
      replace hT := hT.up hw39
      replace hp := hp.up hw39
      have ha39 := Up.alloc w39 (.cells #[.bool false, .slice none 0 0] 44)
      have hq_le : wS.heap.size <= w39.heap.size := hU.size
      have hne := hp.lt
      replace hU := hU.trans ha39
      replace hP := hP.up ha39
      replace hT := hT.up ha39
      replace hp := hp.up ha39
      have hq : Blk _ w39.heap.size 44 #[.bool false, .slice none 0 0] := blk_new (w := w39) rfl
      generalize eq : w39.heap.size = q' at hq hq_le hne ⊢
      refine wpAnyU_callE (i := 7) (d := some 17) rfl rfl (by kernel_rfl) (by rfl) hSu.out (fun w' => by go_simp) (fun w' hw' => mul_big (hS5.up (hU.trans hw')) (hB.out.up (below_up hSB (hU.trans hw'))) nTwo hy1) (fun v45 w45 hw45 hr45 => ?_)
      try simp only [Act.put, pu1, pu2, pu3]
      replace hU := hU.trans hw45
      replace hP := hP.up hw45
      replace hT := hT.up hw45
      replace hp := hp.up hw45
      replace hq := hq.up hw45
      obtain ⟨b45, a45, n45, c45, rfl⟩ := hr45.shape
      have hV := hr45
      refine wpAnyU_callE (i := 8) (d := some 18) rfl rfl (by kernel_rfl) (by rfl) hSu.out (fun w' => by go_simp) (fun w' hw' => div_big (hT.up hw') (hV.up hw') hs h2y) (fun v46 w46 hw46 hr46 => ?_)
      try simp only [Act.put, pu1, pu2, pu3]
      replace hU := hU.trans hw46
      replace hP := hP.up hw46
      replace hT := hT.up hw46
      replace hV := hV.up hw46
      replace hp := hp.up hw46
      replace hq := hq.up hw46
      obtain ⟨b46, a46, n46, c46, d46, e46, f46, g46, rfl, hQ, hR⟩ := hr46
      refine tkP 9 (some 9) hSu ?_
      refine tkP 10 (some 19) hSu ?_
      refine tkP 11 (some 20) hSu ?_
      refine wpAnyU_one (i := 14) rfl (by kernel_rfl) (by rfl) fun s1 hs1 => ?_
      have k1 := hp.up hs1
      refine wp_stB rfl rfl rfl rfl k1 rfl rfl (one2 _ _ _ _) ?_
      refine ⟨fun h => by simp at h, ?_⟩
      try simp only [Act.put, pu1]
      refine wpAnyU_one (i := 15) rfl (by kernel_rfl) (by rfl) fun s2 hs2 => ?_
      have k2 := ((hq.up hs1).row_other _ (show q' ≠ p' by omega)).up hs2
      refine wp_stB rfl rfl rfl rfl k2 rfl rfl (one2 _ _ _ _) ?_
      refine ⟨fun h => by simp at h, ?_⟩
      try simp only [Act.put, pu1]
      refine wpAnyU_done (by kernel_rfl) (fun wF huE => ?_) _
      go_wp2
      go_meet
      case rel => exact leaf4 hSB hS1 (hU.trans hs1) k1 hs2 k2 huE (hQ.up hs1) (hR.up hs1) (by omega) (by omega) (by omega)
    ·try simp only [Act.put, pu1, pu2, pu3]
     replace hU := hU.trans hw38
     replace hP := hP.up hw38
     replace hp := hp.up hw38
     have ha38 := Up.alloc w38 (.cells #[.bool false, .slice none 0 0] 44)
     have hq_le : wS.heap.size <= w38.heap.size := hU.size
     have hne := hp.lt
     replace hU := hU.trans ha38
     replace hP := hP.up ha38
     replace hp := hp.up ha38
     have hq : Blk _ w38.heap.size 44 #[.bool false, .slice none 0 0] := blk_new (w := w38) rfl
     generalize eq : w38.heap.size = q' at hq hq_le hne ⊢
     refine wpAnyU_callE (i := 4) (d := some 14) rfl rfl (by kernel_rfl) (by rfl) hSu.out (fun w' => by go_simp) (fun w' hw' => add_big (hP.up hw') (hB.out.up (below_up hSB (hU.trans hw'))) h2x hy1) (fun v48 w48 hw48 hr48 => ?_)
     try simp only [Act.put, pu1, pu2, pu3]
     replace hU := hU.trans hw48
     replace hP := hP.up hw48
     replace hp := hp.up hw48
     replace hq := hq.up hw48
     obtain ⟨b48, a48, n48, c48, rfl⟩ := hr48.shape
     have hT := hr48
     refine wpAnyU_callE (i := 7) (d := some 17) rfl rfl (by kernel_rfl) (by rfl) hSu.out (fun w' => by go_simp) (fun w' hw' => mul_big (hS5.up (hU.trans hw')) (hB.out.up (below_up hSB (hU.trans hw'))) nTwo hy1) (fun v49 w49 hw49 hr49 => ?_)
     try simp only [Act.put, pu1, pu2, pu3]
     replace hU := hU.trans hw49
     replace hP := hP.up hw49
     replace hT := hT.up hw49
     replace hp := hp.up hw49
     replace hq := hq.up hw49
     obtain ⟨b49, a49, n49, c49, rfl⟩ := hr49.shape
     have hV := hr49
     refine wpAnyU_callE (i := 8) (d := some 18) rfl rfl (by kernel_rfl) (by rfl) hSu.out (fun w' => by go_simp) (fun w' hw' => div_big (hT.up hw') (hV.up hw') hs h2y) (fun v50 w50 hw50 hr50 => ?_)
     try simp only [Act.put, pu1, pu2, pu3]
     replace hU := hU.trans hw50
     replace hP := hP.up hw50
     replace hT := hT.up hw50
     replace hV := hV.up hw50
     replace hp := hp.up hw50
     replace hq := hq.up hw50
     obtain ⟨b50, a50, n50, c50, d50, e50, f50, g50, rfl, hQ, hR⟩ := hr50
     refine tkP 9 (some 9) hSu ?_
     refine tkP 10 (some 19) hSu ?_
     refine tkP 11 (some 20) hSu ?_
     refine wpAnyU_one (i := 14) rfl (by kernel_rfl) (by rfl) fun s1 hs1 => ?_
     have k1 := hp.up hs1
     refine wp_stB rfl rfl rfl rfl k1 rfl rfl (one2 _ _ _ _) ?_
     refine ⟨fun h => by simp at h, ?_⟩
     try simp only [Act.put, pu1]
     refine wpAnyU_one (i := 15) rfl (by kernel_rfl) (by rfl) fun s2 hs2 => ?_
     have k2 := ((hq.up hs1).row_other _ (show q' ≠ p' by omega)).up hs2
     refine wp_stB rfl rfl rfl rfl k2 rfl rfl (one2 _ _ _ _) ?_
     refine ⟨fun h => by simp at h, ?_⟩
     try simp only [Act.put, pu1]
     refine wpAnyU_done (by kernel_rfl) (fun wF huE => ?_) _
     go_wp2
     go_meet
     case rel => exact leaf4 hSB hS1 (hU.trans hs1) k1 hs2 k2 huE (hQ.up hs1) (hR.up hs1) (by omega) (by omega) (by omega)
   ·try simp only [Act.put, pu1, pu2, pu3]
    replace hU := hU.trans hw2
    replace hP := hP.up hw2
    have ha2 := Up.alloc w2 (.cells #[.bool false, .slice none 0 0] 44)
    have hq_le : wS.heap.size <= w2.heap.size := hU.size
    replace hU := hU.trans ha2
    replace hP := hP.up ha2
    have hq : Blk _ w2.heap.size 44 #[.bool false, .slice none 0 0] := blk_new (w := w2) rfl
    generalize eq : w2.heap.size = q' at hq hq_le ⊢
    refine wpAnyU_ca1 (i := 4) (j := 12) (d := some 14) (dj := some 6) (by kernel_rfl) rfl rfl (by rfl) rfl rfl (by rfl) rfl hSu.out (fun w' => by go_simp) (fun w' hw' => add_big (hP.up hw') (hB.out.up (below_up hSB (hU.trans hw'))) h2x hy1) (fun v52 w52 hw52 hr52 => ?_) (fun w52 hw52 => ?_)
    ·try simp only [Act.put, pu1, pu2, pu3]
     replace hU := hU.trans hw52
     replace hP := hP.up hw52
     replace hq := hq.up hw52
     obtain ⟨b52, a52, n52, c52, rfl⟩ := hr52.shape
     have hT := hr52
     refine wpAnyU_ca1 (i := 7) (j := 12) (d := some 17) (dj := some 6) (by kernel_rfl) rfl rfl (by rfl) rfl rfl (by rfl) rfl hSu.out (fun w' => by go_simp) (fun w' hw' => mul_big (hS5.up (hU.trans hw')) (hB.out.up (below_up hSB (hU.trans hw'))) nTwo hy1) (fun v53 w53 hw53 hr53 => ?_) (fun w53 hw53 => ?_)
     ·try simp only [Act.put, pu1, pu2, pu3]
      replace hU := hU.trans hw53
      replace hP := hP.up hw53
      replace hT := hT.up hw53
      replace hq := hq.up hw53
      obtain ⟨b53, a53, n53, c53, rfl⟩ := hr53.shape
      have hV := hr53
      refine wpAnyU_ca1 (i := 8) (j := 12) (d := some 18) (dj := some 6) (by kernel_rfl) rfl rfl (by rfl) rfl rfl (by rfl) rfl hSu.out (fun w' => by go_simp) (fun w' hw' => div_big (hT.up hw') (hV.up hw') hs h2y) (fun v54 w54 hw54 hr54 => ?_) (fun w54 hw54 => ?_)
      ·try simp only [Act.put, pu1, pu2, pu3]
       replace hU := hU.trans hw54
       replace hP := hP.up hw54
       replace hT := hT.up hw54
       replace hV := hV.up hw54
       replace hq := hq.up hw54
       obtain ⟨b54, a54, n54, c54, d54, e54, f54, g54, rfl, hQ, hR⟩ := hr54
       refine tkP 9 (some 9) hSu ?_
       refine tkP 10 (some 19) hSu ?_
       refine tkP 11 (some 20) hSu ?_
       refine wpAnyU_allocB (i := 12) (d := some 6) rfl rfl (by kernel_rfl) (by rfl) rfl hSu.out (fun w55 hw55 => ?_)
       try simp only [Act.put, pu1, pu2, pu3]
       replace hU := hU.trans hw55
       replace hP := hP.up hw55
       replace hT := hT.up hw55
       replace hV := hV.up hw55
       replace hQ := hQ.up hw55
       replace hR := hR.up hw55
       replace hq := hq.up hw55
       have ha55 := Up.alloc w55 (.cells #[.bool false, .slice none 0 0] 44)
       have hp_le : wS.heap.size <= w55.heap.size := hU.size
       have hne := hq.lt
       replace hU := hU.trans ha55
       replace hP := hP.up ha55
       replace hT := hT.up ha55
       replace hV := hV.up ha55
       replace hQ := hQ.up ha55
       replace hR := hR.up ha55
       replace hq := hq.up ha55
       have hp : Blk _ w55.heap.size 44 #[.bool false, .slice none 0 0] := blk_new (w := w55) rfl
       generalize ep : w55.heap.size = p' at hp hp_le hne ⊢
       refine wpAnyU_one (i := 14) rfl (by kernel_rfl) (by rfl) fun s1 hs1 => ?_
       have k1 := hp.up hs1
       refine wp_stB rfl rfl rfl rfl k1 rfl rfl (one2 _ _ _ _) ?_
       refine ⟨fun h => by simp at h, ?_⟩
       try simp only [Act.put, pu1]
       refine wpAnyU_one (i := 15) rfl (by kernel_rfl) (by rfl) fun s2 hs2 => ?_
       have k2 := ((hq.up hs1).row_other _ (show q' ≠ p' by omega)).up hs2
       refine wp_stB rfl rfl rfl rfl k2 rfl rfl (one2 _ _ _ _) ?_
       refine ⟨fun h => by simp at h, ?_⟩
       try simp only [Act.put, pu1]
       refine wpAnyU_done (by kernel_rfl) (fun wF huE => ?_) _
       go_wp2
       go_meet
       case rel => exact leaf4 hSB hS1 (hU.trans hs1) k1 hs2 k2 huE (hQ.up hs1) (hR.up hs1) (by omega) (by omega) (by omega)
      ·try simp only [Act.put, pu1, pu2, pu3]
       replace hU := hU.trans hw54
       replace hP := hP.up hw54
       replace hT := hT.up hw54
       replace hV := hV.up hw54
       replace hq := hq.up hw54
       have ha54 := Up.alloc w54 (.cells #[.bool false, .slice none 0 0] 44)
       have hp_le : wS.heap.size <= w54.heap.size := hU.size
       have hne := hq.lt
       replace hU := hU.trans ha54
       replace hP := hP.up ha54
       replace hT := hT.up ha54
       replace hV := hV.up ha54
       replace hq := hq.up ha54
       have hp : Blk _ w54.heap.size 44 #[.bool false, .slice none 0 0] := blk_new (w := w54) rfl
       generalize ep : w54.heap.size = p' at hp hp_le hne ⊢
       refine wpAnyU_callE (i := 8) (d := some 18) rfl rfl (by kernel_rfl) (by rfl) hSu.out (fun w' => by go_simp) (fun w' hw' => div_big (hT.up hw') (hV.up hw') hs h2y) (fun v57 w57 hw57 hr57 => ?_)
       try simp only [Act.put, pu1, pu2, pu3]
       replace hU := hU.trans hw57
       replace hP := hP.up hw57
       replace hT := hT.up hw57
       replace hV := hV.up hw57
       replace hp := hp.up hw57
       replace hq := hq.up hw57
       obtain ⟨b57, a57, n57, c57, d57, e57, f57, g57, rfl, hQ, hR⟩ := hr57
       refine tkP 9 (some 9) hSu ?_
       refine tkP 10 (some 19) hSu ?_
       refine tkP 11 (some 20) hSu ?_
       refine wpAnyU_one (i := 14) rfl (by kernel_rfl) (by rfl) fun s1 hs1 => ?_
       have k1 := hp.up hs1
       refine wp_stB rfl rfl rfl rfl k1 rfl rfl (one2 _ _ _ _) ?_
       refine ⟨fun h => by simp at h, ?_⟩
       try simp only [Act.put, pu1]
       refine wpAnyU_one (i := 15) rfl (by kernel_rfl) (by rfl) fun s2 hs2 => ?_
       have k2 := ((hq.up hs1).row_other _ (show q' ≠ p' by omega)).up hs2
       refine wp_stB rfl rfl rfl rfl k2 rfl rfl (one2 _ _ _ _) ?_
       refine ⟨fun h => by simp at h, ?_⟩
       try simp only [Act.put, pu1]
       refine wpAnyU_done (by kernel_rfl) (fun wF huE => ?_) _
       go_wp2
       go_meet
       case rel => exact leaf4 hSB hS1 (hU.trans hs1) k1 hs2 k2 huE (hQ.up hs1) (hR.up hs1) (by omega) (by omega) (by omega)
     ·try simp only [Act.put, pu1, pu2, pu3]
      replace hU := hU.trans hw53
      replace hP := hP.up hw53
      replace hT := hT.up hw53
      replace hq := hq.up hw53
      have ha53 := Up.alloc w53 (.cells #[.bool false, .slice none 0 0] 44)
      have hp_le : wS.heap.size <= w53.heap.size := hU.size
      have hne := hq.lt
      replace hU := hU.trans ha53
      replace hP := hP.up ha53
      replace hT := hT.up ha53
      replace hq := hq.up ha53
      have hp : Blk _ w53.heap.size 44 #[.bool false, .slice none 0 0] := blk_new (w := w53) rfl
      generalize ep : w53.heap.size = p' at hp hp_le hne ⊢
      refine wpAnyU_callE (i := 7) (d := some 17) rfl rfl (by kernel_rfl) (by rfl) hSu.out (fun w' => by go_simp) (fun w' hw' => mul_big (hS5.up (hU.trans hw')) (hB.out.up (below_up hSB (hU.trans hw'))) nTwo hy1) (fun v59 w59 hw59 hr59 => ?_)
      try simp only [Act.put, pu1, pu2, pu3]
      replace hU := hU.trans hw59
      replace hP := hP.up hw59
      replace hT := hT.up hw59
      replace hp := hp.up hw59
      replace hq := hq.up hw59
      obtain ⟨b59, a59, n59, c59, rfl⟩ := hr59.shape
      have hV := hr59
      refine wpAnyU_callE (i := 8) (d := some 18) rfl rfl (by kernel_rfl) (by rfl) hSu.out (fun w' => by go_simp) (fun w' hw' => div_big (hT.up hw') (hV.up hw') hs h2y) (fun v60 w60 hw60 hr60 => ?_)
      try simp only [Act.put, pu1, pu2, pu3]
      replace hU := hU.trans hw60
      replace hP := hP.up hw60
      replace hT := hT.up hw60
      replace hV := hV.up hw60
      replace hp := hp.up hw60
      replace hq := hq.up hw60
      obtain ⟨b60, a60, n60, c60, d60, e60, f60, g60, rfl, hQ, hR⟩ := hr60
      refine tkP 9 (some 9) hSu ?_
      refine tkP 10 (some 19) hSu ?_
      refine tkP 11 (some 20) hSu ?_
      refine wpAnyU_one (i := 14) rfl (by kernel_rfl) (by rfl) fun s1 hs1 => ?_
      have k1 := hp.up hs1
      refine wp_stB rfl rfl rfl rfl k1 rfl rfl (one2 _ _ _ _) ?_
      refine ⟨fun h => by simp at h, ?_⟩
      try simp only [Act.put, pu1]
      refine wpAnyU_one (i := 15) rfl (by kernel_rfl) (by rfl) fun s2 hs2 => ?_
      have k2 := ((hq.up hs1).row_other _ (show q' ≠ p' by omega)).up hs2
      refine wp_stB rfl rfl rfl rfl k2 rfl rfl (one2 _ _ _ _) ?_
      refine ⟨fun h => by simp at h, ?_⟩
      try simp only [Act.put, pu1]
      refine wpAnyU_done (by kernel_rfl) (fun wF huE => ?_) _
      go_wp2
      go_meet
      case rel => exact leaf4 hSB hS1 (hU.trans hs1) k1 hs2 k2 huE (hQ.up hs1) (hR.up hs1) (by omega) (by omega) (by omega)
    ·try simp only [Act.put, pu1, pu2, pu3]
     replace hU := hU.trans hw52
     replace hP := hP.up hw52
     replace hq := hq.up hw52
     have ha52 := Up.alloc w52 (.cells #[.bool false, .slice none 0 0] 44)
     have hp_le : wS.heap.size <= w52.heap.size := hU.size
     have hne := hq.lt
     replace hU := hU.trans ha52
     replace hP := hP.up ha52
     replace hq := hq.up ha52
     have hp : Blk _ w52.heap.size 44 #[.bool false, .slice none 0 0] := blk_new (w := w52) rfl
     generalize ep : w52.heap.size = p' at hp hp_le hne ⊢
     refine wpAnyU_callE (i := 4) (d := some 14) rfl rfl (by kernel_rfl) (by rfl) hSu.out (fun w' => by go_simp) (fun w' hw' => add_big (hP.up hw') (hB.out.up (below_up hSB (hU.trans hw'))) h2x hy1) (fun v62 w62 hw62 hr62 => ?_)
     try simp only [Act.put, pu1, pu2, pu3]
     replace hU := hU.trans hw62
     replace hP := hP.up hw62
     replace hp := hp.up hw62
     replace hq := hq.up hw62
     obtain ⟨b62, a62, n62, c62, rfl⟩ := hr62.shape
     have hT := hr62
     refine wpAnyU_callE (i := 7) (d := some 17) rfl rfl (by kernel_rfl) (by rfl) hSu.out (fun w' => by go_simp) (fun w' hw' => mul_big (hS5.up (hU.trans hw')) (hB.out.up (below_up hSB (hU.trans hw'))) nTwo hy1) (fun v63 w63 hw63 hr63 => ?_)
     try simp only [Act.put, pu1, pu2, pu3]
     replace hU := hU.trans hw63
     replace hP := hP.up hw63
     replace hT := hT.up hw63
     replace hp := hp.up hw63
     replace hq := hq.up hw63
     obtain ⟨b63, a63, n63, c63, rfl⟩ := hr63.shape
     have hV := hr63
     refine wpAnyU_callE (i := 8) (d := some 18) rfl rfl (by kernel_rfl) (by rfl) hSu.out (fun w' => by go_simp) (fun w' hw' => div_big (hT.up hw') (hV.up hw') hs h2y) (fun v64 w64 hw64 hr64 => ?_)
     try simp only [Act.put, pu1, pu2, pu3]
     replace hU := hU.trans hw64
     replace hP := hP.up hw64
     replace hT := hT.up hw64
     replace hV := hV.up hw64
     replace hp := hp.up hw64
     replace hq := hq.up hw64
     obtain ⟨b64, a64, n64, c64, d64, e64, f64, g64, rfl, hQ, hR⟩ := hr64
     refine tkP 9 (some 9) hSu ?_
     refine tkP 10 (some 19) hSu ?_
     refine tkP 11 (some 20) hSu ?_
     refine wpAnyU_one (i := 14) rfl (by kernel_rfl) (by rfl) fun s1 hs1 => ?_
     have k1 := hp.up hs1
     refine wp_stB rfl rfl rfl rfl k1 rfl rfl (one2 _ _ _ _) ?_
     refine ⟨fun h => by simp at h, ?_⟩
     try simp only [Act.put, pu1]
     refine wpAnyU_one (i := 15) rfl (by kernel_rfl) (by rfl) fun s2 hs2 => ?_
     have k2 := ((hq.up hs1).row_other _ (show q' ≠ p' by omega)).up hs2
     refine wp_stB rfl rfl rfl rfl k2 rfl rfl (one2 _ _ _ _) ?_
     refine ⟨fun h => by simp at h, ?_⟩
     try simp only [Act.put, pu1]
     refine wpAnyU_done (by kernel_rfl) (fun wF huE => ?_) _
     go_wp2
     go_meet
     case rel => exact leaf4 hSB hS1 (hU.trans hs1) k1 hs2 k2 huE (hQ.up hs1) (hR.up hs1) (by omega) (by omega) (by omega)
  ·try simp only [Act.put, pu1, pu2, pu3]
   replace hU := hU.trans hw1
   have ha1 := Up.alloc w1 (.cells #[.bool false, .slice none 0 0] 44)
   have hp_le : wS.heap.size <= w1.heap.size := hU.size
   replace hU := hU.trans ha1
   have hp : Blk _ w1.heap.size 44 #[.bool false, .slice none 0 0] := blk_new (w := w1) rfl
   generalize ep : w1.heap.size = p' at hp hp_le ⊢
   refine wpAnyU_ca1 (i := 2) (j := 13) (d := some 12) (dj := some 7) (by kernel_rfl) rfl rfl (by rfl) rfl rfl (by rfl) rfl hSu.out (fun w' => by go_simp) (fun w' hw' => mul_big (hS5.up (hU.trans hw')) (hA.out.up (below_up hSB (hU.trans hw'))) nTwo hx1) (fun v66 w66 hw66 hr66 => ?_) (fun w66 hw66 => ?_)
   ·try simp only [Act.put, pu1, pu2, pu3]
    replace hU := hU.trans hw66
    replace hp := hp.up hw66
    obtain ⟨b66, a66, n66, c66, rfl⟩ := hr66.shape
    have hP := hr66
    refine wpAnyU_ca1 (i := 4) (j := 13) (d := some 14) (dj := some 7) (by kernel_rfl) rfl rfl (by rfl) rfl rfl (by rfl) rfl hSu.out (fun w' => by go_simp) (fun w' hw' => add_big (hP.up hw') (hB.out.up (below_up hSB (hU.trans hw'))) h2x hy1) (fun v67 w67 hw67 hr67 => ?_) (fun w67 hw67 => ?_)
    ·try simp only [Act.put, pu1, pu2, pu3]
     replace hU := hU.trans hw67
     replace hP := hP.up hw67
     replace hp := hp.up hw67
     obtain ⟨b67, a67, n67, c67, rfl⟩ := hr67.shape
     have hT := hr67
     refine wpAnyU_ca1 (i := 7) (j := 13) (d := some 17) (dj := some 7) (by kernel_rfl) rfl rfl (by rfl) rfl rfl (by rfl) rfl hSu.out (fun w' => by go_simp) (fun w' hw' => mul_big (hS5.up (hU.trans hw')) (hB.out.up (below_up hSB (hU.trans hw'))) nTwo hy1) (fun v68 w68 hw68 hr68 => ?_) (fun w68 hw68 => ?_)
     ·try simp only [Act.put, pu1, pu2, pu3]
      replace hU := hU.trans hw68
      replace hP := hP.up hw68
      replace hT := hT.up hw68
      replace hp := hp.up hw68
      obtain ⟨b68, a68, n68, c68, rfl⟩ := hr68.shape
      have hV := hr68
      refine wpAnyU_ca1 (i := 8) (j := 13) (d := some 18) (dj := some 7) (by kernel_rfl) rfl rfl (by rfl) rfl rfl (by rfl) rfl hSu.out (fun w' => by go_simp) (fun w' hw' => div_big (hT.up hw') (hV.up hw') hs h2y) (fun v69 w69 hw69 hr69 => ?_) (fun w69 hw69 => ?_)
      ·try simp only [Act.put, pu1, pu2, pu3]
       replace hU := hU.trans hw69
       replace hP := hP.up hw69
       replace hT := hT.up hw69
       replace hV := hV.up hw69
       replace hp := hp.up hw69
       obtain ⟨b69, a69, n69, c69, d69, e69, f69, g69, rfl, hQ, hR⟩ := hr69
       refine tkP 9 (some 9) hSu ?_
       refine tkP 10 (some 19) hSu ?_
       refine tkP 11 (some 20) hSu ?_
       refine wpAnyU_allocB (i := 13) (d := some 7) rfl rfl (by kernel_rfl) (by rfl) rfl hSu.out (fun w70 hw70 => ?_)
       try simp only [Act.put, pu1, pu2, pu3]
       replace hU := hU.trans hw70
       replace hP := hP.up hw70
       replace hT := hT.up hw70
       replace hV := hV.up hw70
       replace hQ := hQ.up hw70
       replace hR := hR.up hw70
       replace hp := hp.up hw70
       have ha70 := Up.alloc w70 (.cells #[.bool false, .slice none 0 0] 44)
       have hq_le : wS.heap.size <= w70.heap.size := hU.size
       have hne := hp.lt
       replace hU := hU.trans ha70
       replace hP := hP.up ha70
       replace hT := hT.up ha70
       replace hV := hV.up ha70
       replace hQ := hQ.up ha70
       replace hR := hR.up ha70
       replace hp := hp.up ha70
       have hq : Blk _ w70.heap.size 44 #[.bool false, .slice none 0 0] := blk_new (w := w70) rfl
       generalize eq : w70.heap.size = q' at hq hq_le hne ⊢
       refine wpAnyU_one (i := 14) rfl (by kernel_rfl) (by rfl) fun s1 hs1 => ?_
       have k1 := hp.up hs1
       refine wp_stB rfl rfl rfl rfl k1 rfl rfl (one2 _ _ _ _) ?_
       refine ⟨fun h => by simp at h, ?_⟩
       try simp only [Act.put, pu1]
       refine wpAnyU_one (i := 15) rfl (by kernel_rfl) (by rfl) fun s2 hs2 => ?_
       have k2 := ((hq.up hs1).row_other _ (show q' ≠ p' by omega)).up hs2
       refine wp_stB rfl rfl rfl rfl k2 rfl rfl (one2 _ _ _ _) ?_
       refine ⟨fun h => by simp at h, ?_⟩
       try simp only [Act.put, pu1]
       refine wpAnyU_done (by kernel_rfl) (fun wF huE => ?_) _
       go_wp2
       go_meet
       case rel => exact leaf4 hSB hS1 (hU.trans hs1) k1 hs2 k2 huE (hQ.up hs1) (hR.up hs1) (by omega) (by omega) (by omega)
      ·try simp only [Act.put, pu1, pu2, pu3]
       replace hU := hU.trans hw69
       replace hP := hP.up hw69
       replace hT := hT.up hw69
       replace hV := hV.up hw69
       replace hp := hp.up hw69
       have ha69 := Up.alloc w69 (.cells #[.bool false, .slice none 0 0] 44)
       have hq_le : wS.heap.size <= w69.heap.size := hU.size
       have hne := hp.lt
       replace hU := hU.trans ha69
       replace hP := hP.up ha69
       replace hT := hT.up ha69
       replace hV := hV.up ha69
       replace hp := hp.up ha69
       have hq : Blk _ w69.heap.size 44 #[.bool false, .slice none 0 0] := blk_new (w := w69) rfl
       generalize eq : w69.heap.size = q' at hq hq_le hne ⊢
       refine wpAnyU_callE (i := 8) (d := some 18) rfl rfl (by kernel_rfl) (by rfl) hSu.out (fun w' => by go_simp) (fun w' hw' => div_big (hT.up hw') (hV.up hw') hs h2y) (fun v72 w72 hw72 hr72 => ?_)
       try simp only [Act.put, pu1, pu2, pu3]
       replace hU := hU.trans hw72
       replace hP := hP.up hw72
       replace hT := hT.up hw72
       replace hV := hV.up hw72
       replace hp := hp.up hw72
       replace hq := hq.up hw72
       obtain ⟨b72, a72, n72, c72, d72, e72, f72, g72, rfl, hQ, hR⟩ := hr72
       refine tkP 9 (some 9) hSu ?_
       refine tkP 10 (some 19) hSu ?_
       refine tkP 11 (some 20) hSu ?_
       refine wpAnyU_one (i := 14) rfl (by kernel_rfl) (by rfl) fun s1 hs1 => ?_
       have k1 := hp.up hs1
       refine wp_stB rfl rfl rfl rfl k1 rfl rfl (one2 _ _ _ _) ?_
       refine ⟨fun h => by simp at h, ?_⟩
       try simp only [Act.put, pu1]
       refine wpAnyU_one (i := 15) rfl (by kernel_rfl) (by rfl) fun s2 hs2 => ?_
       have k2 := ((hq.up hs1).row_other _ (show q' ≠ p' by omega)).up hs2
       refine wp_stB rfl rfl rfl rfl k2 rfl rfl (one2 _ _ _ _) ?_
       refine ⟨fun h => by simp at h, ?_⟩
       try simp only [Act.put, pu1]
       refine wpAnyU_done (by kernel_rfl) (fun wF huE => ?_) _
       go_wp2
       go_meet
       case rel => exact leaf4 hSB hS1 (hU.trans hs1) k1 hs2 k2 huE (hQ.up hs1) (hR.up hs1) (by omega) (by omega) (by omega)
     ·try simp only [Act.put, pu1, pu2, pu3]
      replace hU := hU.trans hw68
      replace hP := hP.up hw68
      replace hT := hT.up hw68
      replace hp := hp.up hw68
      have ha68 := Up.alloc w68 (.cells #[.bool false, .slice none 0 0] 44)
      have hq_le : wS.heap.size <= w68.heap.size := hU.size
      have hne := hp.lt
      replace hU := hU.trans ha68
      replace hP := hP.up ha68
      replace hT := hT.up ha68
      replace hp := hp.up ha68
      have hq : Blk _ w68.heap.size 44 #[.bool false, .slice none 0 0] := blk_new (w := w68) rfl
      generalize eq : w68.heap.size = q' at hq hq_le hne ⊢
      refine wpAnyU_callE (i := 7) (d := some 17) rfl rfl (by kernel_rfl) (by rfl) hSu.out (fun w' => by go_simp) (fun w' hw' => mul_big (hS5.up (hU.trans hw')) (hB.out.up (below_up hSB (hU.trans hw'))) nTwo hy1) (fun v74 w74 hw74 hr74 => ?_)
      try simp only [Act.put, pu1, pu2, pu3]
      replace hU := hU.trans hw74
      replace hP := hP.up hw74
      replace hT := hT.up hw74
      replace hp := hp.up hw74
      replace hq := hq.up hw74
      obtain ⟨b74, a74, n74, c74, rfl⟩ := hr74.shape
      have hV := hr74
      refine wpAnyU_callE (i := 8) (d := some 18) rfl rfl (by kernel_rfl) (by rfl) hSu.out (fun w' => by go_simp) (fun w' hw' => div_big (hT.up hw') (hV.up hw') hs h2y) (fun v75 w75 hw75 hr75 => ?_)
      try simp only [Act.put, pu1, pu2, pu3]
      replace hU := hU.trans hw75
      replace hP := hP.up hw75
      replace hT := hT.up hw75
      replace hV := hV.up hw75
      replace hp := hp.up hw75
      replace hq := hq.up hw75
      obtain ⟨b75, a75, n75, c75, d75, e75, f75, g75, rfl, hQ, hR⟩ := hr75
      refine tkP 9 (some 9) hSu ?_
      refine tkP 10 (some 19) hSu ?_
      refine tkP 11 (some 20) hSu ?_
      refine wpAnyU_one (i := 14) rfl (by kernel_rfl) (by rfl) fun s1 hs1 => ?_
      have k1 := hp.up hs1
      refine wp_stB rfl rfl rfl rfl k1 rfl rfl (one2 _ _ _ _) ?_
      refine ⟨fun h => by simp at h, ?_⟩
      try simp only [Act.put, pu1]
      refine wpAnyU_one (i := 15) rfl (by kernel_rfl) (by rfl) fun s2 hs2 => ?_
      have k2 := ((hq.up hs1).row_other _ (show q' ≠ p' by omega)).up hs2
      refine wp_stB rfl rfl rfl rfl k2 rfl rfl (one2 _ _ _ _) ?_
      refine ⟨fun h => by simp at h, ?_⟩
      try simp only [Act.put, pu1]
      refine wpAnyU_done (by kernel_rfl) (fun wF huE => ?_) _
      go_wp2
      go_meet
      case rel => exact leaf4 hSB hS1 (hU.trans hs1) k1 hs2 k2 huE (hQ.up hs1) (hR.up hs1) (by omega) (by omega) (by omega)
    ·try simp only [Act.put, pu1, pu2, pu3]
     replace hU := hU.trans hw67
     replace hP := hP.up hw67
     replace hp := hp.up hw67
     have ha67 := Up.alloc w67 (.cells #[.bool false, .slice none 0 0] 44)
     have hq_le : wS.heap.size <= w67.heap.size := hU.size
     have hne := hp.lt
     replace hU := hU.trans ha67
     replace hP := hP.up ha67
     replace hp := hp.up ha67
     have hq : Blk _ w67.heap.size 44 #[.bool false, .slice none 0 0] := blk_new (w := w67) rfl
     generalize eq : w67.heap.size = q' at hq hq_le hne ⊢
     refine wpAnyU_callE (i := 4) (d := some 14) rfl rfl (by kernel_rfl) (by rfl) hSu.out (fun w' => by go_simp) (fun w' hw' => add_big (hP.up hw') (hB.out.up (below_up hSB (hU.trans hw'))) h2x hy1) (fun v77 w77 hw77 hr77 => ?_)
     try simp only [Act.put, pu1, pu2, pu3]
     replace hU := hU.trans hw77
     replace hP := hP.up hw77
     replace hp := hp.up hw77
     replace hq := hq.up hw77
     obtain ⟨b77, a77, n77, c77, rfl⟩ := hr77.shape
     have hT := hr77
     refine wpAnyU_callE (i := 7) (d := some 17) rfl rfl (by kernel_rfl) (by rfl) hSu.out (fun w' => by go_simp) (fun w' hw' => mul_big (hS5.up (hU.trans hw')) (hB.out.up (below_up hSB (hU.trans hw'))) nTwo hy1) (fun v78 w78 hw78 hr78 => ?_)
     try simp only [Act.put, pu1, pu2, pu3]
     replace hU := hU.trans hw78
     replace hP := hP.up hw78
     replace hT := hT.up hw78
     replace hp := hp.up hw78
     replace hq := hq.up hw78
     obtain ⟨b78, a78, n78, c78, rfl⟩ := hr78.shape
     have hV := hr78
     refine wpAnyU_callE (i := 8) (d := some 18) rfl rfl (by kernel_rfl) (by rfl) hSu.out (fun w' => by go_simp) (fun w' hw' => div_big (hT.up hw') (hV.up hw') hs h2y) (fun v79 w79 hw79 hr79 => ?_)
     try simp only [Act.put, pu1, pu2, pu3]
     replace hU := hU.trans hw79
     replace hP := hP.up hw79
     replace hT := hT.up hw79
     replace hV := hV.up hw79
     replace hp := hp.up hw79
     replace hq := hq.up hw79
     obtain ⟨b79, a79, n79, c79, d79, e79, f79, g79, rfl, hQ, hR⟩ := hr79
     refine tkP 9 (some 9) hSu ?_
     refine tkP 10 (some 19) hSu ?_
     refine tkP 11 (some 20) hSu ?_
     refine wpAnyU_one (i := 14) rfl (by kernel_rfl) (by rfl) fun s1 hs1 => ?_
     have k1 := hp.up hs1
     refine wp_stB rfl rfl rfl rfl k1 rfl rfl (one2 _ _ _ _) ?_
     refine ⟨fun h => by simp at h, ?_⟩
     try simp only [Act.put, pu1]
     refine wpAnyU_one (i := 15) rfl (by kernel_rfl) (by rfl) fun s2 hs2 => ?_
     have k2 := ((hq.up hs1).row_other _ (show q' ≠ p' by omega)).up hs2
     refine wp_stB rfl rfl rfl rfl k2 rfl rfl (one2 _ _ _ _) ?_
     refine ⟨fun h => by simp at h, ?_⟩
     try simp only [Act.put, pu1]
     refine wpAnyU_done (by kernel_rfl) (fun wF huE => ?_) _
     go_wp2
     go_meet
     case rel => exact leaf4 hSB hS1 (hU.trans hs1) k1 hs2 k2 huE (hQ.up hs1) (hR.up hs1) (by omega) (by omega) (by omega)
   ·try simp only [Act.put, pu1, pu2, pu3]
    replace hU := hU.trans hw66
    replace hp := hp.up hw66
    have ha66 := Up.alloc w66 (.cells #[.bool false, .slice none 0 0] 44)
    have hq_le : wS.heap.size <= w66.heap.size := hU.size
    have hne := hp.lt
    replace hU := hU.trans ha66
    replace hp := hp.up ha66
    have hq : Blk _ w66.heap.size 44 #[.bool false, .slice none 0 0] := blk_new (w := w66) rfl
    generalize eq : w66.heap.size = q' at hq hq_le hne ⊢
    refine wpAnyU_callE (i := 2) (d := some 12) rfl rfl (by kernel_rfl) (by rfl) hSu.out (fun w' => by go_simp) (fun w' hw' => mul_big (hS5.up (hU.trans hw')) (hA.out.up (below_up hSB (hU.trans hw'))) nTwo hx1) (fun v81 w81 hw81 hr81 => ?_)
    try simp only [Act.put, pu1, pu2, pu3]
    replace hU := hU.trans hw81
    replace hp := hp.up hw81
    replace hq := hq.up hw81
    obtain ⟨b81, a81, n81, c81, rfl⟩ := hr81.shape
    have hP := hr81
    refine wpAnyU_callE (i := 4) (d := some 14) rfl rfl (by kernel_rfl) (by rfl) hSu.out (fun w' => by go_simp) (fun w' hw' => add_big (hP.up hw') (hB.out.up (below_up hSB (hU.trans hw'))) h2x hy1) (fun v82 w82 hw82 hr82 => ?_)
    try simp only [Act.put, pu1, pu2, pu3]
    replace hU := hU.trans hw82
    replace hP := hP.up hw82
    replace hp := hp.up hw82
    replace hq := hq.up hw82
    obtain ⟨b82, a82, n82, c82, rfl⟩ := hr82.shape
    have hT := hr82
    refine wpAnyU_callE (i := 7) (d := some 17) rfl rfl (by kernel_rfl) (by rfl) hSu.out (fun w' => by go_simp) (fun w' hw' => mul_big (hS5.up (hU.trans hw')) (hB.out.up (below_up hSB (hU.trans hw'))) nTwo hy1) (fun v83 w83 hw83 hr83 => ?_)
    try simp only [Act.put, pu1, pu2, pu3]
    replace hU := hU.trans hw83
    replace hP := hP.up hw83
    replace hT := hT.up hw83
    replace hp := hp.up hw83
    replace hq := hq.up hw83
    obtain ⟨b83, a83, n83, c83, rfl⟩ := hr83.shape
    have hV := hr83
    refine wpAnyU_callE (i := 8) (d := some 18) rfl rfl (by kernel_rfl) (by rfl) hSu.out (fun w' => by go_simp) (fun w' hw' => div_big (hT.up hw') (hV.up hw') hs h2y) (fun v84 w84 hw84 hr84 => ?_)
    try simp only [Act.put, pu1, pu2, pu3]
    replace hU := hU.trans hw84
    replace hP := hP.up hw84
    replace hT := hT.up hw84
    replace hV := hV.up hw84
    replace hp := hp.up hw84
    replace hq := hq.up hw84
    obtain ⟨b84, a84, n84, c84, d84, e84, f84, g84, rfl, hQ, hR⟩ := hr84
    refine tkP 9 (some 9) hSu ?_
    refine tkP 10 (some 19) hSu ?_
    refine tkP 11 (some 20) hSu ?_
    refine wpAnyU_one (i := 14) rfl (by kernel_rfl) (by rfl) fun s1 hs1 => ?_
    have k1 := hp.up hs1
    refine wp_stB rfl rfl rfl rfl k1 rfl rfl (one2 _ _ _ _) ?_
    refine ⟨fun h => by simp at h, ?_⟩
    try simp only [Act.put, pu1]
    refine wpAnyU_one (i := 15) rfl (by kernel_rfl) (by rfl) fun s2 hs2 => ?_
    have k2 := ((hq.up hs1).row_other _ (show q' ≠ p' by omega)).up hs2
    refine wp_stB rfl rfl rfl rfl k2 rfl rfl (one2 _ _ _ _) ?_
    refine ⟨fun h => by simp at h, ?_⟩
    try simp only [Act.put, pu1]
    refine wpAnyU_done (by kernel_rfl) (fun wF huE => ?_) _
    go_wp2
    go_meet
    case rel => exact leaf4 hSB hS1 (hU.trans hs1) k1 hs2 k2 huE (hQ.up hs1) (hR.up hs1) (by omega) (by omega) (by omega)
  ·try simp only [Act.put, pu1, pu2, pu3]
   replace hU := hU.trans hw1
   have ha1 := Up.alloc w1 (.cells #[.bool false, .slice none 0 0] 44)
   have hq_le : wS.heap.size <= w1.heap.size := hU.size
   replace hU := hU.trans ha1
   have hq : Blk _ w1.heap.size 44 #[.bool false, .slice none 0 0] := blk_new (w := w1) rfl
   generalize eq : w1.heap.size = q' at hq hq_le ⊢
   refine wpAnyU_ca1 (i := 2) (j := 12) (d := some 12) (dj := some 6) (by kernel_rfl) rfl rfl (by rfl) rfl rfl (by rfl) rfl hSu.out (fun w' => by go_simp) (fun w' hw' => mul_big (hS5.up (hU.trans hw')) (hA.out.up (below_up hSB (hU.trans hw'))) nTwo hx1) (fun v86 w86 hw86 hr86 => ?_) (fun w86 hw86 => ?_)
   ·try simp only [Act.put, pu1, pu2, pu3]
    replace hU := hU.trans hw86
    replace hq := hq.up hw86
    obtain ⟨b86, a86, n86, c86, rfl⟩ := hr86.shape
    have hP := hr86
    refine wpAnyU_ca1 (i := 4) (j := 12) (d := some 14) (dj := some 6) (by kernel_rfl) rfl rfl (by rfl) rfl rfl (by rfl) rfl hSu.out (fun w' => by go_simp) (fun w' hw' => add_big (hP.up hw') (hB.out.up (below_up hSB (hU.trans hw'))) h2x hy1) (fun v87 w87 hw87 hr87 => ?_) (fun w87 hw87 => ?_)
    ·try simp only [Act.put, pu1, pu2, pu3]
     replace hU := hU.trans hw87
     replace hP := hP.up hw87
     replace hq := hq.up hw87
     obtain ⟨b87, a87, n87, c87, rfl⟩ := hr87.shape
     have hT := hr87
     refine wpAnyU_ca1 (i := 7) (j := 12) (d := some 17) (dj := some 6) (by kernel_rfl) rfl rfl (by rfl) rfl rfl (by rfl) rfl hSu.out (fun w' => by go_simp) (fun w' hw' => mul_big (hS5.up (hU.trans hw')) (hB.out.up (below_up hSB (hU.trans hw'))) nTwo hy1) (fun v88 w88 hw88 hr88 => ?_) (fun w88 hw88 => ?_)
     ·try simp only [Act.put, pu1, pu2, pu3]
      replace hU := hU.trans hw88
      replace hP := hP.up hw88
      replace hT := hT.up hw88
      replace hq := hq.up hw88
      obtain ⟨b88, a88, n88, c88, rfl⟩ := hr88.shape
      have hV := hr88
      refine wpAnyU_ca1 (i := 8) (j := 12) (d := some 18) (dj := some 6) (by kernel_rfl) rfl rfl (by rfl) rfl rfl (by rfl) rfl hSu.out (fun w' => by go_simp) (fun w' hw' => div_big (hT.up hw') (hV.up hw') hs h2y) (fun v89 w89 hw89 hr89 => ?_) (fun w89 hw89 => ?_)
      ·try simp only [Act.put, pu1, pu2, pu3]
       replace hU := hU.trans hw89
       replace hP := hP.up hw89
       replace hT := hT.up hw89
       replace hV := hV.up hw89
       replace hq := hq.up hw89
       obtain ⟨b89, a89, n89, c89, d89, e89, f89, g89, rfl, hQ, hR⟩ := hr89
       refine tkP 9 (some 9) hSu ?_
       refine tkP 10 (some 19) hSu ?_
       refine tkP 11 (some 20) hSu ?_
       refine wpAnyU_allocB (i := 12) (d := some 6) rfl rfl (by kernel_rfl) (by rfl) rfl hSu.out (fun w90 hw90 => ?_)
       try simp only [Act.put, pu1, pu2, pu3]
       replace hU := hU.trans hw90
       replace hP := hP.up hw90
       replace hT := hT.up hw90
       replace hV := hV.up hw90
       replace hQ := hQ.up hw90
       replace hR := hR.up hw90
       replace hq := hq.up hw90
       have ha90 := Up.alloc w90 (.cells #[.bool false, .slice none 0 0] 44)
       have hp_le : wS.heap.size <= w90.heap.size := hU.size
       have hne := hq.lt
       replace hU := hU.trans ha90
       replace hP := hP.up ha90
       replace hT := hT.up ha90
       replace hV := hV.up ha90
       replace hQ := hQ.up ha90
       replace hR := hR.up ha90
       replace hq := hq.up ha90
       have hp : Blk _ w90.heap.size 44 #[.bool false, .slice none 0 0] := blk_new (w := w90) rfl
       generalize ep : w90.heap.size = p' at hp hp_le hne ⊢
       refine wpAnyU_one (i := 14) rfl (by kernel_rfl) (by rfl) fun s1 hs1 => ?_
       have k1 := hp.up hs1
       refine wp_stB rfl rfl rfl rfl k1 rfl rfl (one2 _ _ _ _) ?_
       refine ⟨fun h => by simp at h, ?_⟩
       try simp only [Act.put, pu1]
       refine wpAnyU_one (i := 15) rfl (by kernel_rfl) (by rfl) fun s2 hs2 => ?_
       have k2 := ((hq.up hs1).row_other _ (show q' ≠ p' by omega)).up hs2
       refine wp_stB rfl rfl rfl rfl k2 rfl rfl (one2 _ _ _ _) ?_
       refine ⟨fun h => by simp at h, ?_⟩
       try simp only [Act.put, pu1]
       refine wpAnyU_done (by kernel_rfl) (fun wF huE => ?_) _
       go_wp2
       go_meet
       case rel => exact leaf4 hSB hS1 (hU.trans hs1) k1 hs2 k2 huE (hQ.up hs1) (hR.up hs1) (by omega) (by omega) (by omega)
      ·try simp only [Act.put, pu1, pu2, pu3]
       replace hU := hU.trans hw89
       replace hP := hP.up hw89
       replace hT := hT.up hw89
       replace hV := hV.up hw89
       replace hq := hq.up hw89
       have ha89 := Up.alloc w89 (.cells #[.bool false, .slice none 0 0] 44)
       have hp_le : wS.heap.size <= w89.heap.size := hU.size
       have hne := hq.lt
       replace hU := hU.trans ha89
       replace hP := hP.up ha89
       replace hT := hT.up ha89
       replace hV := hV.up ha89
       replace hq := hq.up ha89
       have hp : Blk _ w89.heap.size 44 #[.bool false, .slice none 0 0] := blk_new (w := w89) rfl
       generalize ep : w89.heap.size = p' at hp hp_le hne ⊢
       refine wpAnyU_callE (i := 8) (d := some 18) rfl rfl (by kernel_rfl) (by rfl) hSu.out (fun w' => by go_simp) (fun w' hw' => div_big (hT.up hw') (hV.up hw') hs h2y) (fun v92 w92 hw92 hr92 => ?_)
       try simp only [Act.put, pu1, pu2, pu3]
       replace hU := hU.trans hw92
       replace hP := hP.up hw92
       replace hT := hT.up hw92
       replace hV := hV.up hw92
       replace hp := hp.up hw92
       replace hq := hq.up hw92
       obtain ⟨b92, a92, n92, c92, d92, e92, f92, g92, rfl, hQ, hR⟩ := hr92
       refine tkP 9 (some 9) hSu ?_
       refine tkP 10 (some 19) hSu ?_
       refine tkP 11 (some 20) hSu ?_
       refine wpAnyU_one (i := 14) rfl (by kernel_rfl) (by rfl) fun s1 hs1 => ?_
       have k1 := hp.up hs1
       refine wp_stB rfl rfl rfl rfl k1 rfl rfl (one2 _ _ _ _) ?_
       refine ⟨fun h => by simp at h, ?_⟩
       try simp only [Act.put, pu1]
       refine wpAnyU_one (i := 15) rfl (by kernel_rfl) (by rfl) fun s2 hs2 => ?_
       have k2 := ((hq.up hs1).row_other _ (show q' ≠ p' by omega)).up hs2
       refine wp_stB rfl rfl rfl rfl k2 rfl rfl (one2 _ _ _ _) ?_
       refine ⟨fun h => by simp at h, ?_⟩
       try simp only [Act.put, pu1]
       refine wpAnyU_done (by kernel_rfl) (fun wF huE => ?_) _
       go_wp2
       go_meet
       case rel => exact leaf4 hSB hS1 (hU.trans hs1) k1 hs2 k2 huE (hQ.up hs1) (hR.up hs1) (by omega) (by omega) (by omega)
     ·try simp only [Act.put, pu1, pu2, pu3]
      replace hU := hU.trans hw88
      replace hP := hP.up hw88
      replace hT := hT.up hw88
      replace hq := hq.up hw88
      have ha88 := Up.alloc w88 (.cells #[.bool false, .slice none 0 0] 44)
      have hp_le : wS.heap.size <= w88.heap.size := hU.size
      have hne := hq.lt
      replace hU := hU.trans ha88
      replace hP := hP.up ha88
      replace hT := hT.up ha88
      replace hq := hq.up ha88
      have hp : Blk _ w88.heap.size 44 #[.bool false, .slice none 0 0] := blk_new (w := w88) rfl
      generalize ep : w88.heap.size = p' at hp hp_le hne ⊢
      refine wpAnyU_callE (i := 7) (d := some 17) rfl rfl (by kernel_rfl) (by rfl) hSu.out (fun w' => by go_simp) (fun w' hw' => mul_big (hS5.up (hU.trans hw')) (hB.out.up (below_up hSB (hU.trans hw'))) nTwo hy1) (fun v94 w94 hw94 hr94 => ?_)
      try simp only [Act.put, pu1, pu2, pu3]
      replace hU := hU.trans hw94
      replace hP := hP.up hw94
      replace hT := hT.up hw94
      replace hp := hp.up hw94
      replace hq := hq.up hw94
      obtain ⟨b94, a94, n94, c94, rfl⟩ := hr94.shape
      have hV := hr94
      refine wpAnyU_callE (i := 8) (d := some 18) rfl rfl (by kernel_rfl) (by rfl) hSu.out (fun w' => by go_simp) (fun w' hw' => div_big (hT.up hw') (hV.up hw') hs h2y) (fun v95 w95 hw95 hr95 => ?_)
      try simp only [Act.put, pu1, pu2, pu3]
      replace hU := hU.trans hw95
      replace hP := hP.up hw95
      replace hT := hT.up hw95
      replace hV := hV.up hw95
      replace hp := hp.up hw95
      replace hq := hq.up hw95
      obtain ⟨b95, a95, n95, c95, d95, e95, f95, g95, rfl, hQ, hR⟩ := hr95
      refine tkP 9 (some 9) hSu ?_
      refine tkP 10 (some 19) hSu ?_
      refine tkP 11 (some 20) hSu ?_
      refine wpAnyU_one (i := 14) rfl (by kernel_rfl) (by rfl) fun s1 hs1 => ?_
      have k1 := hp.up hs1
      refine wp_stB rfl rfl rfl rfl k1 rfl rfl (one2 _ _ _ _) ?_
      refine ⟨fun h => by simp at h, ?_⟩
      try simp only [Act.put, pu1]
      refine wpAnyU_one (i := 15) rfl (by kernel_rfl) (by rfl) fun s2 hs2 => ?_
      have k2 := ((hq.up hs1).row_other _ (show q' ≠ p' by omega)).up hs2
      refine wp_stB rfl rfl rfl rfl k2 rfl rfl (one2 _ _ _ _) ?_
      refine ⟨fun h => by simp at h, ?_⟩
      try simp only [Act.put, pu1]
      refine wpAnyU_done (by kernel_rfl) (fun wF huE => ?_) _
      go_wp2
      go_meet
      case rel => exact leaf4 hSB hS1 (hU.trans hs1) k1 hs2 k2 huE (hQ.up hs1) (hR.up hs1) (by omega) (by omega) (by omega)
    ·try simp only [Act.put, pu1, pu2, pu3]
     replace hU := hU.trans hw87
     replace hP := hP.up hw87
     replace hq := hq.up hw87
     have ha87 := Up.alloc w87 (.cells #[.bool false, .slice none 0 0] 44)
     have hp_le : wS.heap.size <= w87.heap.size := hU.size
     have hne := hq.lt
     replace hU := hU.trans ha87
     replace hP := hP.up ha87
     replace hq := hq.up ha87
     have hp : Blk _ w87.heap.size 44 #[.bool false, .slice none 0 0] := blk_new (w := w87) rfl
     generalize ep : w87.heap.size = p' at hp hp_le hne ⊢
     refine wpAnyU_callE (i := 4) (d := some 14) rfl rfl (by kernel_rfl) (by rfl) hSu.out (fun w' => by go_simp) (fun w' hw' => add_big (hP.up hw') (hB.out.up (below_up hSB (hU.trans hw'))) h2x hy1) (fun v97 w97 hw97 hr97 => ?_)
     try simp only [Act.put, pu1, pu2, pu3]
     replace hU := hU.trans hw97
     replace hP := hP.up hw97
     replace hp := hp.up hw97
     replace hq := hq.up hw97
     obtain ⟨b97, a97, n97, c97, rfl⟩ := hr97.shape
     have hT := hr97
     refine wpAnyU_callE (i := 7) (d := some 17) rfl rfl (by kernel_rfl) (by rfl) hSu.out (fun w' => by go_simp) (fun w' hw' => mul_big (hS5.up (hU.trans hw')) (hB.out.up (below_up hSB (hU.trans hw'))) nTwo hy1) (fun v98 w98 hw98 hr98 => ?_)
     try simp only [Act.put, pu1, pu2, pu3]
     replace hU := hU.trans hw98
     replace hP := hP.up hw98
     replace hT := hT.up hw98
     replace hp := hp.up hw98
     replace hq := hq.up hw98
     obtain ⟨b98, a98, n98, c98, rfl⟩ := hr98.shape
     have hV := hr98
     refine wpAnyU_callE (i := 8) (d := some 18) rfl rfl (by kernel_rfl) (by rfl) hSu.out (fun w' => by go_simp) (fun w' hw' => div_big (hT.up hw') (hV.up hw') hs h2y) (fun v99 w99 hw99 hr99 => ?_)
     try simp only [Act.put, pu1, pu2, pu3]
     replace hU := hU.trans hw99
     replace hP := hP.up hw99
     replace hT := hT.up hw99
     replace hV := hV.up hw99
     replace hp := hp.up hw99
     replace hq := hq.up hw99
     obtain ⟨b99, a99, n99, c99, d99, e99, f99, g99, rfl, hQ, hR⟩ := hr99
     refine tkP 9 (some 9) hSu ?_
     refine tkP 10 (some 19) hSu ?_
     refine tkP 11 (some 20) hSu ?_
     refine wpAnyU_one (i := 14) rfl (by kernel_rfl) (by rfl) fun s1 hs1 => ?_
     have k1 := hp.up hs1
     refine wp_stB rfl rfl rfl rfl k1 rfl rfl (one2 _ _ _ _) ?_
     refine ⟨fun h => by simp at h, ?_⟩
     try simp only [Act.put, pu1]
     refine wpAnyU_one (i := 15) rfl (by kernel_rfl) (by rfl) fun s2 hs2 => ?_
     have k2 := ((hq.up hs1).row_other _ (show q' ≠ p' by omega)).up hs2
     refine wp_stB rfl rfl rfl rfl k2 rfl rfl (one2 _ _ _ _) ?_
     refine ⟨fun h => by simp at h, ?_⟩
     try simp only [Act.put, pu1]
     refine wpAnyU_done (by kernel_rfl) (fun wF huE => ?_) _
     go_wp2
     go_meet
     case rel => exact leaf4 hSB hS1 (hU.trans hs1) k1 hs2 k2 huE (hQ.up hs1) (hR.up hs1) (by omega) (by omega) (by omega)
   ·try simp only [Act.put, pu1, pu2, pu3]
    replace hU := hU.trans hw86
    replace hq := hq.up hw86
    have ha86 := Up.alloc w86 (.cells #[.bool false, .slice none 0 0] 44)
    have hp_le : wS.heap.size <= w86.heap.size := hU.size
    have hne := hq.lt
    replace hU := hU.trans ha86
    replace hq := hq.up ha86
    have hp : Blk _ w86.heap.size 44 #[.bool false, .slice none 0 0] := blk_new (w := w86) rfl
    generalize ep : w86.heap.size = p' at hp hp_le hne ⊢
    refine wpAnyU_callE (i := 2) (d := some 12) rfl rfl (by kernel_rfl) (by rfl) hSu.out (fun w' => by go_simp) (fun w' hw' => mul_big (hS5.up (hU.trans hw')) (hA.out.up (below_up hSB (hU.trans hw'))) nTwo hx1) (fun v101 w101 hw101 hr101 => ?_)
    try simp only [Act.put, pu1, pu2, pu3]
    replace hU := hU.trans hw101
    replace hp := hp.up hw101
    replace hq := hq.up hw101
    obtain ⟨b101, a101, n101, c101, rfl⟩ := hr101.shape
    have hP := hr101
    refine wpAnyU_callE (i := 4) (d := some 14) rfl rfl (by kernel_rfl) (by rfl) hSu.out (fun w' => by go_simp) (fun w' hw' => add_big (hP.up hw') (hB.out.up (below_up hSB (hU.trans hw'))) h2x hy1) (fun v102 w102 hw102 hr102 => ?_)
    try simp only [Act.put, pu1, pu2, pu3]
    replace hU := hU.trans hw102
    replace hP := hP.up hw102
    replace hp := hp.up hw102
    replace hq := hq.up hw102
    obtain ⟨b102, a102, n102, c102, rfl⟩ := hr102.shape
    have hT := hr102
    refine wpAnyU_callE (i := 7) (d := some 17) rfl rfl (by kernel_rfl) (by rfl) hSu.out (fun w' => by go_simp) (fun w' hw' => mul_big (hS5.up (hU.trans hw')) (hB.out.up (below_up hSB (hU.trans hw'))) nTwo hy1) (fun v103 w103 hw103 hr103 => ?_)
    try simp only [Act.put, pu1, pu2, pu3]
    replace hU := hU.trans hw103
    replace hP := hP.up hw103
    replace hT := hT.up hw103
    replace hp := hp.up hw103
    replace hq := hq.up hw103
    obtain ⟨b103, a103, n103, c103, rfl⟩ := hr103.shape
    have hV := hr103
    refine wpAnyU_callE (i := 8) (d := some 18) rfl rfl (by kernel_rfl) (by rfl) hSu.out (fun w' => by go_simp) (fun w' hw' => div_big (hT.up hw') (hV.up hw') hs h2y) (fun v104 w104 hw104 hr104 => ?_)
    try simp only [Act.put, pu1, pu2, pu3]
    replace hU := hU.trans hw104
    replace hP := hP.up hw104
    replace hT := hT.up hw104
    replace hV := hV.up hw104
    replace hp := hp.up hw104
    replace hq := hq.up hw104
    obtain ⟨b104, a104, n104, c104, d104, e104, f104, g104, rfl, hQ, hR⟩ := hr104
    refine tkP 9 (some 9) hSu ?_
    refine tkP 10 (some 19) hSu ?_
    refine tkP 11 (some 20) hSu ?_
    refine wpAnyU_one (i := 14) rfl (by kernel_rfl) (by rfl) fun s1 hs1 => ?_
    have k1 := hp.up hs1
    refine wp_stB rfl rfl rfl rfl k1 rfl rfl (one2 _ _ _ _) ?_
    refine ⟨fun h => by simp at h, ?_⟩
    try simp only [Act.put, pu1]
    refine wpAnyU_one (i := 15) rfl (by kernel_rfl) (by rfl) fun s2 hs2 => ?_
    have k2 := ((hq.up hs1).row_other _ (show q' ≠ p' by omega)).up hs2
    refine wp_stB rfl rfl rfl rfl k2 rfl rfl (one2 _ _ _ _) ?_
    refine ⟨fun h => by simp at h, ?_⟩
    try simp only [Act.put, pu1]
    refine wpAnyU_done (by kernel_rfl) (fun wF huE => ?_) _
    go_wp2
    go_meet
    case rel => exact leaf4 hSB hS1 (hU.trans hs1) k1 hs2 k2 huE (hQ.up hs1) (hR.up hs1) (by omega) (by omega) (by omega)
 case rest =>
  obtain ⟨p', q', b4, a4, n4, c4, b5, a5, n5, c5, rfl, rfl, hKp, hKq, hQ, hR, hK4, hp4, hq4, hBel⟩ := hcut
  obtain ⟨sg, hsg⟩ : ∃ sg, decide (bsign b5 n5 < 0) = sg := ⟨_, rfl⟩
  have hval : (2 * x + y) / (2 * y) = if sg = true then (2 * x + y).tdiv (2 * y) - 1 else (2 * x + y).tdiv (2 * y) := by
   have h1 := HFl.out
   obtain ⟨a', c', he, -⟩ := hR
   obtain ⟨rfl, rfl, rfl, rfl⟩ : b5 = decide ((2 * x + y).tmod (2 * y) < 0) /\ a5 = a' /\ n5 = nl ((2 * x + y).tmod (2 * y)).natAbs /\ c5 = c' := by simpa using he
   rw [sgn_big] at hsg
   rw [h1, <- hsg]
   have : (sgn ((2 * x + y).tmod (2 * y)) < 0) ↔ ((2 * x + y).tmod (2 * y) < 0) := by
    unfold sgn
    split
    ·simp [*]
    ·split <;> simp [*]
   simp only [decide_eq_true_eq, this]
  have hqb : nl ((2 * x + y).tdiv (2 * y)).natAbs < 50000 := by
   have h1 : ((2 * x + y).tdiv (2 * y)).natAbs <= (2 * x + y).natAbs := by rw [Int.natAbs_tdiv]; exact Nat.div_le_self _ _
   have h2 := nl_le (Nat.lt_of_le_of_lt h1 (lt_bp_nl _))
   omega
  have HO1 := hid (fun w => of_big 1 (by decide) (by decide) w)
  have hneq : p' ≠ w.heap.size + 1 + 1 := by omega
  clear hR
  cases sg with
  | true =>
    rw [if_pos rfl] at hval
    have HV := hid hval
    clear hval
    go_wp2_with (first | ((with_reducible apply ldB_P); exact rfl; exact rfl; exact gBlk; exact rfl) | (go_at_call 63; (with_reducible refine (bsign_any _ _ _ _ _).mono ?_); rintro e wG ⟨rfl, huG⟩))
    refine opU (S := (fun wq => Blk wq (w.heap.size + 1 + 1) 44 #[.bool false, .slice none 0 0] /\ Blk wq p' 44 #[.bool b4, .slice a4 n4 c4] /\ Big wq (.agg #[.bool b4, .slice a4 n4 c4]) ((2 * x + y).tdiv (2 * y)) /\ Below w.heap.size w wq)) (req := (fun j => j != 3)) (fun _ _ h hu => ⟨(h.1).up hu, (h.2.1).up hu, (h.2.2.1).up hu, below_up (h.2.2.2) hu⟩) ⟨gBlk, gBlk, (by (repeat (first | assumption | ((with_reducible apply big_set); exact gBlk) | (with_reducible apply big_alloc) | ((with_reducible apply big_up); assumption))); done), gUp⟩ (fun wS hSS hSu => ?_)
    have ⟨hS1, hS2, hS3, hSB⟩ := hSS
    refine tkT 0 (some 24) rfl hSu hSS ?_ (hy := fun w' hSw => run_ldB rfl rfl hSw.2.1 rfl)
    refine wpAnyU_callE (i := 1) (d := (some 25)) rfl rfl (by kernel_rfl) (by rfl) hSu.out (fun w' => by go_simp) (fun w' hw' => HO1.out w') fun vO wO hwO hRO => ?_
    try simp only [Act.put, pu1, pu2, pu3]
    obtain ⟨b6, a6, n6, c6, rfl⟩ := hRO.shape
    refine wpAnyU_callE (i := 2) (d := (some 26)) rfl rfl (by kernel_rfl) (by rfl) hSu.out (fun w' => by go_simp) (fun w' hw' => sub_big ((hS3.up hwO).up hw') (hRO.up hw') hqb nOne) fun vD wD hwD hRD => ?_
    try simp only [Act.put, pu1, pu2, pu3]
    obtain ⟨b7, a7, n7, c7, rfl⟩ := hRD.shape
    refine wpAnyU_one (i := 3) rfl (by kernel_rfl) (by rfl) fun s1 hs1 => ?_
    have k1 := ((hS1.up hwO).up hwD).up hs1
    refine wp_stB rfl rfl rfl rfl k1 rfl rfl (one2 _ _ _ _) ?_
    refine ⟨fun h => by simp at h, ?_⟩
    try simp only [Act.put, pu1]
    refine wpAnyU_done (by kernel_rfl) (fun wF huE => ?_) _
    have gR := (k1.setRow #[.bool b7, .slice a7 n7 c7]).up huE
    have gA := ((hRD.up hs1).setRow (D := #[.bool b7, .slice a7 n7 c7]) k1).up huE
    have gB := below_up (below_setRow (below_up (below_up (below_up hSB hwO) hwD) hs1) (show w.heap.size <= w.heap.size + 1 + 1 by omega) #[.bool b7, .slice a7 n7 c7]) huE
    clear k1 hRD hRO hwO hwD hs1 huE hS1 hS2 hS3 hSB hSS
    go_wp2
    exact bodyPost_ret (resB rfl rfl gR rfl) rfl ⟨gB, _, rfl, by rw [HV.out]; exact gA⟩
  | false =>
    rw [if_neg (by decide)] at hval
    have HV := hid hval
    clear hval
    go_wp2_with (first | ((with_reducible apply ldB_P); exact rfl; exact rfl; exact gBlk; exact rfl) | ((with_reducible apply stB_P); exact rfl; exact rfl; exact gBlk; exact rfl; exact rfl; exact one2 _ _ _ _) | (go_at_call 63; (with_reducible refine (bsign_any _ _ _ _ _).mono ?_); rintro e wG ⟨rfl, huG⟩))
    have kK : Blk wG (w.heap.size + 1 + 1) 44 #[.bool false, .slice none 0 0] := hK4.up huG
    exact bodyPost_ret (resB rfl rfl (kK.setRow _) rfl) rfl ⟨below_setRow (below_up hBel huG) (by omega) _, _, rfl, by rw [HV.out]; exact (hQ.up huG).setRow kK⟩
set_option maxHeartbeats 1000000 in
theorem muldiv_big (a b c : Int) (a1 : -9223372036854775808 <= a) (a2 : a < 9223372036854775808) (b1 : -9223372036854775808 <= b) (b2 : b < 9223372036854775808) (c1 : -9223372036854775808 <= c) (c2 : c < 9223372036854775808) (w : World) :
   Calls Tryz.prog 24 #[.int .i64 a, .int .i64 b, .int .i64 c] w fun e w' => e = .returned (nearV a b c) /\ Up w w' := by
 by_cases h0 : 0 < c
 ·have hn : nearV a b c = i64V ((2 * (a * b) + c) / (2 * c)) := by unfold nearV; rw [if_pos h0]
  have hp := prod_small a1 a2 b1 b2
  have na := small_nl a1 (by omega)
  have nb := small_nl b1 (by omega)
  have nc := small_nl c1 (by omega)
  have np := small_nl2 hp.1 hp.2
  have n3 : ∀ z : Int, -170141183460469231731687303715884105729 - 9223372036854775808 <= z -> z <= 170141183460469231731687303715884105728 + 9223372036854775808 -> nl z.natAbs < 50000 := fun z h1 h2 => by
   have := nl_le (x := z.natAbs) (k := 2) (by rw [bp_succ, bp_succ, bp_zero]; omega)
   omega
  have n2p : nl (2 * (a * b)).natAbs < 50000 := n3 _ (by omega) (by omega)
  have ns : nl (2 * (a * b) + c).natAbs < 50000 := n3 _ (by omega) (by omega)
  have n2c : nl (2 * c).natAbs = 1 := by
   have h1 := nl_le (x := (2 * c).natAbs) (k := 1) (by rw [bp_succ, bp_zero]; omega)
   have h2 := nl_pos (x := (2 * c).natAbs) (by omega)
   omega
  have nq : nl ((2 * (a * b) + c) / (2 * c)).natAbs < 50000 := by
   have h1 : ((2 * (a * b) + c) / (2 * c)).natAbs <= (2 * (a * b) + c).natAbs + 1 := by
    have e1 := Int.ediv_mul_add_emod (2 * (a * b) + c) (2 * c)
    have e2 := Int.emod_nonneg (2 * (a * b) + c) (show 2 * c ≠ 0 by omega)
    have e3 := Int.emod_lt_of_pos (2 * (a * b) + c) (show 0 < 2 * c by omega)
    generalize (2 * (a * b) + c) / (2 * c) = q at *
    generalize (2 * (a * b) + c) % (2 * c) = r at *
    generalize 2 * (a * b) + c = s at *
    rcases Int.lt_or_le q 0 with hq | hq
    ·have h7 : (q + 1) * (2 * c) <= (q + 1) * 1 := Int.mul_le_mul_of_nonpos_left (by omega) (by omega)
     rw [Int.add_mul, Int.one_mul] at h7
     omega
    ·have h6 : q * 1 <= q * (2 * c) := Int.mul_le_mul_of_nonneg_left (by omega) (by omega)
     omega
   have := nl_le (x := ((2 * (a * b) + c) / (2 * c)).natAbs) (k := 3) (by rw [bp_succ, bp_succ, bp_succ, bp_zero]; omega)
   omega
  have HOA := hid (fun w => of_big a a1 a2 w)
  have HOB := hid (fun w => of_big b b1 b2 w)
  have HOC := hid (fun w => of_big c c1 c2 w)
  have d0 : decide (c < 1) = false := decide_eq_false (by omega)
  rw [hn]
  obtain ⟨z, ok, hz⟩ : ∃ z ok, i64V ((2 * (a * b) + c) / (2 * c)) = .tuple #[.int .i64 z, .bool ok] := ⟨_, _, rfl⟩
  rw [hz]
  have HZ := hid hz
  clear hp hn n3 hz a1 a2 b1 b2 c1 c2
  go_enter Tryz.func24, Tryz.ntmps24
  go_wp2_with (first | (go_at_call 19; (first | ((with_reducible refine (HOA.out _).mono ?_); rintro e w1 ⟨hu1, u, rfl, hBA⟩; obtain ⟨q1, z1, n1, k1, rfl⟩ := hBA.shape) | ((with_reducible refine (HOB.out _).mono ?_); rintro e w2 ⟨hu2, u, rfl, hBB⟩; obtain ⟨q2, z2, n2, k2, rfl⟩ := hBB.shape) | ((with_reducible refine (HOC.out _).mono ?_); rintro e w3 ⟨hu3, u, rfl, hBC⟩; obtain ⟨q3, z3, n3, k3, rfl⟩ := hBC.shape))) | (go_at_call 41; ((with_reducible refine (mul_big (x := a) (y := b) ?_ ?_ na nb).mono ?_); (focus ((repeat (first | assumption | ((with_reducible apply big_set); exact gBlk) | (with_reducible apply big_alloc) | ((with_reducible apply big_up); assumption))); done)); (focus ((repeat (first | assumption | ((with_reducible apply big_set); exact gBlk) | (with_reducible apply big_alloc) | ((with_reducible apply big_up); assumption))); done))); rintro e w4 ⟨hu4, u, rfl, hBP⟩; obtain ⟨q4, z4, n4, k4, rfl⟩ := hBP.shape) | (go_at_call 40; ((with_reducible refine (round_big (x := a * b) (y := c) ?_ ?_ h0 np nc n2p ns n2c).mono ?_); (focus ((repeat (first | assumption | ((with_reducible apply big_set); exact gBlk) | (with_reducible apply big_alloc) | ((with_reducible apply big_up); assumption))); done)); (focus ((repeat (first | assumption | ((with_reducible apply big_set); exact gBlk) | (with_reducible apply big_alloc) | ((with_reducible apply big_up); assumption))); done))); rintro e w5 ⟨hu5, u, rfl, hBR⟩; obtain ⟨q5, z5, n5, k5, rfl⟩ := hBR.shape) | (go_at_call 39; (with_reducible refine (int64_big hBR nq).mono ?_); rintro e w6 ⟨rfl, hu6⟩; rw [HZ.out]))
  go_ret2
  exact ⟨rfl, gUp⟩
 ·have hn : nearV a b c = .tuple #[.int .i64 0, .bool false] := by unfold nearV; rw [if_neg h0]
  have d0 : decide (c < 1) = true := decide_eq_true (by omega)
  rw [hn]
  clear hn
  go_enter Tryz.func24, Tryz.ntmps24
  go_wp2
  go_ret2
  exact ⟨rfl, gUp⟩
theorem op_shl1 {P : Program} {o : Oper} {a : Act} {x y : Operand} {t u : TypeId} (ho : o.op = .binOp .shl t x y u) {s : Nat} (hx : a.eval x = .int .u64 1) (hy : a.eval y = .int .i64 (s : Nat)) (hs : s < 64) (w : World) :
   (execOp a.eval o).run P w = .ok (.value (.int .u64 ((2 ^ s : Nat) : Int))) w := by
 have h1 : 2 ^ s < 2 ^ 64 := Nat.pow_lt_pow_right (by decide) hs
 have e : IntKind.u64.wrap ((1 : Int) * 2 ^ s) = ((2 ^ s : Nat) : Int) := by
  rw [IntKind.wrap_u64, Int.one_mul, show (2 : Int) ^ s = ((2 ^ s : Nat) : Int) by simp]
  generalize 2 ^ s = q at *
  omega
 unfold execOp
 simp only [ho, hx, hy, eqGuard, binOp, shift_shl .u64 .i64 (1 : Int) (s : Int) (by omega) (show (s : Int) <= 64 by omega)]
 simpa using e
theorem shl1P {P : Program} {t u : TypeId} {ops : Array Oper} {rest : List Oper} {Q : Exit -> Act -> World -> Prop} {a : Act} {w : World} {d : Option Tmp} {x y : Operand} {ty : TypeId} {pos : String} {af : Array Edge} {gd : Option (Nat × Bool)} {s : Nat}
   (hw : Region.wanted { dst := d, op := .binOp .shl t x y u, type := ty, pos := pos, after := af, guard := gd } (yielded ops a.tmps) = true) (hx : a.eval x = .int .u64 1) (hy : a.eval y = .int .i64 (s : Nat)) (hs : s < 64)
   (h : wpList P ops Q rest (a.put d (.int .u64 ((2 ^ s : Nat) : Int))) w) : wpList P ops Q ({ dst := d, op := .binOp .shl t x y u, type := ty, pos := pos, after := af, guard := gd } :: rest) a w := wpList_run hw (op_shl1 rfl hx hy hs w) h
structure RootUp (N m r : Nat) : Prop where
 out : (∃ t, r = 2 ^ m * t) /\ r + 2 ^ m <= 18446744073709551616 /\ r * r <= N /\ N < (r + 2 ^ m) * (r + 2 ^ m)
theorem up_start {N : Nat} (h : N < 340282366920938463463374607431768211456) : RootUp N 64 0 := ⟨⟨0, by omega⟩, by decide, by omega, by
 rw [Nat.zero_add, show (2 : Nat) ^ 64 * 2 ^ 64 = 340282366920938463463374607431768211456 from rfl]; exact h⟩
theorem up_next {N k r : Nat} (h : RootUp N (k + 1) r) : (r ||| 2 ^ k) = r + 2 ^ k /\ r + 2 ^ k < 18446744073709551616 /\ r < 18446744073709551616 /\ 2 ^ k < 18446744073709551616 /\ 0 < 2 ^ k /\
   ((r + 2 ^ k) * (r + 2 ^ k) <= N -> RootUp N k (r + 2 ^ k)) /\ (¬ (r + 2 ^ k) * (r + 2 ^ k) <= N -> RootUp N k r) := by
 obtain ⟨⟨t, ht⟩, h2, h3, h4⟩ := h.out
 have hp := Nat.two_pow_pos k
 have e := Nat.pow_succ 2 k
 have hor : (r ||| 2 ^ k) = r + 2 ^ k := by rw [ht]; exact or_add (by rw [e]; omega)
 rw [e] at h2 h4 ht
 refine ⟨hor, by omega, by omega, by omega, hp, fun hc => ⟨⟨2 * t + 1, by rw [ht]; grind⟩, by omega, hc, ?_⟩, fun hc => ⟨⟨2 * t, by rw [ht]; grind⟩, by omega, h3, by omega⟩⟩
 rw [show r + 2 ^ k + 2 ^ k = r + 2 ^ k * 2 by omega]
 exact h4
theorem up_end {N r : Nat} (h : RootUp N 0 r) : r * r <= N /\ N < (r + 1) * (r + 1) := ⟨h.out.2.2.1, h.out.2.2.2⟩
set_option maxHeartbeats 2000000 in
theorem rooted_big {N r : Nat} {v : Value} {w : World} (h : Big w v (N : Nat)) (hN : N < 340282366920938463463374607431768211456) (h1 : r * r <= N) (h2 : N < (r + 1) * (r + 1)) :
   Calls Tryz.prog 18 #[v] w fun e w' => e = .returned (.int .u64 (r : Nat)) /\ Up w w' := by
 obtain ⟨a, c, rfl, hA⟩ := h
 rw [Int.natAbs_natCast] at hA ⊢
 have hn : nl N < 100000 := by have := nl_le (x := N) (k := 2) (by rw [bp_succ, bp_succ, bp_zero]; omega); omega
 have H0 := hid (up_start hN)
 have HR1 := hid h1
 have HR2 := hid h2
 have HA := hid hA
 rw [show decide (((N : Nat) : Int) < 0) = false from decide_eq_false (by omega)]
 clear hA h1 h2 hN
 go_enter Tryz.func18, Tryz.ntmps18
 go_wp2
 go_loopw [3, 4] (fun tr ts wr => ∃ (m q : Nat), m <= 64 /\ tr = .int .u64 (q : Nat) /\ ts = .int .i64 ((m : Int) - 1) /\ RootUp N m q /\ Blk wr w.heap.size 44 #[.bool false, .slice a (nl N) c] /\ Below w.heap.size w wr)
  (fun _ ts _ => (intOf ts + 1).toNat)
 case atStart => exact ⟨64, 0, by omega, rfl, rfl, H0.out, gBlk, gUp⟩
 case round =>
  obtain ⟨m, q, hm, rfl, rfl, hup, hK, hB⟩ := hrel
  have HUP := hid hup
  by_cases hlt : 0 < m
  ·obtain ⟨k, rfl⟩ : ∃ k, m = k + 1 := ⟨m - 1, by omega⟩
   have e : (((k + 1 : Nat) : Int) - 1) = (k : Int) := by omega
   rw [e]
   clear e
   obtain ⟨hor, b1, b2, b3, b4, hy, hno⟩ := up_next hup
   have hk64 : k < 64 := by omega
   obtain ⟨cc, hcc⟩ : ∃ cc, 2 ^ k = cc := ⟨_, rfl⟩
   rw [hcc] at hor b1 b3 b4 hy hno
   obtain ⟨x, hx⟩ : ∃ x, q + cc = x := ⟨_, rfl⟩
   rw [hx] at hor b1 hy hno
   have HOR := hid hor
   have HCC := hid hcc
   have hx0 : 0 < x := by omega
   clear hor hcc hup hx
   go_wp2_with (first | ((with_reducible apply shl1P); exact rfl; exact rfl; exact rfl; exact hk64; rw [HCC.out]) | ((with_reducible apply orNP); exact rfl; exact rfl; exact rfl; exact b2; exact b3; rw [HOR.out]))
   have hAx := fun w' b (hR : Row w' b 40 1 (fun _ => x)) => am_one b1 hx0 hR
   have hrow : Row (wr.alloc (Obj.cells #[Value.int IntKind.u64 (x : Nat)] 40)) wr.heap.size 40 1 (fun _ => x) := row_one rfl
   have hAx1 := (hAx _ _ hrow).1
   have hn1 := (hAx _ _ hrow).2
   have hcx := hrow.cell 0 (by decide)
   have hc1 := (blk_alloc (o := Obj.cells #[Value.int IntKind.u64 (x : Nat)] 40) hK).cell 1 rfl
   have hszr := hB.size
   have hnx : nl (x * x) < 1000000 := by
    have hxx : x * x <= 18446744073709551615 * 18446744073709551615 := Nat.mul_le_mul (by omega) (by omega)
    have := nl_le (x := x * x) (k := 2) (by rw [bp_succ, bp_succ, bp_zero]; omega)
    omega
   refine opU (S := (fun wq => Am wq (.slice (some ⟨wr.heap.size, 0, none⟩) 1 1) x /\ Blk wq w.heap.size 44 #[.bool false, .slice a (nl N) c] /\ wq.cell? ⟨w.heap.size, 1, none⟩ = some (.slice a (nl N) c) /\ wq.cell? ⟨wr.heap.size, 0, none⟩ = some (.int .u64 (x : Nat)) /\ Below w.heap.size w wq)) (req := (fun _ => true)) (fun _ _ h hu => ⟨(h.1).up hu, (h.2.1).up hu, hu.cell (h.2.2.1), hu.cell (h.2.2.2.1), below_up (h.2.2.2.2) hu⟩) ⟨(by (repeat (first | assumption | ((with_reducible apply am_set); exact gBlk) | (with_reducible apply am_alloc) | ((with_reducible apply am_up); assumption))); done), gBlk, (by first | assumption | (apply Blk.cell; exact gBlk; exact rfl)), (by first | assumption | (apply Blk.cell; exact gBlk; exact rfl)), gUp⟩ (fun wS hSS hSu => ?_)
   have ⟨hS1, hS2, hS3, hS4, hSB⟩ := hSS
   clear hcx hc1 hAx1 hAx hrow hK
   refine tkP 0 (some 15) hSu ?_
   refine tkP 1 (some 16) hSu ?_
   refine tkP 3 (some 18) hSu ?_
   refine tkT 4 (some 19) rfl hSu hSS ?_ (hy := fun w' hSw => by ((try dsimp only at hSw); (try obtain ⟨_, _, _, _, _⟩ := hSw); go_simp; (try exact rfl)))
   refine wpAnyU_callE (i := 2) (d := (some 17)) rfl rfl (by kernel_rfl) (by rfl) hSu.out (fun w' => by go_simp) (fun w' hw' => times_am (hS1.up hw') (hS1.up hw') (by omega) (by omega)) fun vP wP hwP hRP => ?_
   try simp only [Act.put, pu1, pu2, pu3]
   obtain ⟨a1, c1, rfl⟩ := hRP.shape
   refine wpAnyU_callE (i := 5) (d := (some 20)) rfl rfl (by kernel_rfl) (by rfl) hSu.out (fun w' => by go_simp) (fun w' hw' => callE_of (cmp_am (hRP.up hw') (HA.out.up (below_up (below_up hSB hwP) hw')) hnx (by omega))) fun vT wT hwT hRT => ?_
   try simp only [Act.put, pu1, pu2, pu3]
   subst hRT
   obtain ⟨o, ho⟩ : ∃ o : Bool, decide (ordZ (x * x) N <= 0) = o := ⟨_, rfl⟩
   refine tkP 6 (some 21) hSu ?_
   refine wpAnyU_done (by kernel_rfl) (fun wF huE => ?_) _
   have gU := (hwP.trans hwT).trans huE
   have gK := hS2.up gU
   have gc := gU.cell hS4
   have gB := below_up hSB gU
   clear hS1 hS2 hS3 hS4 hSB hSS hwP hwT huE gU hRP
   by_cases hc : x * x <= N
   ·have HNX := hid (hy hc)
    obtain rfl : o = true := by
     rw [<- ho]
     unfold ordZ
     split
     ·rfl
     ·rw [if_neg (by omega)]; rfl
    clear hy hno hc ho
    go_wp2
    go_roundw
    case rel => exact ⟨k, x, by omega, rfl, by go_num, HNX.out, gK, gB⟩
    case measure => simp [intOf] <;> omega
   ·have HNX := hid (hno hc)
    obtain rfl : o = false := by
     rw [<- ho]
     unfold ordZ
     rw [if_neg (by omega), if_pos (by omega)]
     rfl
    clear hy hno hc ho
    go_wp2
    go_roundw
    case rel => exact ⟨k, q, by omega, rfl, by go_num, HNX.out, gK, gB⟩
    case measure => simp [intOf] <;> omega
  ·obtain rfl : m = 0 := by omega
   obtain ⟨e1, e2⟩ := up_end hup
   have he : q = r := Nat.le_antisymm (root_one e1 HR2.out) (root_one HR1.out e2)
   subst he
   clear e1 e2 hup HUP HR1 HR2
   go_wp2
   go_ret
   exact ⟨rfl, hB⟩
theorem md_any (a b c : Int) (a1 : -9223372036854775808 <= a) (a2 : a < 9223372036854775808) (b1 : -9223372036854775808 <= b) (b2 : b < 9223372036854775808) (c1 : 0 < c) (c2 : c < 9223372036854775808) (p1 : -1000000000000000000 <= a * b) (p2 : a * b <= 1000000000000000000) (w : World) :
   Calls Tryz.prog 15 #[.int .i64 a, .int .i64 b, .int .i64 c] w fun e w' => e = .returned (.int .i64 (nv a b c)) /\ Up w w' := by
 have hb := nv_bound c1 p1 p2
 have H := fun w => muldiv_big a b c a1 a2 b1 b2 (by omega) c2 w
 rw [show nearV a b c = .tuple #[.int .i64 (nv a b c), .bool true] from by unfold nearV; rw [if_pos c1]; exact i64V_yes (by unfold nv at hb; omega)] at H
 have HM := hid H
 obtain ⟨z, hz⟩ : ∃ z, nv a b c = z := ⟨_, rfl⟩
 rw [hz] at HM ⊢
 clear H hb hz a1 a2 b1 b2 c1 c2 p1 p2
 go_enter Tryz.func15, Tryz.ntmps15
 go_wp2_with (first | (go_at_call 24; refine (HM.out _).mono ?_; rintro e w' ⟨rfl, hu⟩))
 go_ret
 exact ⟨rfl, gUp⟩
set_option maxHeartbeats 4000000 in
theorem rspeed_any (t s z : Int) (w : World) : Calls Tryz.prog 6 #[.int .i64 t, .int .i64 s, .int .i64 z] w fun e w' => e = .returned (.tuple #[.int .i64 (spV t s z), .int .i64 (spC t s z)]) /\ Up w w' := by
 have HV : Hid (spV t s z = if spOK t s z then 1449200 + 46 * t - nv (t * t) 55 10000 + nv (t * t * t) 29 100000000 + nv (13400 - t) (s - 3500) 1000 + nv 16 z 1000 else 0) := hid rfl
 have HC : Hid (spC t s z = if spOK t s z then 0 else 27) := hid rfl
 have hO : spOK t s z = decide (-500 <= t /\ t <= 4500 /\ 0 <= s /\ s <= 4500 /\ 0 <= z /\ z <= 1000000) := by unfold spOK btw; simp [Bool.and_assoc]
 rw [hO] at HV HC
 obtain ⟨x, hx⟩ : ∃ x, spV t s z = x := ⟨_, rfl⟩
 obtain ⟨c, hc⟩ : ∃ c, spC t s z = c := ⟨_, rfl⟩
 rw [hx] at HV ⊢
 rw [hc] at HC ⊢
 clear hx hc hO
 by_cases hp : -500 <= t /\ t <= 4500 /\ 0 <= s /\ s <= 4500 /\ 0 <= z /\ z <= 1000000
 ·have hV := HV.out
  rw [decide_eq_true hp, if_pos rfl] at hV
  obtain rfl : c = 0 := by rw [HC.out, decide_eq_true hp]; rfl
  obtain ⟨t1, t2, s1, s2, z1, z2⟩ := hp
  have d1 : decide (t < -500) = false := decide_eq_false (by omega)
  have d2 : decide (4500 < t) = false := decide_eq_false (by omega)
  have d3 : decide (s < 0) = false := decide_eq_false (by omega)
  have d4 : decide (4500 < s) = false := decide_eq_false (by omega)
  have d5 : decide (z < 0) = false := decide_eq_false (by omega)
  have d6 : decide (1000000 < z) = false := decide_eq_false (by omega)
  have q1 := mul_bd (a := t) (b := t) (A := 4500) (B := 4500) (by omega) (by omega) (by omega) (by omega)
  have q2 := mul_bd (a := t * t) (b := t) (A := 20250000) (B := 4500) (by omega) (by omega) (by omega) (by omega)
  have q3 := mul_bd (a := t * t) (b := 55) (A := 20250000) (B := 55) (by omega) (by omega) (by omega) (by omega)
  have q4 := mul_bd (a := t * t * t) (b := 29) (A := 91125000000) (B := 29) (by omega) (by omega) (by omega) (by omega)
  have q5 := mul_bd (a := 13400 - t) (b := s - 3500) (A := 13900) (B := 3500) (by omega) (by omega) (by omega) (by omega)
  have q6 := mul_bd (a := 16) (b := z) (A := 16) (B := 1000000) (by omega) (by omega) (by omega) (by omega)
  have n1 := nv_bound (c := 10000) (M := 1113750000) (by omega) (by omega) (by omega : t * t * 55 <= _)
  have n2 := nv_bound (c := 100000000) (M := 2642625000000) (by omega) (by omega) (by omega : t * t * t * 29 <= _)
  have n3 := nv_bound (c := 1000) (M := 48650000) (by omega) (by omega) (by omega : (13400 - t) * (s - 3500) <= _)
  have n4 := nv_bound (c := 1000) (M := 16000000) (by omega) (by omega) (by omega : 16 * z <= _)
  have HP1 := hid (fun w => md_any (t * t) 55 10000 (by omega) (by omega) (by omega) (by omega) (by omega) (by omega) (by omega) (by omega) w)
  have HP2 := hid (fun w => md_any (t * t * t) 29 100000000 (by omega) (by omega) (by omega) (by omega) (by omega) (by omega) (by omega) (by omega) w)
  have HP3 := hid (fun w => md_any (13400 - t) (s - 3500) 1000 (by omega) (by omega) (by omega) (by omega) (by omega) (by omega) (by omega) (by omega) w)
  have HP4 := hid (fun w => md_any 16 z 1000 (by omega) (by omega) (by omega) (by omega) (by omega) (by omega) (by omega) (by omega) w)
  have e1 : IntKind.i64.wrap (46 * t) = 46 * t := IntWalk.i64_in _ (by omega)
  have e2 : IntKind.i64.wrap (t * t) = t * t := IntWalk.i64_in _ (by omega)
  have e3 : IntKind.i64.wrap (t * t * t) = t * t * t := IntWalk.i64_in _ (by omega)
  have e4 : IntKind.i64.wrap (13400 - t) = 13400 - t := IntWalk.i64_in _ (by omega)
  have e5 : IntKind.i64.wrap (s - 3500) = s - 3500 := IntWalk.i64_in _ (by omega)
  have e6 : IntKind.i64.wrap (1449200 + 46 * t) = 1449200 + 46 * t := IntWalk.i64_in _ (by omega)
  generalize nv (t * t) 55 10000 = N1 at *
  generalize nv (t * t * t) 29 100000000 = N2 at *
  generalize nv (13400 - t) (s - 3500) 1000 = N3 at *
  generalize nv 16 z 1000 = N4 at *
  have f1 : IntKind.i64.wrap (1449200 + 46 * t - N1) = 1449200 + 46 * t - N1 := IntWalk.i64_in _ (by omega)
  have f2 : IntKind.i64.wrap (1449200 + 46 * t - N1 + N2) = 1449200 + 46 * t - N1 + N2 := IntWalk.i64_in _ (by omega)
  have f3 : IntKind.i64.wrap (1449200 + 46 * t - N1 + N2 + N3) = 1449200 + 46 * t - N1 + N2 + N3 := IntWalk.i64_in _ (by omega)
  have f4 : IntKind.i64.wrap (1449200 + 46 * t - N1 + N2 + N3 + N4) = x := by rw [IntWalk.i64_in _ (by omega)]; omega
  clear q1 q2 q3 q4 q5 q6 n1 n2 n3 n4 t1 t2 s1 s2 z1 z2 hV HV HC
  go_enter Tryz.func6, Tryz.ntmps6
  go_wp2_with (first
   | (go_at_call 15; (first | (with_reducible refine (HP1.out _).mono ?_) | (with_reducible refine (HP2.out _).mono ?_) | (with_reducible refine (HP3.out _).mono ?_) | (with_reducible refine (HP4.out _).mono ?_)); rintro e w' ⟨rfl, hu⟩))
  go_ret2
  exact ⟨rfl, gUp⟩
 ·obtain rfl : x = 0 := by rw [HV.out, decide_eq_false hp]; rfl
  obtain rfl : c = 27 := by rw [HC.out, decide_eq_false hp]; rfl
  obtain ⟨a1, h1⟩ : ∃ a, decide (t < -500) = a := ⟨_, rfl⟩
  obtain ⟨a2, h2⟩ : ∃ a, decide (4500 < t) = a := ⟨_, rfl⟩
  obtain ⟨a3, h3⟩ : ∃ a, decide (s < 0) = a := ⟨_, rfl⟩
  obtain ⟨a4, h4⟩ : ∃ a, decide (4500 < s) = a := ⟨_, rfl⟩
  obtain ⟨a5, h5⟩ : ∃ a, decide (z < 0) = a := ⟨_, rfl⟩
  obtain ⟨a6, h6⟩ : ∃ a, decide (1000000 < z) = a := ⟨_, rfl⟩
  have hor : a1 = true \/ (a1 = false /\ a2 = true) \/ (a1 = false /\ a2 = false /\ a3 = true) \/ (a1 = false /\ a2 = false /\ a3 = false /\ a4 = true) \/ (a1 = false /\ a2 = false /\ a3 = false /\ a4 = false /\ a5 = true) \/ (a1 = false /\ a2 = false /\ a3 = false /\ a4 = false /\ a5 = false /\ a6 = true) := by
   rw [<- h1, <- h2, <- h3, <- h4, <- h5, <- h6]
   simp only [decide_eq_true_eq, decide_eq_false_iff_not]
   omega
  clear HV HC hp
  rcases hor with rfl | ⟨rfl, rfl⟩ | ⟨rfl, rfl, rfl⟩ | ⟨rfl, rfl, rfl, rfl⟩ | ⟨rfl, rfl, rfl, rfl, rfl⟩ | ⟨rfl, rfl, rfl, rfl, rfl, rfl⟩
  all_goals
   go_enter Tryz.func6, Tryz.ntmps6
   go_wp2
   go_ret2
   exact ⟨rfl, gUp⟩
set_option maxHeartbeats 4000000 in
theorem rsounded_any (m c : Int) (w : World) : Calls Tryz.prog 8 #[.int .i64 m, .int .i64 c] w fun e w' => e = .returned (.tuple #[.int .i64 (rgV m c), .int .i64 (rgC m c)]) /\ Up w w' := by
 have HV : Hid (rgV m c = if rgOK m c then nv m c 2000000 else 0) := hid rfl
 have HC : Hid (rgC m c = if rgOK m c then 0 else 27) := hid rfl
 have hO : rgOK m c = decide (0 <= m /\ m <= 2000000 /\ 1 <= c /\ c <= 2000000) := by unfold rgOK btw; simp [Bool.and_assoc]
 rw [hO] at HV HC
 obtain ⟨x, hx⟩ : ∃ x, rgV m c = x := ⟨_, rfl⟩
 obtain ⟨n, hn⟩ : ∃ n, rgC m c = n := ⟨_, rfl⟩
 rw [hx] at HV ⊢
 rw [hn] at HC ⊢
 clear hx hn hO
 by_cases hp : 0 <= m /\ m <= 2000000 /\ 1 <= c /\ c <= 2000000
 ·have hV := HV.out
  rw [decide_eq_true hp, if_pos rfl] at hV
  subst hV
  obtain rfl : n = 0 := by rw [HC.out, decide_eq_true hp]; rfl
  obtain ⟨m1, m2, c1, c2⟩ := hp
  have d1 : decide (m < 0) = false := decide_eq_false (by omega)
  have d2 : decide (2000000 < m) = false := decide_eq_false (by omega)
  have d3 : decide (c < 1) = false := decide_eq_false (by omega)
  have d4 : decide (2000000 < c) = false := decide_eq_false (by omega)
  have q1 := mul_bd (a := m) (b := c) (A := 2000000) (B := 2000000) (by omega) (by omega) (by omega) (by omega)
  have HP := hid (fun w => md_any m c 2000000 (by omega) (by omega) (by omega) (by omega) (by omega) (by omega) (by omega) (by omega) w)
  generalize nv m c 2000000 = N1 at *
  clear q1 m1 m2 c1 c2 HV HC
  go_enter Tryz.func8, Tryz.ntmps8
  go_wp2_with (first | (go_at_call 15; (with_reducible refine (HP.out _).mono ?_); rintro e w' ⟨rfl, hu⟩))
  go_ret2
  exact ⟨rfl, gUp⟩
 ·obtain rfl : x = 0 := by rw [HV.out, decide_eq_false hp]; rfl
  obtain rfl : n = 27 := by rw [HC.out, decide_eq_false hp]; rfl
  obtain ⟨a1, h1⟩ : ∃ a, decide (m < 0) = a := ⟨_, rfl⟩
  obtain ⟨a2, h2⟩ : ∃ a, decide (2000000 < m) = a := ⟨_, rfl⟩
  obtain ⟨a3, h3⟩ : ∃ a, decide (c < 1) = a := ⟨_, rfl⟩
  obtain ⟨a4, h4⟩ : ∃ a, decide (2000000 < c) = a := ⟨_, rfl⟩
  have hor : a1 = true \/ (a1 = false /\ a2 = true) \/ (a1 = false /\ a2 = false /\ a3 = true) \/ (a1 = false /\ a2 = false /\ a3 = false /\ a4 = true) := by
   rw [<- h1, <- h2, <- h3, <- h4]
   simp only [decide_eq_true_eq, decide_eq_false_iff_not]
   omega
  clear HV HC hp
  rcases hor with rfl | ⟨rfl, rfl⟩ | ⟨rfl, rfl, rfl⟩ | ⟨rfl, rfl, rfl, rfl⟩
  all_goals
   go_enter Tryz.func8, Tryz.ntmps8
   go_wp2
   go_ret2
   exact ⟨rfl, gUp⟩
set_option maxHeartbeats 4000000 in
theorem rflat_any (r d : Int) (w : World) : Calls Tryz.prog 10 #[.int .i64 r, .int .i64 d] w fun e w' => e = .returned (.tuple #[.int .i64 (flV r d), .int .i64 (flC r d)]) /\ Up w w' := by
 have HV : Hid (flV r d = if flOK r d then ((sq (r.natAbs * r.natAbs - d.natAbs * d.natAbs) : Nat) : Int) else 0) := hid rfl
 have HC : Hid (flC r d = if flOK r d then 0 else 27) := hid rfl
 have hO : flOK r d = decide (0 <= r /\ r <= 2097152 /\ d <= r /\ -r <= d) := by
  unfold flOK btw
  rw [<- Bool.decide_and, <- Bool.decide_and, decide_eq_decide]
  omega
 rw [hO] at HV HC
 obtain ⟨x, hx⟩ : ∃ x, flV r d = x := ⟨_, rfl⟩
 obtain ⟨n, hn⟩ : ∃ n, flC r d = n := ⟨_, rfl⟩
 rw [hx] at HV ⊢
 rw [hn] at HC ⊢
 clear hx hn hO
 by_cases hp : 0 <= r /\ r <= 2097152 /\ d <= r /\ -r <= d
 ·have hV := HV.out
  rw [decide_eq_true hp, if_pos rfl] at hV
  subst hV
  obtain rfl : n = 0 := by rw [HC.out, decide_eq_true hp]; rfl
  obtain ⟨r1, r2, d1, d2⟩ := hp
  have g1 : decide (r < 0) = false := decide_eq_false (by omega)
  have g2 : decide (2097152 < r) = false := decide_eq_false (by omega)
  have g3 : decide (r < d) = false := decide_eq_false (by omega)
  have g4 : decide (d < -r) = false := decide_eq_false (by omega)
  have en : IntKind.i64.wrap (-r) = -r := IntWalk.i64_in _ (by omega)
  have hs := sq_spec (r.natAbs * r.natAbs - d.natAbs * d.natAbs)
  have hRR : r.natAbs * r.natAbs <= 2097152 * 2097152 := Nat.mul_le_mul (by omega) (by omega)
  have hAA : d.natAbs * d.natAbs <= r.natAbs * r.natAbs := Nat.mul_le_mul (by omega) (by omega)
  have hlt := sq_lt (B := 4294967296) hs.1 (by omega)
  have er : r * r = ((r.natAbs * r.natAbs : Nat) : Int) := by rw [Int.natCast_mul, Int.natAbs_mul_self']
  have ed : d * d = ((d.natAbs * d.natAbs : Nat) : Int) := by rw [Int.natCast_mul, Int.natAbs_mul_self']
  have e1 : IntKind.i64.wrap (r * r) = ((r.natAbs * r.natAbs : Nat) : Int) := by rw [IntWalk.i64_in _ (by omega)]; exact er
  have e2 : IntKind.i64.wrap (d * d) = ((d.natAbs * d.natAbs : Nat) : Int) := by rw [IntWalk.i64_in _ (by omega)]; exact ed
  have e3 : IntKind.i64.wrap (((r.natAbs * r.natAbs : Nat) : Int) - ((d.natAbs * d.natAbs : Nat) : Int)) = ((r.natAbs * r.natAbs - d.natAbs * d.natAbs : Nat) : Int) := by rw [IntWalk.i64_in _ (by omega)]; omega
  have e5 : IntKind.i64.wrap ((sq (r.natAbs * r.natAbs - d.natAbs * d.natAbs) : Nat) : Int) = ((sq (r.natAbs * r.natAbs - d.natAbs * d.natAbs) : Nat) : Int) := IntWalk.i64_in _ (by omega)
  clear er ed
  generalize sq (r.natAbs * r.natAbs - d.natAbs * d.natAbs) = Q at *
  clear hlt HV HC r1 r2 d1 d2
  generalize hD : r.natAbs * r.natAbs - d.natAbs * d.natAbs = D at *
  have hDl : D < 9223372036854775808 := by omega
  generalize r.natAbs * r.natAbs = RR at *
  generalize d.natAbs * d.natAbs = AA at *
  have HO := hid (fun w => of_big ((D : Nat) : Int) (by omega) (by omega) w)
  have HR := hid (fun w v (h : Big w v ((D : Nat) : Int)) => rooted_big h (by omega) hs.1 hs.2)
  clear hRR hAA hD hs hDl
  go_enter Tryz.func10, Tryz.ntmps10
  go_wp2_with (first
   | (go_at_call 19; (with_reducible refine (HO.out _).mono ?_); rintro e wO ⟨huO, u, rfl, hBO⟩; obtain ⟨qo, ao, no, co, rfl⟩ := hBO.shape)
   | (go_at_call 18; (with_reducible refine (HR.out _ _ hBO).mono ?_); rintro e w' ⟨rfl, hu⟩))
  go_ret2
  exact ⟨rfl, gUp⟩
 ·obtain rfl : x = 0 := by rw [HV.out, decide_eq_false hp]; rfl
  obtain rfl : n = 27 := by rw [HC.out, decide_eq_false hp]; rfl
  obtain ⟨a1, h1⟩ : ∃ a, decide (r < 0) = a := ⟨_, rfl⟩
  obtain ⟨a2, h2⟩ : ∃ a, decide (2097152 < r) = a := ⟨_, rfl⟩
  obtain ⟨a3, h3⟩ : ∃ a, decide (r < d) = a := ⟨_, rfl⟩
  obtain ⟨a4, h4⟩ : ∃ a, decide (d < -r) = a := ⟨_, rfl⟩
  have en : a1 = false -> a2 = false -> IntKind.i64.wrap (-r) = -r := fun q1 q2 => by
   rw [<- h1] at q1
   rw [<- h2] at q2
   simp only [decide_eq_false_iff_not] at q1 q2
   exact IntWalk.i64_in _ (by omega)
  have hor : a1 = true \/ (a1 = false /\ a2 = true) \/ (a1 = false /\ a2 = false /\ a3 = true) \/ (a1 = false /\ a2 = false /\ a3 = false /\ a4 = true) := by
   rw [<- h1, <- h2, <- h3, <- h4]
   simp only [decide_eq_true_eq, decide_eq_false_iff_not]
   omega
  clear HV HC hp
  rcases hor with rfl | ⟨rfl, rfl⟩ | ⟨rfl, rfl, rfl⟩ | ⟨rfl, rfl, rfl, rfl⟩
  ·clear en
   go_enter Tryz.func10, Tryz.ntmps10
   go_wp2
   go_ret2
   exact ⟨rfl, gUp⟩
  ·clear en
   go_enter Tryz.func10, Tryz.ntmps10
   go_wp2
   go_ret2
   exact ⟨rfl, gUp⟩
  ·clear en
   go_enter Tryz.func10, Tryz.ntmps10
   go_wp2
   go_ret2
   exact ⟨rfl, gUp⟩
  ·have en' := en rfl rfl
   clear en
   go_enter Tryz.func10, Tryz.ntmps10
   go_wp2
   go_ret2
   exact ⟨rfl, gUp⟩
def I6 (x : Int) : Prop := -9223372036854775808 <= x /\ x < 9223372036854775808
theorem I6.rem {x : Int} (h : I6 x) (m : Int) : I6 (x.tmod m) := by
 unfold I6 at *
 have h1 : (x.tmod m).natAbs <= x.natAbs := by rw [Int.natAbs_tmod]; exact Nat.mod_le _ _
 rcases Int.lt_or_le x 0 with h0 | h0
 ·have h2 : x.tmod m <= 0 := by
   have := Int.tmod_nonneg (a := -x) m (by omega)
   rw [Int.neg_tmod] at this
   omega
  omega
 ·have h2 := Int.tmod_nonneg (a := x) m h0
  omega
set_option maxHeartbeats 16000000 in
theorem tells13_w {w : World} (hg : Glob w) {t s z m c r d : Int} (small : Bool) (ht6 : I6 t) (hs6 : I6 s) (hz6 : I6 z) (hm6 : I6 m) (hc6 : I6 c) (hr6 : I6 r) (hd6 : I6 d) :
   Calls Tryz.prog 3 #[.int .i64 t, .int .i64 s, .int .i64 z, .int .i64 m, .int .i64 c, .int .i64 r, .int .i64 d, .bool small] w fun e w' => e = .returned (.bool true) /\ Up w w' := by
 have HK := hid (known13_true hg)
 have HG := hid hg
 clear hg
 cases small
 ·have HSp := hid (fun w => speed_any t s z w)
  have HRs := hid (fun w => rspeed_any t s z w)
  have HRg := hid (fun w => range_any m c w)
  have HRr := hid (fun w => rsounded_any m c w)
  have HFl := hid (fun w => flat_any r d hd6.1 hd6.2 w)
  have HFr := hid (fun w => rflat_any r d w)
  obtain ⟨x1, h1⟩ : ∃ x, spV t s z = x := ⟨_, rfl⟩
  obtain ⟨c1, k1⟩ : ∃ x, spC t s z = x := ⟨_, rfl⟩
  obtain ⟨x2, h2⟩ : ∃ x, rgV m c = x := ⟨_, rfl⟩
  obtain ⟨c2, k2⟩ : ∃ x, rgC m c = x := ⟨_, rfl⟩
  obtain ⟨x3, h3⟩ : ∃ x, flV r d = x := ⟨_, rfl⟩
  obtain ⟨c3, k3⟩ : ∃ x, flC r d = x := ⟨_, rfl⟩
  rw [h1, k1] at HSp HRs
  rw [h2, k2] at HRg HRr
  rw [h3, k3] at HFl HFr
  clear h1 k1 h2 k2 h3 k3 ht6 hs6 hz6 hm6 hc6 hr6 hd6
  go_enter Tryz.func3, Tryz.ntmps3
  go_wp2_with (first
   | (go_at_call 4; (with_reducible refine HK.out.mono ?_); rintro e w0 ⟨rfl, hu0⟩; have hX := hu0)
   | (go_at_call 5; (with_reducible refine (HSp.out _).mono ?_); rintro e w1 ⟨u1, rfl, hu1, he1⟩; replace hX := hX.trans hu1)
   | (go_at_call 6; (with_reducible refine (HRs.out _).mono ?_); rintro e w2 ⟨rfl, hu2⟩; replace hX := hX.trans hu2; replace he1 := he1.up hu2)
   | (go_at_call 7; (with_reducible refine (HRg.out _).mono ?_); rintro e w3 ⟨u3, rfl, hu3, he3⟩; replace hX := hX.trans hu3; replace he1 := he1.up hu3)
   | (go_at_call 8; (with_reducible refine (HRr.out _).mono ?_); rintro e w4 ⟨rfl, hu4⟩; replace hX := hX.trans hu4; replace he1 := he1.up hu4; replace he3 := he3.up hu4)
   | (go_at_call 9; (with_reducible refine (HFl.out _).mono ?_); rintro e w5 ⟨u5, rfl, hu5, he5⟩; replace hX := hX.trans hu5; replace he1 := he1.up hu5; replace he3 := he3.up hu5)
   | (go_at_call 10; (with_reducible refine (HFr.out _).mono ?_); rintro e w6 ⟨rfl, hu6⟩; replace hX := hX.trans hu6; replace he1 := he1.up hu6; replace he3 := he3.up hu6; replace he5 := he5.up hu6)
   | (go_at_call 11; (first | (with_reducible refine (ssays13_any he1 (globUp HG.out hX)).mono ?_) | (with_reducible refine (ssays13_any he3 (globUp HG.out hX)).mono ?_) | (with_reducible refine (ssays13_any he5 (globUp HG.out hX)).mono ?_)); rintro e wn ⟨rfl, hn⟩; replace hX := hX.trans hn; replace he1 := he1.up hn; replace he3 := he3.up hn; replace he5 := he5.up hn))
  go_ret
  exact ⟨rfl, hX⟩
 ·obtain ⟨t', et⟩ : ∃ y, t.tmod 5100 = y := ⟨_, rfl⟩
  have it := ht6.rem 5100
  rw [et] at it
  have gt : IntKind.i64.wrap t' = t' := IntWalk.i64_in _ (by unfold I6 at it; omega)
  obtain ⟨s', es⟩ : ∃ y, s.tmod 4600 = y := ⟨_, rfl⟩
  have is := hs6.rem 4600
  rw [es] at is
  have gs : IntKind.i64.wrap s' = s' := IntWalk.i64_in _ (by unfold I6 at is; omega)
  obtain ⟨z', ez⟩ : ∃ y, z.tmod 1000100 = y := ⟨_, rfl⟩
  have iz := hz6.rem 1000100
  rw [ez] at iz
  have gz : IntKind.i64.wrap z' = z' := IntWalk.i64_in _ (by unfold I6 at iz; omega)
  obtain ⟨m', em⟩ : ∃ y, m.tmod 2000100 = y := ⟨_, rfl⟩
  have im := hm6.rem 2000100
  rw [em] at im
  have gm : IntKind.i64.wrap m' = m' := IntWalk.i64_in _ (by unfold I6 at im; omega)
  obtain ⟨c', ec⟩ : ∃ y, c.tmod 2000100 = y := ⟨_, rfl⟩
  have ic := hc6.rem 2000100
  rw [ec] at ic
  have gc : IntKind.i64.wrap c' = c' := IntWalk.i64_in _ (by unfold I6 at ic; omega)
  obtain ⟨r', er⟩ : ∃ y, r.tmod 2097200 = y := ⟨_, rfl⟩
  have ir := hr6.rem 2097200
  rw [er] at ir
  have gr : IntKind.i64.wrap r' = r' := IntWalk.i64_in _ (by unfold I6 at ir; omega)
  obtain ⟨d', ed⟩ : ∃ y, d.tmod 2097200 = y := ⟨_, rfl⟩
  have id := hd6.rem 2097200
  rw [ed] at id
  have gd : IntKind.i64.wrap d' = d' := IntWalk.i64_in _ (by unfold I6 at id; omega)
  have HSp := hid (fun w => speed_any t' s' z' w)
  have HRs := hid (fun w => rspeed_any t' s' z' w)
  have HRg := hid (fun w => range_any m' c' w)
  have HRr := hid (fun w => rsounded_any m' c' w)
  have HFl := hid (fun w => flat_any r' d' id.1 id.2 w)
  have HFr := hid (fun w => rflat_any r' d' w)
  obtain ⟨x1, h1⟩ : ∃ x, spV t' s' z' = x := ⟨_, rfl⟩
  obtain ⟨c1, k1⟩ : ∃ x, spC t' s' z' = x := ⟨_, rfl⟩
  obtain ⟨x2, h2⟩ : ∃ x, rgV m' c' = x := ⟨_, rfl⟩
  obtain ⟨c2, k2⟩ : ∃ x, rgC m' c' = x := ⟨_, rfl⟩
  obtain ⟨x3, h3⟩ : ∃ x, flV r' d' = x := ⟨_, rfl⟩
  obtain ⟨c3, k3⟩ : ∃ x, flC r' d' = x := ⟨_, rfl⟩
  rw [h1, k1] at HSp HRs
  rw [h2, k2] at HRg HRr
  rw [h3, k3] at HFl HFr
  clear h1 k1 h2 k2 h3 k3 it is iz im ic ir id ht6 hs6 hz6 hm6 hc6 hr6 hd6
  go_enter Tryz.func3, Tryz.ntmps3
  go_wp2_with (first
   | (go_at_call 4; (with_reducible refine HK.out.mono ?_); rintro e w0 ⟨rfl, hu0⟩; have hX := hu0)
   | (go_at_call 5; (with_reducible refine (HSp.out _).mono ?_); rintro e w1 ⟨u1, rfl, hu1, he1⟩; replace hX := hX.trans hu1)
   | (go_at_call 6; (with_reducible refine (HRs.out _).mono ?_); rintro e w2 ⟨rfl, hu2⟩; replace hX := hX.trans hu2; replace he1 := he1.up hu2)
   | (go_at_call 7; (with_reducible refine (HRg.out _).mono ?_); rintro e w3 ⟨u3, rfl, hu3, he3⟩; replace hX := hX.trans hu3; replace he1 := he1.up hu3)
   | (go_at_call 8; (with_reducible refine (HRr.out _).mono ?_); rintro e w4 ⟨rfl, hu4⟩; replace hX := hX.trans hu4; replace he1 := he1.up hu4; replace he3 := he3.up hu4)
   | (go_at_call 9; (with_reducible refine (HFl.out _).mono ?_); rintro e w5 ⟨u5, rfl, hu5, he5⟩; replace hX := hX.trans hu5; replace he1 := he1.up hu5; replace he3 := he3.up hu5)
   | (go_at_call 10; (with_reducible refine (HFr.out _).mono ?_); rintro e w6 ⟨rfl, hu6⟩; replace hX := hX.trans hu6; replace he1 := he1.up hu6; replace he3 := he3.up hu6; replace he5 := he5.up hu6)
   | (go_at_call 11; (first | (with_reducible refine (ssays13_any he1 (globUp HG.out hX)).mono ?_) | (with_reducible refine (ssays13_any he3 (globUp HG.out hX)).mono ?_) | (with_reducible refine (ssays13_any he5 (globUp HG.out hX)).mono ?_)); rintro e wn ⟨rfl, hn⟩; replace hX := hX.trans hn; replace he1 := he1.up hn; replace he3 := he3.up hn; replace he5 := he5.up hn))
  go_ret
  exact ⟨rfl, hX⟩
theorem wf_i6 {x : Int} (h : (Lit.int .i64 x).wf = true) : I6 x := by
 simp [Lit.wf, IntKind.min, IntKind.max, IntKind.signed, IntKind.bits] at h
 unfold I6
 omega
theorem tells13_row {w : World} {a0 a1 a2 a3 a4 a5 a6 : Int} {a7 : Bool} (hg : Glob w) (w0 : (Lit.int .i64 a0).wf = true) (w1 : (Lit.int .i64 a1).wf = true) (w2 : (Lit.int .i64 a2).wf = true) (w3 : (Lit.int .i64 a3).wf = true) (w4 : (Lit.int .i64 a4).wf = true) (w5 : (Lit.int .i64 a5).wf = true) (w6 : (Lit.int .i64 a6).wf = true) :
   Calls Tryz.prog 3 #[.int .i64 a0, .int .i64 a1, .int .i64 a2, .int .i64 a3, .int .i64 a4, .int .i64 a5, .int .i64 a6, .bool a7] w fun e w' => e = .returned (.bool true) /\ Up w w' :=
 tells13_w hg a7 (wf_i6 w0) (wf_i6 w1) (wf_i6 w2) (wf_i6 w3) (wf_i6 w4) (wf_i6 w5) (wf_i6 w6)
end Go.Proofs.YthnjmgoininkoaaGreatDoor
namespace Go.Proofs.YthnjmgoininkoaaGreatDoor
open Go.ChangeShapes Go.WideShapes Go.RowKit
set_option maxRecDepth 100000
theorem own4 : ownKnob Tryz.prog.godebug = none := by kernel_rfl
theorem et4 : Tryz.prog.globalNamed "errors.errorType" = some 0 := by kernel_rfl
theorem rt4 : (Tryz.prog.cutTypes.find? (·.1 == "internal/reflectlite.rtype")).map (·.2) = some 111 := by kernel_rfl
theorem oneRow4 : ((List.range 171).filter fun t => Tryz.prog.rowNamed t [101, 114, 114, 111, 114]) = [24] := by kernel_rfl
theorem size4 : Tryz.prog.types.size = 171 := by kernel_rfl
theorem glob_of_laid {W : World} (h : laidMetH Tryz.prog [("errors.errorType", Rows.laid_errors_errorType)] W) : Glob W := by
 have h' : laidMet Tryz.prog [] W /\ handlesMet Tryz.prog [("errors.errorType", Rows.laid_errors_errorType)] W := h
 obtain ⟨name, u, ty, e1, e2, e3, e4, e5⟩ := h'.2 _ (List.mem_singleton.2 rfl)
 have en : name = [101, 114, 114, 111, 114] := (Option.some.inj e1).symm
 subst en
 obtain rfl := Option.some.inj (rt4.symm.trans e2)
 have hm : ty ∈ (List.range 171).filter fun t => Tryz.prog.rowNamed t [101, 114, 114, 111, 114] := List.mem_filter.2 ⟨List.mem_range.2 (by rw [<- size4]; exact e3), e4⟩
 rw [oneRow4] at hm
 obtain rfl := List.mem_singleton.1 hm
 have hh : typeHandle Tryz.prog 24 = .pointer (some ⟨3, 24, none⟩) := by kernel_rfl
 rw [hh] at e5
 unfold Glob
 simpa using World.var?_cell et4 e5 0
noncomputable def laidWorld (os : Os) : World :=
 let w0 := World.holding Tryz.prog os ⟨#[], #[], []⟩
 { w0 with heap := w0.heap.modify 0 fun
    | .cells _ t frozen => .cells #[.iface 111 (.agg #[.pointer (some ⟨3, 24, none⟩)])] t frozen
    | o => o }
theorem laidWorld_met (os : Os) (args : Array Value) : laidMetH Tryz.prog [("errors.errorType", Rows.laid_errors_errorType)] ((laidWorld os).forCall (fun _ _ => 0) ⟨#[], args, []⟩).memory :=
 laidMetH_of_parts (laidMet_nil _ _) (by kernel_rfl)
end Go.Proofs.YthnjmgoininkoaaGreatDoor
