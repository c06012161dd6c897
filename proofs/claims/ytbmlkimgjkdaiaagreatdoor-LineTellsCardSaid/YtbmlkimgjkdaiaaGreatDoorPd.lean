import Derived.Test.YtbmlkimgjkdaiaaGreatDoorPc
import Derived.Deep.DeepCutAuto
import Derived.Deep.CutBlock
import Derived.OwnWalk
import Derived.BigRegion
import Derived.Test.YtbmlkimgjkdaiaaGreatDoorProg
import Derived.OpenShut
import Derived.Lib.SmallJoins
import Derived.Test.YtbmlkimgjkdaiaaGreatDoorRows
import Derived.Test.YtbmlkimgjkdaiaaGreatDoorTie
import Derived.ChangeSame
import Derived.ChangeVars
import Derived.JoinedOf
import Derived.RowKit
import Derived.RowKitTokens
import Derived.LaidLaws
import Derived.LaidHandle
import Derived.Stop.Joined
import Derived.ChangeMaps5
import Derived.SevenTiedAt
namespace Go.Proofs.YtbmlkimgjkdaiaaGreatDoor
open Go Go.RowKit
set_option maxRecDepth 100000
theorem run_allocB {o : Oper} {a : Act} (ho : o.op = .alloc 69) (w : World) :
   (execOp a.eval o).run Tryz.prog w = .ok (.value (.pointer (some ⟨w.heap.size, 0, none⟩))) (w.alloc (.cells #[.bool false, .slice none 0 0] 69)) := by
 unfold execOp
 rw [ho]
 dsimp only
 go_simp
theorem wpAnyU_allocB {ops : Array Oper} {Q : Exit -> Act -> World -> Prop} {md : Region.Mode} {S : World -> Prop} {req : Nat -> Bool} {i : Nat} {o : Oper} {d : Option Tmp} {fuel : Nat} {listed : Array Bool} {a : Act} {w : World}
   (hi : ops[i]? = some o) (hd : o.dst = d) (hr : Region.ready md ops listed = [i]) (hw : Region.wanted o (yielded ops a.tmps) = true) (ho : o.op = .alloc 69) (hSup : ∀ w w', S w -> Up w w' -> S w')
   (h : ∀ w1, Up w w1 -> wpAnyU Tryz.prog md ops Q S req fuel (listed.setIfInBounds i true) (a.put d (.pointer (some ⟨w1.heap.size, 0, none⟩))) (w1.alloc (.cells #[.bool false, .slice none 0 0] 69))) : wpAnyU Tryz.prog md ops Q S req (fuel + 1) listed a w := by
 subst hd
 refine wpAnyU_one hi hr hw fun w1 hw1 => ?_
 unfold Oper.wp
 rw [run_allocB ho w1]
 exact ⟨fun _ hS => hSup _ _ hS (Up.alloc _ _), h w1 hw1⟩
section
variable {P : Program} {ops : Array Oper} {Q : Exit -> Act -> World -> Prop} {md : Region.Mode} {S : World -> Prop} {req : Nat -> Bool}
theorem wpOp_callE {i : Nat} {o : Oper} {d : Option Tmp} {fuel : Nat} {listed : Array Bool} {a : Act} {w : World} {f : FuncId} {args : Array Value} {R : Value -> World -> Prop} (hi : ops[i]? = some o) (hd : o.dst = d) (hw : Region.wanted o (yielded ops a.tmps) = true)
   (hSup : ∀ w w', S w -> Up w w' -> S w') (hrun : (execOp a.eval o).run P w = .ok (.enter f args) w) (hc : Calls P f args w fun e w'' => Up w w'' /\ ∃ v, e = .returned v /\ R v w'')
   (h : ∀ v w'', Up w w'' -> R v w'' -> wpAnyU P md ops Q S req fuel (listed.setIfInBounds i true) (a.put d v) w'') : wpOp P ops Q i (fun a' w'' => (req i = true -> S w -> S w'') /\ wpAnyU P md ops Q S req fuel (listed.setIfInBounds i true) a' w'') a w := by
 unfold wpOp
 simp only [hi, hw, if_true]
 refine .inl ?_
 unfold Oper.wp
 rw [hrun]
 subst hd
 refine Calls.mono hc fun e w'' he => ?_
 obtain ⟨hu, v, rfl, hR⟩ := he
 exact ⟨fun _ hs => hSup _ _ hs hu, h v w'' hu hR⟩
end
theorem wpOp_allocB {ops : Array Oper} {Q : Exit -> Act -> World -> Prop} {md : Region.Mode} {S : World -> Prop} {req : Nat -> Bool} {i : Nat} {o : Oper} {d : Option Tmp} {fuel : Nat} {listed : Array Bool} {a : Act} {w : World}
   (hi : ops[i]? = some o) (hd : o.dst = d) (hw : Region.wanted o (yielded ops a.tmps) = true) (ho : o.op = .alloc 69) (hSup : ∀ w w', S w -> Up w w' -> S w')
   (h : wpAnyU Tryz.prog md ops Q S req fuel (listed.setIfInBounds i true) (a.put d (.pointer (some ⟨w.heap.size, 0, none⟩))) (w.alloc (.cells #[.bool false, .slice none 0 0] 69))) : wpOp Tryz.prog ops Q i (fun a' w'' => (req i = true -> S w -> S w'') /\ wpAnyU Tryz.prog md ops Q S req fuel (listed.setIfInBounds i true) a' w'') a w := by
 unfold wpOp
 simp only [hi, hw, if_true]
 refine .inl ?_
 unfold Oper.wp
 rw [run_allocB ho w]
 subst hd
 exact ⟨fun _ hS => hSup _ _ hS (Up.alloc _ _), h⟩
theorem wpAnyU_a2 {ops : Array Oper} {Q : Exit -> Act -> World -> Prop} {md : Region.Mode} {S : World -> Prop} {req : Nat -> Bool} {j k : Nat} {oj ok : Oper} {dj dk : Option Tmp} {fuel : Nat} {listed : Array Bool} {a : Act} {w : World} (hr : Region.ready md ops listed = [j, k])
   (hj : ops[j]? = some oj) (hdj : oj.dst = dj) (hwj : Region.wanted oj (yielded ops a.tmps) = true) (hoj : oj.op = .alloc 69) (hk : ops[k]? = some ok) (hdk : ok.dst = dk) (hwk : Region.wanted ok (yielded ops a.tmps) = true) (hok : ok.op = .alloc 69) (hSup : ∀ w w', S w -> Up w w' -> S w')
   (h1 : ∀ w1, Up w w1 -> wpAnyU Tryz.prog md ops Q S req fuel (listed.setIfInBounds j true) (a.put dj (.pointer (some ⟨w1.heap.size, 0, none⟩))) (w1.alloc (.cells #[.bool false, .slice none 0 0] 69)))
   (h2 : ∀ w1, Up w w1 -> wpAnyU Tryz.prog md ops Q S req fuel (listed.setIfInBounds k true) (a.put dk (.pointer (some ⟨w1.heap.size, 0, none⟩))) (w1.alloc (.cells #[.bool false, .slice none 0 0] 69))) : wpAnyU Tryz.prog md ops Q S req (fuel + 1) listed a w :=
 wpAnyU_all hr (by simp) fun w' hw' x hx => by
  simp only [List.mem_cons, List.not_mem_nil, or_false] at hx
  rcases hx with rfl | rfl
  ·exact wpOp_allocB hj hdj hwj hoj hSup (h1 w' hw')
  ·exact wpOp_allocB hk hdk hwk hok hSup (h2 w' hw')
theorem wpAnyU_ca1 {ops : Array Oper} {Q : Exit -> Act -> World -> Prop} {md : Region.Mode} {S : World -> Prop} {req : Nat -> Bool} {i j : Nat} {o oj : Oper} {d dj : Option Tmp} {fuel : Nat} {listed : Array Bool} {a : Act} {w : World} {f : FuncId} {args : Array Value} {R : Value -> World -> Prop} (hr : Region.ready md ops listed = [i, j])
   (hi : ops[i]? = some o) (hd : o.dst = d) (hw : Region.wanted o (yielded ops a.tmps) = true) (hj : ops[j]? = some oj) (hdj : oj.dst = dj) (hwj : Region.wanted oj (yielded ops a.tmps) = true) (hoj : oj.op = .alloc 69) (hSup : ∀ w w', S w -> Up w w' -> S w')
   (hrun : ∀ w', (execOp a.eval o).run Tryz.prog w' = .ok (.enter f args) w') (hc : ∀ w', Up w w' -> Calls Tryz.prog f args w' fun e w'' => Up w' w'' /\ ∃ v, e = .returned v /\ R v w'')
   (h : ∀ v w'', Up w w'' -> R v w'' -> wpAnyU Tryz.prog md ops Q S req fuel (listed.setIfInBounds i true) (a.put d v) w'')
   (h1 : ∀ w1, Up w w1 -> wpAnyU Tryz.prog md ops Q S req fuel (listed.setIfInBounds j true) (a.put dj (.pointer (some ⟨w1.heap.size, 0, none⟩))) (w1.alloc (.cells #[.bool false, .slice none 0 0] 69))) : wpAnyU Tryz.prog md ops Q S req (fuel + 1) listed a w :=
 wpAnyU_all hr (by simp) fun w' hw' x hx => by
  simp only [List.mem_cons, List.not_mem_nil, or_false] at hx
  rcases hx with rfl | rfl
  ·exact wpOp_callE hi hd hw hSup (hrun w') (hc w' hw') fun v w'' hu hR => h v w'' (hw'.trans hu) hR
  ·exact wpOp_allocB hj hdj hwj hoj hSup (h1 w' hw')
theorem wpAnyU_ca2 {ops : Array Oper} {Q : Exit -> Act -> World -> Prop} {md : Region.Mode} {S : World -> Prop} {req : Nat -> Bool} {i j k : Nat} {o oj ok : Oper} {d dj dk : Option Tmp} {fuel : Nat} {listed : Array Bool} {a : Act} {w : World} {f : FuncId} {args : Array Value} {R : Value -> World -> Prop} (hr : Region.ready md ops listed = [i, j, k])
   (hi : ops[i]? = some o) (hd : o.dst = d) (hw : Region.wanted o (yielded ops a.tmps) = true) (hj : ops[j]? = some oj) (hdj : oj.dst = dj) (hwj : Region.wanted oj (yielded ops a.tmps) = true) (hoj : oj.op = .alloc 69) (hk : ops[k]? = some ok) (hdk : ok.dst = dk) (hwk : Region.wanted ok (yielded ops a.tmps) = true) (hok : ok.op = .alloc 69) (hSup : ∀ w w', S w -> Up w w' -> S w')
   (hrun : ∀ w', (execOp a.eval o).run Tryz.prog w' = .ok (.enter f args) w') (hc : ∀ w', Up w w' -> Calls Tryz.prog f args w' fun e w'' => Up w' w'' /\ ∃ v, e = .returned v /\ R v w'')
   (h : ∀ v w'', Up w w'' -> R v w'' -> wpAnyU Tryz.prog md ops Q S req fuel (listed.setIfInBounds i true) (a.put d v) w'')
   (h1 : ∀ w1, Up w w1 -> wpAnyU Tryz.prog md ops Q S req fuel (listed.setIfInBounds j true) (a.put dj (.pointer (some ⟨w1.heap.size, 0, none⟩))) (w1.alloc (.cells #[.bool false, .slice none 0 0] 69)))
   (h2 : ∀ w1, Up w w1 -> wpAnyU Tryz.prog md ops Q S req fuel (listed.setIfInBounds k true) (a.put dk (.pointer (some ⟨w1.heap.size, 0, none⟩))) (w1.alloc (.cells #[.bool false, .slice none 0 0] 69))) : wpAnyU Tryz.prog md ops Q S req (fuel + 1) listed a w :=
 wpAnyU_all hr (by simp) fun w' hw' x hx => by
  simp only [List.mem_cons, List.not_mem_nil, or_false] at hx
  rcases hx with rfl | rfl | rfl
  ·exact wpOp_callE hi hd hw hSup (hrun w') (hc w' hw') fun v w'' hu hR => h v w'' (hw'.trans hu) hR
  ·exact wpOp_allocB hj hdj hwj hoj hSup (h1 w' hw')
  ·exact wpOp_allocB hk hdk hwk hok hSup (h2 w' hw')
def RCut (w : World) (s d : Int) (t6 t7 : Value) (wc : World) : Prop :=
 ∃ p q b4 a4 n4 c4 b5 a5 n5 c5, t6 = .pointer (some ⟨p, 0, none⟩) /\ t7 = .pointer (some ⟨q, 0, none⟩) /\ Blk wc p 69 #[.bool b4, .slice a4 n4 c4] /\ Blk wc q 69 #[.bool b5, .slice a5 n5 c5] /\
   Big wc (.agg #[.bool b4, .slice a4 n4 c4]) (s.tdiv d) /\ Big wc (.agg #[.bool b5, .slice a5 n5 c5]) (s.tmod d) /\ Blk wc (w.heap.size + 1 + 1) 69 #[.bool false, .slice none 0 0] /\ w.heap.size + 1 + 1 < p /\ w.heap.size + 1 + 1 < q /\ Below w.heap.size w wc
theorem leaf4 {w wS s1 s2 wF : World} {p q : Nat} {s d : Int} {b4 b5 : Bool} {a4 a5 : Option Addr} {n4 c4 n5 c5 : Nat} (hSB : Below w.heap.size w wS) (hS1 : Blk wS (w.heap.size + 1 + 1) 69 #[.bool false, .slice none 0 0]) (hU : Up wS s1) (k1 : Blk s1 p 69 #[.bool false, .slice none 0 0])
   (hs2 : Up (s1.setRow p #[.bool b4, .slice a4 n4 c4]) s2) (k2 : Blk s2 q 69 #[.bool false, .slice none 0 0]) (huE : Up (s2.setRow q #[.bool b5, .slice a5 n5 c5]) wF) (hQ : Big s1 (.agg #[.bool b4, .slice a4 n4 c4]) (s.tdiv d)) (hR : Big s1 (.agg #[.bool b5, .slice a5 n5 c5]) (s.tmod d))
   (hp : wS.heap.size <= p) (hq : wS.heap.size <= q) (hne : q ≠ p) : RCut w s d (.pointer (some ⟨p, 0, none⟩)) (.pointer (some ⟨q, 0, none⟩)) wF := by
 have h1 := hS1.lt
 refine ⟨p, q, b4, a4, n4, c4, b5, a5, n5, c5, rfl, rfl, ?_, (k2.setRow _).up huE, (((hQ.setRow k1).up hs2).setRow k2).up huE, (((hR.setRow k1).up hs2).setRow k2).up huE, ?_, by omega, by omega, ?_⟩
 ·exact (((k1.setRow _).up hs2).row_other _ (Ne.symm hne)).up huE
 ·exact ((((hS1.up hU).row_other _ (show w.heap.size + 1 + 1 ≠ p by omega)).up hs2).row_other _ (show w.heap.size + 1 + 1 ≠ q by omega)).up huE
 ·exact below_up (below_setRow (below_up (below_setRow (below_up hSB hU) (show w.heap.size <= p by omega) _) hs2) (show w.heap.size <= q by omega) _) huE
theorem div_big {x y : Int} {va vb : Value} {w : World} (ha : Big w va x) (hb : Big w vb y) (hx : nl x.natAbs < 50000) (hy : nl y.natAbs = 1) :
   Calls Tryz.prog 76 #[va, vb] w fun e w' => Up w w' /\ ∃ v, e = .returned v /\ ∃ b1 a1 n1 c1 b2 a2 n2 c2, v = .tuple #[.agg #[.bool b1, .slice a1 n1 c1], .agg #[.bool b2, .slice a2 n2 c2]] /\ Big w' (.agg #[.bool b1, .slice a1 n1 c1]) (x.tdiv y) /\ Big w' (.agg #[.bool b2, .slice a2 n2 c2]) (x.tmod y) := by
 obtain ⟨a, ca, rfl, hA⟩ := ha
 obtain ⟨b, cb, rfl, hB⟩ := hb
 have h := div_pm (decide (x < 0)) (decide (y < 0)) x.natAbs y.natAbs a b ca cb w hA hB hx hy
 rw [<- pm_int, <- pm_int] at h
 refine h.mono ?_
 rintro e w' ⟨hu, b1, a1, n1, c1, b2, a2, n2, c2, rfl, h1, h2⟩
 exact ⟨hu, _, rfl, _, _, _, _, _, _, _, _, rfl, h1, h2⟩
set_option maxHeartbeats 20000000 in
theorem round_big {x y : Int} {va vb : Value} {w : World} (ha : Big w va x) (hb : Big w vb y) (hy : 0 < y) (hx1 : nl x.natAbs < 50000) (hy1 : nl y.natAbs < 50000) (h2x : nl (2 * x).natAbs < 50000) (hs : nl (2 * x + y).natAbs < 50000) (h2y : nl (2 * y).natAbs = 1) :
   Calls Tryz.prog 52 #[va, vb] w fun e w' => Up w w' /\ ∃ v, e = .returned v /\ Big w' v ((2 * x + y) / (2 * y)) := by
 obtain ⟨p, a, n, ca, rfl⟩ := ha.shape
 obtain ⟨q, b, m, cb, rfl⟩ := hb.shape
 have hA := hid ha
 have hB := hid hb
 have nTwo : nl (2 : Int).natAbs < 50000 := by
  exact small_nl (by omega) (by omega)
 have nOne : nl (1 : Int).natAbs < 50000 := by
  exact small_nl (by omega) (by omega)
 have HO2 := hid (fun w => of_big 2 (by decide) (by decide) w)
 have HFl := hid (round_floor (s := 2 * x + y) (d := 2 * y) (by omega))
 clear ha hb
 go_enter Tryz.func52, Tryz.ntmps52
 go_wp2_with (first | ((with_reducible apply stB_P); exact rfl; exact rfl; exact gBlk; exact rfl; exact rfl; exact one2 _ _ _ _) | (go_at_call 28; (with_reducible refine (HO2.out _).mono ?_); rintro e wO ⟨huO, u, rfl, hBO⟩; obtain ⟨qo, ao, no, co, rfl⟩ := hBO.shape))
 have hsO := huO.size
 simp at hsO
 try simp only [Act.put]
 go_cut [6, 7] (fun t6 t7 wc => RCut w (2 * x + y) (2 * y) t6 t7 wc)
 case first =>
  refine opU (S := (fun wq => Blk wq (w.heap.size + 1 + 1) 69 #[.bool false, .slice none 0 0] /\ Blk wq w.heap.size 69 #[.bool p, .slice a n ca] /\ Blk wq (w.heap.size + 1) 69 #[.bool q, .slice b m cb] /\ Blk wq wO.heap.size 69 #[.bool qo, .slice ao no co] /\ Big wq (.agg #[.bool qo, .slice ao no co]) 2 /\ Below w.heap.size w wq)) (req := (fun j => j != 14 && j != 15)) (fun _ _ h hu => ⟨(h.1).up hu, (h.2.1).up hu, (h.2.2.1).up hu, (h.2.2.2.1).up hu, (h.2.2.2.2.1).up hu, below_up (h.2.2.2.2.2) hu⟩) ⟨gBlk, gBlk, gBlk, gBlk, (by (repeat (first | assumption | ((with_reducible apply big_set); exact gBlk) | (with_reducible apply big_alloc) | ((with_reducible apply big_up); assumption))); done), gUp⟩ (fun wS hSS hSu => ?_)
  have ⟨hS1, hS2, hS3, hS4, hS5, hSB⟩ := hSS
  refine tkT 0 (some 10) rfl hSu hSS ?_ (hy := fun w' hSw => run_ldB rfl rfl hSw.2.2.2.1 rfl)
  refine tkT 1 (some 11) rfl hSu hSS ?_ (hy := fun w' hSw => run_ldB rfl rfl hSw.2.1 rfl)
  refine tkT 3 (some 13) rfl hSu hSS ?_ (hy := fun w' hSw => run_ldB rfl rfl hSw.2.2.1 rfl)
  refine tkT 5 (some 15) rfl hSu hSS ?_ (hy := fun w' hSw => run_ldB rfl rfl hSw.2.2.2.1 rfl)
  refine tkT 6 (some 16) rfl hSu hSS ?_ (hy := fun w' hSw => run_ldB rfl rfl hSw.2.2.1 rfl)
  have hU := Up.refl wS
  refine wpAnyU_ca2 (i := 2) (j := 12) (k := 13) (d := some 12) (dj := some 6) (dk := some 7) (by kernel_rfl) rfl rfl (by rfl) rfl rfl (by rfl) rfl rfl rfl (by rfl) rfl hSu.out (fun w' => by go_simp) (fun w' hw' => mul_big (hS5.up (hU.trans hw')) (hA.out.up (below_up hSB (hU.trans hw'))) nTwo hx1) (fun v1 w1 hw1 hr1 => ?_) (fun w1 hw1 => ?_) (fun w1 hw1 => ?_)
  ·try simp only [Act.put, pu1, pu2, pu3]
   replace hU := hU.trans hw1
   obtain ⟨b1, a1, n1, c1, rfl⟩ := hr1.shape
   have hP := hr1
   refine wpAnyU_ca2 (i := 4) (j := 12) (k := 13) (d := some 14) (dj := some 6) (dk := some 7) (by kernel_rfl) rfl rfl (by rfl) rfl rfl (by rfl) rfl rfl rfl (by rfl) rfl hSu.out (fun w' => by go_simp) (fun w' hw' => add_big (hP.up hw') (hB.out.up (below_up hSB (hU.trans hw'))) h2x hy1) (fun v2 w2 hw2 hr2 => ?_) (fun w2 hw2 => ?_) (fun w2 hw2 => ?_)
   ·try simp only [Act.put, pu1, pu2, pu3]
    replace hU := hU.trans hw2
    replace hP := hP.up hw2
    obtain ⟨b2, a2, n2, c2, rfl⟩ := hr2.shape
    have hT := hr2
    refine wpAnyU_ca2 (i := 7) (j := 12) (k := 13) (d := some 17) (dj := some 6) (dk := some 7) (by kernel_rfl) rfl rfl (by rfl) rfl rfl (by rfl) rfl rfl rfl (by rfl) rfl hSu.out (fun w' => by go_simp) (fun w' hw' => mul_big (hS5.up (hU.trans hw')) (hB.out.up (below_up hSB (hU.trans hw'))) nTwo hy1) (fun v3 w3 hw3 hr3 => ?_) (fun w3 hw3 => ?_) (fun w3 hw3 => ?_)
    ·try simp only [Act.put, pu1, pu2, pu3]
     replace hU := hU.trans hw3
     replace hP := hP.up hw3
     replace hT := hT.up hw3
     obtain ⟨b3, a3, n3, c3, rfl⟩ := hr3.shape
     have hV := hr3
     refine wpAnyU_ca2 (i := 8) (j := 12) (k := 13) (d := some 18) (dj := some 6) (dk := some 7) (by kernel_rfl) rfl rfl (by rfl) rfl rfl (by rfl) rfl rfl rfl (by rfl) rfl hSu.out (fun w' => by go_simp) (fun w' hw' => div_big (hT.up hw') (hV.up hw') hs h2y) (fun v4 w4 hw4 hr4 => ?_) (fun w4 hw4 => ?_) (fun w4 hw4 => ?_)
     ·try simp only [Act.put, pu1, pu2, pu3]
      replace hU := hU.trans hw4
      replace hP := hP.up hw4
      replace hT := hT.up hw4
      replace hV := hV.up hw4
      obtain ⟨b4, a4, n4, c4, d4, e4, f4, g4, rfl, hQ, hR⟩ := hr4
      refine tkP 9 (some 9) hSu ?_
      refine tkP 10 (some 19) hSu ?_
      refine tkP 11 (some 20) hSu ?_
      refine wpAnyU_a2 (j := 12) (k := 13) (dj := some 6) (dk := some 7) (by kernel_rfl) rfl rfl (by rfl) rfl rfl rfl (by rfl) rfl hSu.out (fun w5 hw5 => ?_) (fun w5 hw5 => ?_)
      ·try simp only [Act.put, pu1, pu2, pu3]
       replace hU := hU.trans hw5
       replace hP := hP.up hw5
       replace hT := hT.up hw5
       replace hV := hV.up hw5
       replace hQ := hQ.up hw5
       replace hR := hR.up hw5
       have ha5 := Up.alloc w5 (.cells #[.bool false, .slice none 0 0] 69)
       have hp_le : wS.heap.size <= w5.heap.size := hU.size
       replace hU := hU.trans ha5
       replace hP := hP.up ha5
       replace hT := hT.up ha5
       replace hV := hV.up ha5
       replace hQ := hQ.up ha5
       replace hR := hR.up ha5
       have hp : Blk _ w5.heap.size 69 #[.bool false, .slice none 0 0] := blk_new (w := w5) rfl
       generalize ep : w5.heap.size = p' at hp hp_le ⊢
       refine wpAnyU_allocB (i := 13) (d := some 7) rfl rfl (by kernel_rfl) (by rfl) rfl hSu.out (fun w6 hw6 => ?_)
       try simp only [Act.put, pu1, pu2, pu3]
       replace hU := hU.trans hw6
       replace hP := hP.up hw6
       replace hT := hT.up hw6
       replace hV := hV.up hw6
       replace hQ := hQ.up hw6
       replace hR := hR.up hw6
       replace hp := hp.up hw6
       have ha6 := Up.alloc w6 (.cells #[.bool false, .slice none 0 0] 69)
       have hq_le : wS.heap.size <= w6.heap.size := hU.size
       have hne := hp.lt
       replace hU := hU.trans ha6
       replace hP := hP.up ha6
       replace hT := hT.up ha6
       replace hV := hV.up ha6
       replace hQ := hQ.up ha6
       replace hR := hR.up ha6
       replace hp := hp.up ha6
       have hq : Blk _ w6.heap.size 69 #[.bool false, .slice none 0 0] := blk_new (w := w6) rfl
       generalize eq : w6.heap.size = q' at hq hq_le hne ⊢
       refine wpAnyU_one (i := 14) rfl (by kernel_rfl) (by rfl) fun s1 hs1 => ?_
       have k1 := hp.up hs1
       refine wp_stB rfl rfl rfl rfl k1 rfl rfl (one2 _ _ _ _) ?_
       refine ⟨fun h => by simp at h, ?_⟩
       try simp only [Act.put, pu1]
       refine wpAnyU_one (i := 15) rfl (by kernel_rfl) (by rfl) fun s2 hs2 => ?_
       have k2 := ((hq.up hs1).row_other _ (show q' ≠ p' by omega)).up hs2
       refine wp_stB rfl rfl rfl rfl k2 rfl rfl (one2 _ _ _ _) ?_
       refine ⟨fun h => by simp at h, ?_⟩
       try simp only [Act.put, pu1]
       refine wpAnyU_done (by kernel_rfl) (fun wF huE => ?_) _
       go_wp2
       go_meet
       case rel => exact leaf4 hSB hS1 (hU.trans hs1) k1 hs2 k2 huE (hQ.up hs1) (hR.up hs1) (by omega) (by omega) (by omega)
      ·try simp only [Act.put, pu1, pu2, pu3]
       replace hU := hU.trans hw5
       replace hP := hP.up hw5
       replace hT := hT.up hw5
       replace hV := hV.up hw5
       replace hQ := hQ.up hw5
       replace hR := hR.up hw5
       have ha5 := Up.alloc w5 (.cells #[.bool false, .slice none 0 0] 69)
       have hq_le : wS.heap.size <= w5.heap.size := hU.size
       replace hU := hU.trans ha5
       replace hP := hP.up ha5
       replace hT := hT.up ha5
       replace hV := hV.up ha5
       replace hQ := hQ.up ha5
       replace hR := hR.up ha5
       have hq : Blk _ w5.heap.size 69 #[.bool false, .slice none 0 0] := blk_new (w := w5) rfl
       generalize eq : w5.heap.size = q' at hq hq_le ⊢
       refine wpAnyU_allocB (i := 12) (d := some 6) rfl rfl (by kernel_rfl) (by rfl) rfl hSu.out (fun w8 hw8 => ?_)
       try simp only [Act.put, pu1, pu2, pu3]
       replace hU := hU.trans hw8
       replace hP := hP.up hw8
       replace hT := hT.up hw8
       replace hV := hV.up hw8
       replace hQ := hQ.up hw8
       replace hR := hR.up hw8
       replace hq := hq.up hw8
       have ha8 := Up.alloc w8 (.cells #[.bool false, .slice none 0 0] 69)
       have hp_le : wS.heap.size <= w8.heap.size := hU.size
       have hne := hq.lt
       replace hU := hU.trans ha8
       replace hP := hP.up ha8
       replace hT := hT.up ha8
       replace hV := hV.up ha8
       replace hQ := hQ.up ha8
       replace hR := hR.up ha8
       replace hq := hq.up ha8
       have hp : Blk _ w8.heap.size 69 #[.bool false, .slice none 0 0] := blk_new (w := w8) rfl
       generalize ep : w8.heap.size = p' at hp hp_le hne ⊢
       refine wpAnyU_one (i := 14) rfl (by kernel_rfl) (by rfl) fun s1 hs1 => ?_
       have k1 := hp.up hs1
       refine wp_stB rfl rfl rfl rfl k1 rfl rfl (one2 _ _ _ _) ?_
       refine ⟨fun h => by simp at h, ?_⟩
       try simp only [Act.put, pu1]
       refine wpAnyU_one (i := 15) rfl (by kernel_rfl) (by rfl) fun s2 hs2 => ?_
       have k2 := ((hq.up hs1).row_other _ (show q' ≠ p' by omega)).up hs2
       refine wp_stB rfl rfl rfl rfl k2 rfl rfl (one2 _ _ _ _) ?_
       refine ⟨fun h => by simp at h, ?_⟩
       try simp only [Act.put, pu1]
       refine wpAnyU_done (by kernel_rfl) (fun wF huE => ?_) _
       go_wp2
       go_meet
       case rel => exact leaf4 hSB hS1 (hU.trans hs1) k1 hs2 k2 huE (hQ.up hs1) (hR.up hs1) (by omega) (by omega) (by omega)
     ·try simp only [Act.put, pu1, pu2, pu3]
      replace hU := hU.trans hw4
      replace hP := hP.up hw4
      replace hT := hT.up hw4
      replace hV := hV.up hw4
      have ha4 := Up.alloc w4 (.cells #[.bool false, .slice none 0 0] 69)
      have hp_le : wS.heap.size <= w4.heap.size := hU.size
      replace hU := hU.trans ha4
      replace hP := hP.up ha4
      replace hT := hT.up ha4
      replace hV := hV.up ha4
      have hp : Blk _ w4.heap.size 69 #[.bool false, .slice none 0 0] := blk_new (w := w4) rfl
      generalize ep : w4.heap.size = p' at hp hp_le ⊢
      refine wpAnyU_ca1 (i := 8) (j := 13) (d := some 18) (dj := some 7) (by kernel_rfl) rfl rfl (by rfl) rfl rfl (by rfl) rfl hSu.out (fun w' => by go_simp) (fun w' hw' => div_big (hT.up hw') (hV.up hw') hs h2y) (fun v10 w10 hw10 hr10 => ?_) (fun w10 hw10 => ?_)
      ·try simp only [Act.put, pu1, pu2, pu3]
       replace hU := hU.trans hw10
       replace hP := hP.up hw10
       replace hT := hT.up hw10
       replace hV := hV.up hw10
       replace hp := hp.up hw10
       obtain ⟨b10, a10, n10, c10, d10, e10, f10, g10, rfl, hQ, hR⟩ := hr10
       refine tkP 9 (some 9) hSu ?_
       refine tkP 10 (some 19) hSu ?_
       refine tkP 11 (some 20) hSu ?_
       refine wpAnyU_allocB (i := 13) (d := some 7) rfl rfl (by kernel_rfl) (by rfl) rfl hSu.out (fun w11 hw11 => ?_)
       try simp only [Act.put, pu1, pu2, pu3]
       replace hU := hU.trans hw11
       replace hP := hP.up hw11
       replace hT := hT.up hw11
       replace hV := hV.up hw11
       replace hQ := hQ.up hw11
       replace hR := hR.up hw11
       replace hp := hp.up hw11
       have ha11 := Up.alloc w11 (.cells #[.bool false, .slice none 0 0] 69)
       have hq_le : wS.heap.size <= w11.heap.size := hU.size
       have hne := hp.lt
       replace hU := hU.trans ha11
       replace hP := hP.up ha11
       replace hT := hT.up ha11
       replace hV := hV.up ha11
       replace hQ := hQ.up ha11
       replace hR := hR.up ha11
       replace hp := hp.up ha11
       have hq : Blk _ w11.heap.size 69 #[.bool false, .slice none 0 0] := blk_new (w := w11) rfl
       generalize eq : w11.heap.size = q' at hq hq_le hne ⊢
       refine wpAnyU_one (i := 14) rfl (by kernel_rfl) (by rfl) fun s1 hs1 => ?_
       have k1 := hp.up hs1
       refine wp_stB rfl rfl rfl rfl k1 rfl rfl (one2 _ _ _ _) ?_
       refine ⟨fun h => by simp at h, ?_⟩
       try simp only [Act.put, pu1]
       refine wpAnyU_one (i := 15) rfl (by kernel_rfl) (by rfl) fun s2 hs2 => ?_
       have k2 := ((hq.up hs1).row_other _ (show q' ≠ p' by omega)).up hs2
       refine wp_stB rfl rfl rfl rfl k2 rfl rfl (one2 _ _ _ _) ?_
       refine ⟨fun h => by simp at h, ?_⟩
       try simp only [Act.put, pu1]
       refine wpAnyU_done (by kernel_rfl) (fun wF huE => ?_) _
       go_wp2
       go_meet
       case rel => exact leaf4 hSB hS1 (hU.trans hs1) k1 hs2 k2 huE (hQ.up hs1) (hR.up hs1) (by omega) (by omega) (by omega)
      ·try simp only [Act.put, pu1, pu2, pu3]
       replace hU := hU.trans hw10
       replace hP := hP.up hw10
       replace hT := hT.up hw10
       replace hV := hV.up hw10
       replace hp := hp.up hw10
       have ha10 := Up.alloc w10 (.cells #[.bool false, .slice none 0 0] 69)
       have hq_le : wS.heap.size <= w10.heap.size := hU.size
       have hne := hp.lt
       replace hU := hU.trans ha10
       replace hP := hP.up ha10
       replace hT := hT.up ha10
       replace hV := hV.up ha10
       replace hp := hp.up ha10
       have hq : Blk _ w10.heap.size 69 #[.bool false, .slice none 0 0] := blk_new (w := w10) rfl
       generalize eq : w10.heap.size = q' at hq hq_le hne ⊢
       refine wpAnyU_callE (i := 8) (d := some 18) rfl rfl (by kernel_rfl) (by rfl) hSu.out (fun w' => by go_simp) (fun w' hw' => div_big (hT.up hw') (hV.up hw') hs h2y) (fun v13 w13 hw13 hr13 => ?_)
       try simp only [Act.put, pu1, pu2, pu3]
       replace hU := hU.trans hw13
       replace hP := hP.up hw13
       replace hT := hT.up hw13
       replace hV := hV.up hw13
       replace hp := hp.up hw13
       replace hq := hq.up hw13
       obtain ⟨b13, a13, n13, c13, d13, e13, f13, g13, rfl, hQ, hR⟩ := hr13
       refine tkP 9 (some 9) hSu ?_
       refine tkP 10 (some 19) hSu ?_
       refine tkP 11 (some 20) hSu ?_
       refine wpAnyU_one (i := 14) rfl (by kernel_rfl) (by rfl) fun s1 hs1 => ?_
       have k1 := hp.up hs1
       refine wp_stB rfl rfl rfl rfl k1 rfl rfl (one2 _ _ _ _) ?_
       refine ⟨fun h => by simp at h, ?_⟩
       try simp only [Act.put, pu1]
       refine wpAnyU_one (i := 15) rfl (by kernel_rfl) (by rfl) fun s2 hs2 => ?_
       have k2 := ((hq.up hs1).row_other _ (show q' ≠ p' by omega)).up hs2
       refine wp_stB rfl rfl rfl rfl k2 rfl rfl (one2 _ _ _ _) ?_
       refine ⟨fun h => by simp at h, ?_⟩
       try simp only [Act.put, pu1]
       refine wpAnyU_done (by kernel_rfl) (fun wF huE => ?_) _
       go_wp2
       go_meet
       case rel => exact leaf4 hSB hS1 (hU.trans hs1) k1 hs2 k2 huE (hQ.up hs1) (hR.up hs1) (by omega) (by omega) (by omega)
     ·try simp only [Act.put, pu1, pu2, pu3]
      replace hU := hU.trans hw4
      replace hP := hP.up hw4
      replace hT := hT.up hw4
      replace hV := hV.up hw4
      have ha4 := Up.alloc w4 (.cells #[.bool false, .slice none 0 0] 69)
      have hq_le : wS.heap.size <= w4.heap.size := hU.size
      replace hU := hU.trans ha4
      replace hP := hP.up ha4
      replace hT := hT.up ha4
      replace hV := hV.up ha4
      have hq : Blk _ w4.heap.size 69 #[.bool false, .slice none 0 0] := blk_new (w := w4) rfl
      generalize eq : w4.heap.size = q' at hq hq_le ⊢
      refine wpAnyU_ca1 (i := 8) (j := 12) (d := some 18) (dj := some 6) (by kernel_rfl) rfl rfl (by rfl) rfl rfl (by rfl) rfl hSu.out (fun w' => by go_simp) (fun w' hw' => div_big (hT.up hw') (hV.up hw') hs h2y) (fun v15 w15 hw15 hr15 => ?_) (fun w15 hw15 => ?_)
      ·try simp only [Act.put, pu1, pu2, pu3]
       replace hU := hU.trans hw15
       replace hP := hP.up hw15
       replace hT := hT.up hw15
       replace hV := hV.up hw15
       replace hq := hq.up hw15
       obtain ⟨b15, a15, n15, c15, d15, e15, f15, g15, rfl, hQ, hR⟩ := hr15
       refine tkP 9 (some 9) hSu ?_
       refine tkP 10 (some 19) hSu ?_
       refine tkP 11 (some 20) hSu ?_
       refine wpAnyU_allocB (i := 12) (d := some 6) rfl rfl (by kernel_rfl) (by rfl) rfl hSu.out (fun w16 hw16 => ?_)
       try simp only [Act.put, pu1, pu2, pu3]
       replace hU := hU.trans hw16
       replace hP := hP.up hw16
       replace hT := hT.up hw16
       replace hV := hV.up hw16
       replace hQ := hQ.up hw16
       replace hR := hR.up hw16
       replace hq := hq.up hw16
       have ha16 := Up.alloc w16 (.cells #[.bool false, .slice none 0 0] 69)
       have hp_le : wS.heap.size <= w16.heap.size := hU.size
       have hne := hq.lt
       replace hU := hU.trans ha16
       replace hP := hP.up ha16
       replace hT := hT.up ha16
       replace hV := hV.up ha16
       replace hQ := hQ.up ha16
       replace hR := hR.up ha16
       replace hq := hq.up ha16
       have hp : Blk _ w16.heap.size 69 #[.bool false, .slice none 0 0] := blk_new (w := w16) rfl
       generalize ep : w16.heap.size = p' at hp hp_le hne ⊢
       refine wpAnyU_one (i := 14) rfl (by kernel_rfl) (by rfl) fun s1 hs1 => ?_
       have k1 := hp.up hs1
       refine wp_stB rfl rfl rfl rfl k1 rfl rfl (one2 _ _ _ _) ?_
       refine ⟨fun h => by simp at h, ?_⟩
       try simp only [Act.put, pu1]
       refine wpAnyU_one (i := 15) rfl (by kernel_rfl) (by rfl) fun s2 hs2 => ?_
       have k2 := ((hq.up hs1).row_other _ (show q' ≠ p' by omega)).up hs2
       refine wp_stB rfl rfl rfl rfl k2 rfl rfl (one2 _ _ _ _) ?_
       refine ⟨fun h => by simp at h, ?_⟩
       try simp only [Act.put, pu1]
       refine wpAnyU_done (by kernel_rfl) (fun wF huE => ?_) _
       go_wp2
       go_meet
       case rel => exact leaf4 hSB hS1 (hU.trans hs1) k1 hs2 k2 huE (hQ.up hs1) (hR.up hs1) (by omega) (by omega) (by omega)
      ·try simp only [Act.put, pu1, pu2, pu3]
       replace hU := hU.trans hw15
       replace hP := hP.up hw15
       replace hT := hT.up hw15
       replace hV := hV.up hw15
       replace hq := hq.up hw15
       have ha15 := Up.alloc w15 (.cells #[.bool false, .slice none 0 0] 69)
       have hp_le : wS.heap.size <= w15.heap.size := hU.size
       have hne := hq.lt
       replace hU := hU.trans ha15
       replace hP := hP.up ha15
       replace hT := hT.up ha15
       replace hV := hV.up ha15
       replace hq := hq.up ha15
       have hp : Blk _ w15.heap.size 69 #[.bool false, .slice none 0 0] := blk_new (w := w15) rfl
       generalize ep : w15.heap.size = p' at hp hp_le hne ⊢
       refine wpAnyU_callE (i := 8) (d := some 18) rfl rfl (by kernel_rfl) (by rfl) hSu.out (fun w' => by go_simp) (fun w' hw' => div_big (hT.up hw') (hV.up hw') hs h2y) (fun v18 w18 hw18 hr18 => ?_)
       try simp only [Act.put, pu1, pu2, pu3]
       replace hU := hU.trans hw18
       replace hP := hP.up hw18
       replace hT := hT.up hw18
       replace hV := hV.up hw18
       replace hp := hp.up hw18
       replace hq := hq.up hw18
       obtain ⟨b18, a18, n18, c18, d18, e18, f18, g18, rfl, hQ, hR⟩ := hr18
       refine tkP 9 (some 9) hSu ?_
       refine tkP 10 (some 19) hSu ?_
       refine tkP 11 (some 20) hSu ?_
       refine wpAnyU_one (i := 14) rfl (by kernel_rfl) (by rfl) fun s1 hs1 => ?_
       have k1 := hp.up hs1
       refine wp_stB rfl rfl rfl rfl k1 rfl rfl (one2 _ _ _ _) ?_
       refine ⟨fun h => by simp at h, ?_⟩
       try simp only [Act.put, pu1]
       refine wpAnyU_one (i := 15) rfl (by kernel_rfl) (by rfl) fun s2 hs2 => ?_
       have k2 := ((hq.up hs1).row_other _ (show q' ≠ p' by omega)).up hs2
       refine wp_stB rfl rfl rfl rfl k2 rfl rfl (one2 _ _ _ _) ?_
       refine ⟨fun h => by simp at h, ?_⟩
       try simp only [Act.put, pu1]
       refine wpAnyU_done (by kernel_rfl) (fun wF huE => ?_) _
       go_wp2
       go_meet
       case rel => exact leaf4 hSB hS1 (hU.trans hs1) k1 hs2 k2 huE (hQ.up hs1) (hR.up hs1) (by omega) (by omega) (by omega)
    ·try simp only [Act.put, pu1, pu2, pu3]
     replace hU := hU.trans hw3
     replace hP := hP.up hw3
     replace hT := hT.up hw3
     have ha3 := Up.alloc w3 (.cells #[.bool false, .slice none 0 0] 69)
     have hp_le : wS.heap.size <= w3.heap.size := hU.size
     replace hU := hU.trans ha3
     replace hP := hP.up ha3
     replace hT := hT.up ha3
     have hp : Blk _ w3.heap.size 69 #[.bool false, .slice none 0 0] := blk_new (w := w3) rfl
     generalize ep : w3.heap.size = p' at hp hp_le ⊢
     refine wpAnyU_ca1 (i := 7) (j := 13) (d := some 17) (dj := some 7) (by kernel_rfl) rfl rfl (by rfl) rfl rfl (by rfl) rfl hSu.out (fun w' => by go_simp) (fun w' hw' => mul_big (hS5.up (hU.trans hw')) (hB.out.up (below_up hSB (hU.trans hw'))) nTwo hy1) (fun v20 w20 hw20 hr20 => ?_) (fun w20 hw20 => ?_)
     ·try simp only [Act.put, pu1, pu2, pu3]
      replace hU := hU.trans hw20
      replace hP := hP.up hw20
      replace hT := hT.up hw20
      replace hp := hp.up hw20
      obtain ⟨b20, a20, n20, c20, rfl⟩ := hr20.shape
      have hV := hr20
      refine wpAnyU_ca1 (i := 8) (j := 13) (d := some 18) (dj := some 7) (by kernel_rfl) rfl rfl (by rfl) rfl rfl (by rfl) rfl hSu.out (fun w' => by go_simp) (fun w' hw' => div_big (hT.up hw') (hV.up hw') hs h2y) (fun v21 w21 hw21 hr21 => ?_) (fun w21 hw21 => ?_)
      ·try simp only [Act.put, pu1, pu2, pu3]
       replace hU := hU.trans hw21
       replace hP := hP.up hw21
       replace hT := hT.up hw21
       replace hV := hV.up hw21
       replace hp := hp.up hw21
       obtain ⟨b21, a21, n21, c21, d21, e21, f21, g21, rfl, hQ, hR⟩ := hr21
       refine tkP 9 (some 9) hSu ?_
       refine tkP 10 (some 19) hSu ?_
       refine tkP 11 (some 20) hSu ?_
       refine wpAnyU_allocB (i := 13) (d := some 7) rfl rfl (by kernel_rfl) (by rfl) rfl hSu.out (fun w22 hw22 => ?_)
       try simp only [Act.put, pu1, pu2, pu3]
       replace hU := hU.trans hw22
       replace hP := hP.up hw22
       replace hT := hT.up hw22
       replace hV := hV.up hw22
       replace hQ := hQ.up hw22
       replace hR := hR.up hw22
       replace hp := hp.up hw22
       have ha22 := Up.alloc w22 (.cells #[.bool false, .slice none 0 0] 69)
       have hq_le : wS.heap.size <= w22.heap.size := hU.size
       have hne := hp.lt
       replace hU := hU.trans ha22
       replace hP := hP.up ha22
       replace hT := hT.up ha22
       replace hV := hV.up ha22
       replace hQ := hQ.up ha22
       replace hR := hR.up ha22
       replace hp := hp.up ha22
       have hq : Blk _ w22.heap.size 69 #[.bool false, .slice none 0 0] := blk_new (w := w22) rfl
       generalize eq : w22.heap.size = q' at hq hq_le hne ⊢
       refine wpAnyU_one (i := 14) rfl (by kernel_rfl) (by rfl) fun s1 hs1 => ?_
       have k1 := hp.up hs1
       refine wp_stB rfl rfl rfl rfl k1 rfl rfl (one2 _ _ _ _) ?_
       refine ⟨fun h => by simp at h, ?_⟩
       try simp only [Act.put, pu1]
       refine wpAnyU_one (i := 15) rfl (by kernel_rfl) (by rfl) fun s2 hs2 => ?_
       have k2 := ((hq.up hs1).row_other _ (show q' ≠ p' by omega)).up hs2
       refine wp_stB rfl rfl rfl rfl k2 rfl rfl (one2 _ _ _ _) ?_
       refine ⟨fun h => by simp at h, ?_⟩
       try simp only [Act.put, pu1]
       refine wpAnyU_done (by kernel_rfl) (fun wF huE => ?_) _
       go_wp2
       go_meet
       case rel => exact leaf4 hSB hS1 (hU.trans hs1) k1 hs2 k2 huE (hQ.up hs1) (hR.up hs1) (by omega) (by omega) (by omega)
      ·try simp only [Act.put, pu1, pu2, pu3]
       replace hU := hU.trans hw21
       replace hP := hP.up hw21
       replace hT := hT.up hw21
       replace hV := hV.up hw21
       replace hp := hp.up hw21
       have ha21 := Up.alloc w21 (.cells #[.bool false, .slice none 0 0] 69)
       have hq_le : wS.heap.size <= w21.heap.size := hU.size
       have hne := hp.lt
       replace hU := hU.trans ha21
       replace hP := hP.up ha21
       replace hT := hT.up ha21
       replace hV := hV.up ha21
       replace hp := hp.up ha21
       have hq : Blk _ w21.heap.size 69 #[.bool false, .slice none 0 0] := blk_new (w := w21) rfl
       generalize eq : w21.heap.size = q' at hq hq_le hne ⊢
       refine wpAnyU_callE (i := 8) (d := some 18) rfl rfl (by kernel_rfl) (by rfl) hSu.out (fun w' => by go_simp) (fun w' hw' => div_big (hT.up hw') (hV.up hw') hs h2y) (fun v24 w24 hw24 hr24 => ?_)
       try simp only [Act.put, pu1, pu2, pu3]
       replace hU := hU.trans hw24
       replace hP := hP.up hw24
       replace hT := hT.up hw24
       replace hV := hV.up hw24
       replace hp := hp.up hw24
       replace hq := hq.up hw24
       obtain ⟨b24, a24, n24, c24, d24, e24, f24, g24, rfl, hQ, hR⟩ := hr24
       refine tkP 9 (some 9) hSu ?_
       refine tkP 10 (some 19) hSu ?_
       refine tkP 11 (some 20) hSu ?_
       refine wpAnyU_one (i := 14) rfl (by kernel_rfl) (by rfl) fun s1 hs1 => ?_
       have k1 := hp.up hs1
       refine wp_stB rfl rfl rfl rfl k1 rfl rfl (one2 _ _ _ _) ?_
       refine ⟨fun h => by simp at h, ?_⟩
       try simp only [Act.put, pu1]
       refine wpAnyU_one (i := 15) rfl (by kernel_rfl) (by rfl) fun s2 hs2 => ?_
       have k2 := ((hq.up hs1).row_other _ (show q' ≠ p' by omega)).up hs2
       refine wp_stB rfl rfl rfl rfl k2 rfl rfl (one2 _ _ _ _) ?_
       refine ⟨fun h => by simp at h, ?_⟩
       try simp only [Act.put, pu1]
       refine wpAnyU_done (by kernel_rfl) (fun wF huE => ?_) _
       go_wp2
       go_meet
       case rel => exact leaf4 hSB hS1 (hU.trans hs1) k1 hs2 k2 huE (hQ.up hs1) (hR.up hs1) (by omega) (by omega) (by omega)
     ·try simp only [Act.put, pu1, pu2, pu3]
      replace hU := hU.trans hw20
      replace hP := hP.up hw20
      replace hT := hT.up hw20
      replace hp := hp.up hw20
      have ha20 := Up.alloc w20 (.cells #[.bool false, .slice none 0 0] 69)
      have hq_le : wS.heap.size <= w20.heap.size := hU.size
      have hne := hp.lt
      replace hU := hU.trans ha20
      replace hP := hP.up ha20
      replace hT := hT.up ha20
      replace hp := hp.up ha20
      have hq : Blk _ w20.heap.size 69 #[.bool false, .slice none 0 0] := blk_new (w := w20) rfl
      generalize eq : w20.heap.size = q' at hq hq_le hne ⊢
      refine wpAnyU_callE (i := 7) (d := some 17) rfl rfl (by kernel_rfl) (by rfl) hSu.out (fun w' => by go_simp) (fun w' hw' => mul_big (hS5.up (hU.trans hw')) (hB.out.up (below_up hSB (hU.trans hw'))) nTwo hy1) (fun v26 w26 hw26 hr26 => ?_)
      try simp only [Act.put, pu1, pu2, pu3]
      replace hU := hU.trans hw26
      replace hP := hP.up hw26
      replace hT := hT.up hw26
      replace hp := hp.up hw26
      replace hq := hq.up hw26
      obtain ⟨b26, a26, n26, c26, rfl⟩ := hr26.shape
      have hV := hr26
      refine wpAnyU_callE (i := 8) (d := some 18) rfl rfl (by kernel_rfl) (by rfl) hSu.out (fun w' => by go_simp) (fun w' hw' => div_big (hT.up hw') (hV.up hw') hs h2y) (fun v27 w27 hw27 hr27 => ?_)
      try simp only [Act.put, pu1, pu2, pu3]
      replace hU := hU.trans hw27
      replace hP := hP.up hw27
      replace hT := hT.up hw27
      replace hV := hV.up hw27
      replace hp := hp.up hw27
      replace hq := hq.up hw27
      obtain ⟨b27, a27, n27, c27, d27, e27, f27, g27, rfl, hQ, hR⟩ := hr27
      refine tkP 9 (some 9) hSu ?_
      refine tkP 10 (some 19) hSu ?_
      refine tkP 11 (some 20) hSu ?_
      refine wpAnyU_one (i := 14) rfl (by kernel_rfl) (by rfl) fun s1 hs1 => ?_
      have k1 := hp.up hs1
      refine wp_stB rfl rfl rfl rfl k1 rfl rfl (one2 _ _ _ _) ?_
      refine ⟨fun h => by simp at h, ?_⟩
      try simp only [Act.put, pu1]
      refine wpAnyU_one (i := 15) rfl (by kernel_rfl) (by rfl) fun s2 hs2 => ?_
      have k2 := ((hq.up hs1).row_other _ (show q' ≠ p' by omega)).up hs2
      refine wp_stB rfl rfl rfl rfl k2 rfl rfl (one2 _ _ _ _) ?_
      refine ⟨fun h => by simp at h, ?_⟩
      try simp only [Act.put, pu1]
      refine wpAnyU_done (by kernel_rfl) (fun wF huE => ?_) _
      go_wp2
      go_meet
      case rel => exact leaf4 hSB hS1 (hU.trans hs1) k1 hs2 k2 huE (hQ.up hs1) (hR.up hs1) (by omega) (by omega) (by omega)
    ·try simp only [Act.put, pu1, pu2, pu3]
     replace hU := hU.trans hw3
     replace hP := hP.up hw3
     replace hT := hT.up hw3
     have ha3 := Up.alloc w3 (.cells #[.bool false, .slice none 0 0] 69)
     have hq_le : wS.heap.size <= w3.heap.size := hU.size
     replace hU := hU.trans ha3
     replace hP := hP.up ha3
     replace hT := hT.up ha3
     have hq : Blk _ w3.heap.size 69 #[.bool false, .slice none 0 0] := blk_new (w := w3) rfl
     generalize eq : w3.heap.size = q' at hq hq_le ⊢
     refine wpAnyU_ca1 (i := 7) (j := 12) (d := some 17) (dj := some 6) (by kernel_rfl) rfl rfl (by rfl) rfl rfl (by rfl) rfl hSu.out (fun w' => by go_simp) (fun w' hw' => mul_big (hS5.up (hU.trans hw')) (hB.out.up (below_up hSB (hU.trans hw'))) nTwo hy1) (fun v29 w29 hw29 hr29 => ?_) (fun w29 hw29 => ?_)
     ·try simp only [Act.put, pu1, pu2, pu3]
      replace hU := hU.trans hw29
      replace hP := hP.up hw29
      replace hT := hT.up hw29
      replace hq := hq.up hw29
      obtain ⟨b29, a29, n29, c29, rfl⟩ := hr29.shape
      have hV := hr29
      refine wpAnyU_ca1 (i := 8) (j := 12) (d := some 18) (dj := some 6) (by kernel_rfl) rfl rfl (by rfl) rfl rfl (by rfl) rfl hSu.out (fun w' => by go_simp) (fun w' hw' => div_big (hT.up hw') (hV.up hw') hs h2y) (fun v30 w30 hw30 hr30 => ?_) (fun w30 hw30 => ?_)
      ·try simp only [Act.put, pu1, pu2, pu3]
       replace hU := hU.trans hw30
       replace hP := hP.up hw30
       replace hT := hT.up hw30
       replace hV := hV.up hw30
       replace hq := hq.up hw30
       obtain ⟨b30, a30, n30, c30, d30, e30, f30, g30, rfl, hQ, hR⟩ := hr30
       refine tkP 9 (some 9) hSu ?_
       refine tkP 10 (some 19) hSu ?_
       refine tkP 11 (some 20) hSu ?_
       refine wpAnyU_allocB (i := 12) (d := some 6) rfl rfl (by kernel_rfl) (by rfl) rfl hSu.out (fun w31 hw31 => ?_)
       try simp only [Act.put, pu1, pu2, pu3]
       replace hU := hU.trans hw31
       replace hP := hP.up hw31
       replace hT := hT.up hw31
       replace hV := hV.up hw31
       replace hQ := hQ.up hw31
       replace hR := hR.up hw31
       replace hq := hq.up hw31
       have ha31 := Up.alloc w31 (.cells #[.bool false, .slice none 0 0] 69)
       have hp_le : wS.heap.size <= w31.heap.size := hU.size
       have hne := hq.lt
       replace hU := hU.trans ha31
       replace hP := hP.up ha31
       replace hT := hT.up ha31
       replace hV := hV.up ha31
       replace hQ := hQ.up ha31
       replace hR := hR.up ha31
       replace hq := hq.up ha31
       have hp : Blk _ w31.heap.size 69 #[.bool false, .slice none 0 0] := blk_new (w := w31) rfl
       generalize ep : w31.heap.size = p' at hp hp_le hne ⊢
       refine wpAnyU_one (i := 14) rfl (by kernel_rfl) (by rfl) fun s1 hs1 => ?_
       have k1 := hp.up hs1
       refine wp_stB rfl rfl rfl rfl k1 rfl rfl (one2 _ _ _ _) ?_
       refine ⟨fun h => by simp at h, ?_⟩
       try simp only [Act.put, pu1]
       refine wpAnyU_one (i := 15) rfl (by kernel_rfl) (by rfl) fun s2 hs2 => ?_
       have k2 := ((hq.up hs1).row_other _ (show q' ≠ p' by omega)).up hs2
       refine wp_stB rfl rfl rfl rfl k2 rfl rfl (one2 _ _ _ _) ?_
       refine ⟨fun h => by simp at h, ?_⟩
       try simp only [Act.put, pu1]
       refine wpAnyU_done (by kernel_rfl) (fun wF huE => ?_) _
       go_wp2
       go_meet
       case rel => exact leaf4 hSB hS1 (hU.trans hs1) k1 hs2 k2 huE (hQ.up hs1) (hR.up hs1) (by omega) (by omega) (by omega)
      ·try simp only [Act.put, pu1, pu2, pu3]
       replace hU := hU.trans hw30
       replace hP := hP.up hw30
       replace hT := hT.up hw30
       replace hV := hV.up hw30
       replace hq := hq.up hw30
       have ha30 := Up.alloc w30 (.cells #[.bool false, .slice none 0 0] 69)
       have hp_le : wS.heap.size <= w30.heap.size := hU.size
       have hne := hq.lt
       replace hU := hU.trans ha30
       replace hP := hP.up ha30
       replace hT := hT.up ha30
       replace hV := hV.up ha30
       replace hq := hq.up ha30
       have hp : Blk _ w30.heap.size 69 #[.bool false, .slice none 0 0] := blk_new (w := w30) rfl
       generalize ep : w30.heap.size = p' at hp hp_le hne ⊢
       refine wpAnyU_callE (i := 8) (d := some 18) rfl rfl (by kernel_rfl) (by rfl) hSu.out (fun w' => by go_simp) (fun w' hw' => div_big (hT.up hw') (hV.up hw') hs h2y) (fun v33 w33 hw33 hr33 => ?_)
       try simp only [Act.put, pu1, pu2, pu3]
       replace hU := hU.trans hw33
       replace hP := hP.up hw33
       replace hT := hT.up hw33
       replace hV := hV.up hw33
       replace hp := hp.up hw33
       replace hq := hq.up hw33
       obtain ⟨b33, a33, n33, c33, d33, e33, f33, g33, rfl, hQ, hR⟩ := hr33
       refine tkP 9 (some 9) hSu ?_
       refine tkP 10 (some 19) hSu ?_
       refine tkP 11 (some 20) hSu ?_
       refine wpAnyU_one (i := 14) rfl (by kernel_rfl) (by rfl) fun s1 hs1 => ?_
       have k1 := hp.up hs1
       refine wp_stB rfl rfl rfl rfl k1 rfl rfl (one2 _ _ _ _) ?_
       refine ⟨fun h => by simp at h, ?_⟩
       try simp only [Act.put, pu1]
       refine wpAnyU_one (i := 15) rfl (by kernel_rfl) (by rfl) fun s2 hs2 => ?_
       have k2 := ((hq.up hs1).row_other _ (show q' ≠ p' by omega)).up hs2
       refine wp_stB rfl rfl rfl rfl k2 rfl rfl (one2 _ _ _ _) ?_
       refine ⟨fun h => by simp at h, ?_⟩
       try simp only [Act.put, pu1]
       refine wpAnyU_done (by kernel_rfl) (fun wF huE => ?_) _
       go_wp2
       go_meet
       case rel => exact leaf4 hSB hS1 (hU.trans hs1) k1 hs2 k2 huE (hQ.up hs1) (hR.up hs1) (by omega) (by omega) (by omega)
     ·try simp only [Act.put, pu1, pu2, pu3]
      replace hU := hU.trans hw29
      replace hP := hP.up hw29
      replace hT := hT.up hw29
      replace hq := hq.up hw29
      have ha29 := Up.alloc w29 (.cells #[.bool false, .slice none 0 0] 69)
      have hp_le : wS.heap.size <= w29.heap.size := hU.size
      have hne := hq.lt
      replace hU := hU.trans ha29
      replace hP := hP.up ha29
      replace hT := hT.up ha29
      replace hq := hq.up ha29
      have hp : Blk _ w29.heap.size 69 #[.bool false, .slice none 0 0] := blk_new (w := w29) rfl
      generalize ep : w29.heap.size = p' at hp hp_le hne ⊢
      refine wpAnyU_callE (i := 7) (d := some 17) rfl rfl (by kernel_rfl) (by rfl) hSu.out (fun w' => by go_simp) (fun w' hw' => mul_big (hS5.up (hU.trans hw')) (hB.out.up (below_up hSB (hU.trans hw'))) nTwo hy1) (fun v35 w35 hw35 hr35 => ?_)
      try simp only [Act.put, pu1, pu2, pu3]
      replace hU := hU.trans hw35
      replace hP := hP.up hw35
      replace hT := hT.up hw35
      replace hp := hp.up hw35
      replace hq := hq.up hw35
      obtain ⟨b35, a35, n35, c35, rfl⟩ := hr35.shape
      have hV := hr35
      refine wpAnyU_callE (i := 8) (d := some 18) rfl rfl (by kernel_rfl) (by rfl) hSu.out (fun w' => by go_simp) (fun w' hw' => div_big (hT.up hw') (hV.up hw') hs h2y) (fun v36 w36 hw36 hr36 => ?_)
      try simp only [Act.put, pu1, pu2, pu3]
      replace hU := hU.trans hw36
      replace hP := hP.up hw36
      replace hT := hT.up hw36
      replace hV := hV.up hw36
      replace hp := hp.up hw36
      replace hq := hq.up hw36
      obtain ⟨b36, a36, n36, c36, d36, e36, f36, g36, rfl, hQ, hR⟩ := hr36
      refine tkP 9 (some 9) hSu ?_
      refine tkP 10 (some 19) hSu ?_
      refine tkP 11 (some 20) hSu ?_
      refine wpAnyU_one (i := 14) rfl (by kernel_rfl) (by rfl) fun s1 hs1 => ?_
      have k1 := hp.up hs1
      refine wp_stB rfl rfl rfl rfl k1 rfl rfl (one2 _ _ _ _) ?_
      refine ⟨fun h => by simp at h, ?_⟩
      try simp only [Act.put, pu1]
      refine wpAnyU_one (i := 15) rfl (by kernel_rfl) (by rfl) fun s2 hs2 => ?_
      have k2 := ((hq.up hs1).row_other _ (show q' ≠ p' by omega)).up hs2
      refine wp_stB rfl rfl rfl rfl k2 rfl rfl (one2 _ _ _ _) ?_
      refine ⟨fun h => by simp at h, ?_⟩
      try simp only [Act.put, pu1]
      refine wpAnyU_done (by kernel_rfl) (fun wF huE => ?_) _
      go_wp2
      go_meet
      case rel => exact leaf4 hSB hS1 (hU.trans hs1) k1 hs2 k2 huE (hQ.up hs1) (hR.up hs1) (by omega) (by omega) (by omega)
   ·try simp only [Act.put, pu1, pu2, pu3]
    replace hU := hU.trans hw2
    replace hP := hP.up hw2
    have ha2 := Up.alloc w2 (.cells #[.bool false, .slice none 0 0] 69)
    have hp_le : wS.heap.size <= w2.heap.size := hU.size
    replace hU := hU.trans ha2
    replace hP := hP.up ha2
    have hp : Blk _ w2.heap.size 69 #[.bool false, .slice none 0 0] := blk_new (w := w2) rfl
    generalize ep : w2.heap.size = p' at hp hp_le ⊢
    refine wpAnyU_ca1 (i := 4) (j := 13) (d := some 14) (dj := some 7) (by kernel_rfl) rfl rfl (by rfl) rfl rfl (by rfl) rfl hSu.out (fun w' => by go_simp) (fun w' hw' => add_big (hP.up hw') (hB.out.up (below_up hSB (hU.trans hw'))) h2x hy1) (fun v38 w38 hw38 hr38 => ?_) (fun w38 hw38 => ?_)
    ·try simp only [Act.put, pu1, pu2, pu3]
     replace hU := hU.trans hw38
     replace hP := hP.up hw38
     replace hp := hp.up hw38
     obtain ⟨b38, a38, n38, c38, rfl⟩ := hr38.shape
     have hT := hr38
     refine wpAnyU_ca1 (i := 7) (j := 13) (d := some 17) (dj := some 7) (by kernel_rfl) rfl rfl (by rfl) rfl rfl (by rfl) rfl hSu.out (fun w' => by go_simp) (fun w' hw' => mul_big (hS5.up (hU.trans hw')) (hB.out.up (below_up hSB (hU.trans hw'))) nTwo hy1) (fun v39 w39 hw39 hr39 => ?_) (fun w39 hw39 => ?_)
     ·try simp only [Act.put, pu1, pu2, pu3]
      replace hU := hU.trans hw39
      replace hP := hP.up hw39
      replace hT := hT.up hw39
      replace hp := hp.up hw39
      obtain ⟨b39, a39, n39, c39, rfl⟩ := hr39.shape
      have hV := hr39
      refine wpAnyU_ca1 (i := 8) (j := 13) (d := some 18) (dj := some 7) (by kernel_rfl) rfl rfl (by rfl) rfl rfl (by rfl) rfl hSu.out (fun w' => by go_simp) (fun w' hw' => div_big (hT.up hw') (hV.up hw') hs h2y) (fun v40 w40 hw40 hr40 => ?_) (fun w40 hw40 => ?_)
      ·try simp only [Act.put, pu1, pu2, pu3]
       replace hU := hU.trans hw40
       replace hP := hP.up hw40
       replace hT := hT.up hw40
       replace hV := hV.up hw40
       replace hp := hp.up hw40
       obtain ⟨b40, a40, n40, c40, d40, e40, f40, g40, rfl, hQ, hR⟩ := hr40
       refine tkP 9 (some 9) hSu ?_
       refine tkP 10 (some 19) hSu ?_
       refine tkP 11 (some 20) hSu ?_
       refine wpAnyU_allocB (i := 13) (d := some 7) rfl rfl (by kernel_rfl) (by rfl) rfl hSu.out (fun w41 hw41 => ?_)
       try simp only [Act.put, pu1, pu2, pu3]
       replace hU := hU.trans hw41
       replace hP := hP.up hw41
       replace hT := hT.up hw41
       replace hV := hV.up hw41
       replace hQ := hQ.up hw41
       replace hR := hR.up hw41
       replace hp := hp.up hw41
       have ha41 := Up.alloc w41 (.cells #[.bool false, .slice none 0 0] 69)
       have hq_le : wS.heap.size <= w41.heap.size := hU.size
       have hne := hp.lt
       replace hU := hU.trans ha41
       replace hP := hP.up ha41
       replace hT := hT.up ha41
       replace hV := hV.up ha41
       replace hQ := hQ.up ha41
       replace hR := hR.up ha41
       replace hp := hp.up ha41
       have hq : Blk _ w41.heap.size 69 #[.bool false, .slice none 0 0] := blk_new (w := w41) rfl
       generalize eq : w41.heap.size = q' at hq hq_le hne ⊢
       refine wpAnyU_one (i := 14) rfl (by kernel_rfl) (by rfl) fun s1 hs1 => ?_
       have k1 := hp.up hs1
       refine wp_stB rfl rfl rfl rfl k1 rfl rfl (one2 _ _ _ _) ?_
       refine ⟨fun h => by simp at h, ?_⟩
       try simp only [Act.put, pu1]
       refine wpAnyU_one (i := 15) rfl (by kernel_rfl) (by rfl) fun s2 hs2 => ?_
       have k2 := ((hq.up hs1).row_other _ (show q' ≠ p' by omega)).up hs2
       refine wp_stB rfl rfl rfl rfl k2 rfl rfl (one2 _ _ _ _) ?_
       refine ⟨fun h => by simp at h, ?_⟩
       try simp only [Act.put, pu1]
       refine wpAnyU_done (by kernel_rfl) (fun wF huE => ?_) _
       go_wp2
       go_meet
       case rel => exact leaf4 hSB hS1 (hU.trans hs1) k1 hs2 k2 huE (hQ.up hs1) (hR.up hs1) (by omega) (by omega) (by omega)
      ·try simp only [Act.put, pu1, pu2, pu3]
       replace hU := hU.trans hw40
       replace hP := hP.up hw40
       replace hT := hT.up hw40
       replace hV := hV.up hw40
       replace hp := hp.up hw40
       have ha40 := Up.alloc w40 (.cells #[.bool false, .slice none 0 0] 69)
       have hq_le : wS.heap.size <= w40.heap.size := hU.size
       have hne := hp.lt
       replace hU := hU.trans ha40
       replace hP := hP.up ha40
       replace hT := hT.up ha40
       replace hV := hV.up ha40
       replace hp := hp.up ha40
       have hq : Blk _ w40.heap.size 69 #[.bool false, .slice none 0 0] := blk_new (w := w40) rfl
       generalize eq : w40.heap.size = q' at hq hq_le hne ⊢
       refine wpAnyU_callE (i := 8) (d := some 18) rfl rfl (by kernel_rfl) (by rfl) hSu.out (fun w' => by go_simp) (fun w' hw' => div_big (hT.up hw') (hV.up hw') hs h2y) (fun v43 w43 hw43 hr43 => ?_)
       try simp only [Act.put, pu1, pu2, pu3]
       replace hU := hU.trans hw43
       replace hP := hP.up hw43
       replace hT := hT.up hw43
       replace hV := hV.up hw43
       replace hp := hp.up hw43
       replace hq := hq.up hw43
       obtain ⟨b43, a43, n43, c43, d43, e43, f43, g43, rfl, hQ, hR⟩ := hr43
       refine tkP 9 (some 9) hSu ?_
       refine tkP 10 (some 19) hSu ?_
       refine tkP 11 (some 20) hSu ?_
       refine wpAnyU_one (i := 14) rfl (by kernel_rfl) (by rfl) fun s1 hs1 => ?_
       have k1 := hp.up hs1
       refine wp_stB rfl rfl rfl rfl k1 rfl rfl (one2 _ _ _ _) ?_
       refine ⟨fun h => by simp at h, ?_⟩
       try simp only [Act.put, pu1]
       refine wpAnyU_one (i := 15) rfl (by kernel_rfl) (by rfl) fun s2 hs2 => ?_
       have k2 := ((hq.up hs1).row_other _ (show q' ≠ p' by omega)).up hs2
       refine wp_stB rfl rfl rfl rfl k2 rfl rfl (one2 _ _ _ _) ?_
       refine ⟨fun h => by simp at h, ?_⟩
       try simp only [Act.put, pu1]
       refine wpAnyU_done (by kernel_rfl) (fun wF huE => ?_) _
       go_wp2
       go_meet
       case rel => exact leaf4 hSB hS1 (hU.trans hs1) k1 hs2 k2 huE (hQ.up hs1) (hR.up hs1) (by omega) (by omega) (by omega)
     ·try simp only [Act.put, pu1, pu2, pu3]
      replace hU := hU.trans hw39
      replace hP := hP.up hw39
      replace hT := hT.up hw39
      replace hp := hp.up hw39
      have ha39 := Up.alloc w39 (.cells #[.bool false, .slice none 0 0] 69)
      have hq_le : wS.heap.size <= w39.heap.size := hU.size
      have hne := hp.lt
      replace hU := hU.trans ha39
      replace hP := hP.up ha39
      replace hT := hT.up ha39
      replace hp := hp.up ha39
      have hq : Blk _ w39.heap.size 69 #[.bool false, .slice none 0 0] := blk_new (w := w39) rfl
      generalize eq : w39.heap.size = q' at hq hq_le hne ⊢
      refine wpAnyU_callE (i := 7) (d := some 17) rfl rfl (by kernel_rfl) (by rfl) hSu.out (fun w' => by go_simp) (fun w' hw' => mul_big (hS5.up (hU.trans hw')) (hB.out.up (below_up hSB (hU.trans hw'))) nTwo hy1) (fun v45 w45 hw45 hr45 => ?_)
      try simp only [Act.put, pu1, pu2, pu3]
      replace hU := hU.trans hw45
      replace hP := hP.up hw45
      replace hT := hT.up hw45
      replace hp := hp.up hw45
      replace hq := hq.up hw45
      obtain ⟨b45, a45, n45, c45, rfl⟩ := hr45.shape
      have hV := hr45
      refine wpAnyU_callE (i := 8) (d := some 18) rfl rfl (by kernel_rfl) (by rfl) hSu.out (fun w' => by go_simp) (fun w' hw' => div_big (hT.up hw') (hV.up hw') hs h2y) (fun v46 w46 hw46 hr46 => ?_)
      try simp only [Act.put, pu1, pu2, pu3]
      replace hU := hU.trans hw46
      replace hP := hP.up hw46
      replace hT := hT.up hw46
      replace hV := hV.up hw46
      replace hp := hp.up hw46
      replace hq := hq.up hw46
      obtain ⟨b46, a46, n46, c46, d46, e46, f46, g46, rfl, hQ, hR⟩ := hr46
      refine tkP 9 (some 9) hSu ?_
      refine tkP 10 (some 19) hSu ?_
      refine tkP 11 (some 20) hSu ?_
      refine wpAnyU_one (i := 14) rfl (by kernel_rfl) (by rfl) fun s1 hs1 => ?_
      have k1 := hp.up hs1
      refine wp_stB rfl rfl rfl rfl k1 rfl rfl (one2 _ _ _ _) ?_
      refine ⟨fun h => by simp at h, ?_⟩
      try simp only [Act.put, pu1]
      refine wpAnyU_one (i := 15) rfl (by kernel_rfl) (by rfl) fun s2 hs2 => ?_
      have k2 := ((hq.up hs1).row_other _ (show q' ≠ p' by omega)).up hs2
      refine wp_stB rfl rfl rfl rfl k2 rfl rfl (one2 _ _ _ _) ?_
      refine ⟨fun h => by simp at h, ?_⟩
      try simp only [Act.put, pu1]
      refine wpAnyU_done (by kernel_rfl) (fun wF huE => ?_) _
      go_wp2
      go_meet
      case rel => exact leaf4 hSB hS1 (hU.trans hs1) k1 hs2 k2 huE (hQ.up hs1) (hR.up hs1) (by omega) (by omega) (by omega)
    ·try simp only [Act.put, pu1, pu2, pu3]
     replace hU := hU.trans hw38
     replace hP := hP.up hw38
     replace hp := hp.up hw38
     have ha38 := Up.alloc w38 (.cells #[.bool false, .slice none 0 0] 69)
     have hq_le : wS.heap.size <= w38.heap.size := hU.size
     have hne := hp.lt
     replace hU := hU.trans ha38
     replace hP := hP.up ha38
     replace hp := hp.up ha38
     have hq : Blk _ w38.heap.size 69 #[.bool false, .slice none 0 0] := blk_new (w := w38) rfl
     generalize eq : w38.heap.size = q' at hq hq_le hne ⊢
     refine wpAnyU_callE (i := 4) (d := some 14) rfl rfl (by kernel_rfl) (by rfl) hSu.out (fun w' => by go_simp) (fun w' hw' => add_big (hP.up hw') (hB.out.up (below_up hSB (hU.trans hw'))) h2x hy1) (fun v48 w48 hw48 hr48 => ?_)
     try simp only [Act.put, pu1, pu2, pu3]
     replace hU := hU.trans hw48
     replace hP := hP.up hw48
     replace hp := hp.up hw48
     replace hq := hq.up hw48
     obtain ⟨b48, a48, n48, c48, rfl⟩ := hr48.shape
     have hT := hr48
     refine wpAnyU_callE (i := 7) (d := some 17) rfl rfl (by kernel_rfl) (by rfl) hSu.out (fun w' => by go_simp) (fun w' hw' => mul_big (hS5.up (hU.trans hw')) (hB.out.up (below_up hSB (hU.trans hw'))) nTwo hy1) (fun v49 w49 hw49 hr49 => ?_)
     try simp only [Act.put, pu1, pu2, pu3]
     replace hU := hU.trans hw49
     replace hP := hP.up hw49
     replace hT := hT.up hw49
     replace hp := hp.up hw49
     replace hq := hq.up hw49
     obtain ⟨b49, a49, n49, c49, rfl⟩ := hr49.shape
     have hV := hr49
     refine wpAnyU_callE (i := 8) (d := some 18) rfl rfl (by kernel_rfl) (by rfl) hSu.out (fun w' => by go_simp) (fun w' hw' => div_big (hT.up hw') (hV.up hw') hs h2y) (fun v50 w50 hw50 hr50 => ?_)
     try simp only [Act.put, pu1, pu2, pu3]
     replace hU := hU.trans hw50
     replace hP := hP.up hw50
     replace hT := hT.up hw50
     replace hV := hV.up hw50
     replace hp := hp.up hw50
     replace hq := hq.up hw50
     obtain ⟨b50, a50, n50, c50, d50, e50, f50, g50, rfl, hQ, hR⟩ := hr50
     refine tkP 9 (some 9) hSu ?_
     refine tkP 10 (some 19) hSu ?_
     refine tkP 11 (some 20) hSu ?_
     refine wpAnyU_one (i := 14) rfl (by kernel_rfl) (by rfl) fun s1 hs1 => ?_
     have k1 := hp.up hs1
     refine wp_stB rfl rfl rfl rfl k1 rfl rfl (one2 _ _ _ _) ?_
     refine ⟨fun h => by simp at h, ?_⟩
     try simp only [Act.put, pu1]
     refine wpAnyU_one (i := 15) rfl (by kernel_rfl) (by rfl) fun s2 hs2 => ?_
     have k2 := ((hq.up hs1).row_other _ (show q' ≠ p' by omega)).up hs2
     refine wp_stB rfl rfl rfl rfl k2 rfl rfl (one2 _ _ _ _) ?_
     refine ⟨fun h => by simp at h, ?_⟩
     try simp only [Act.put, pu1]
     refine wpAnyU_done (by kernel_rfl) (fun wF huE => ?_) _
     go_wp2
     go_meet
     case rel => exact leaf4 hSB hS1 (hU.trans hs1) k1 hs2 k2 huE (hQ.up hs1) (hR.up hs1) (by omega) (by omega) (by omega)
   ·try simp only [Act.put, pu1, pu2, pu3]
    replace hU := hU.trans hw2
    replace hP := hP.up hw2
    have ha2 := Up.alloc w2 (.cells #[.bool false, .slice none 0 0] 69)
    have hq_le : wS.heap.size <= w2.heap.size := hU.size
    replace hU := hU.trans ha2
    replace hP := hP.up ha2
    have hq : Blk _ w2.heap.size 69 #[.bool false, .slice none 0 0] := blk_new (w := w2) rfl
    generalize eq : w2.heap.size = q' at hq hq_le ⊢
    refine wpAnyU_ca1 (i := 4) (j := 12) (d := some 14) (dj := some 6) (by kernel_rfl) rfl rfl (by rfl) rfl rfl (by rfl) rfl hSu.out (fun w' => by go_simp) (fun w' hw' => add_big (hP.up hw') (hB.out.up (below_up hSB (hU.trans hw'))) h2x hy1) (fun v52 w52 hw52 hr52 => ?_) (fun w52 hw52 => ?_)
    ·try simp only [Act.put, pu1, pu2, pu3]
     replace hU := hU.trans hw52
     replace hP := hP.up hw52
     replace hq := hq.up hw52
     obtain ⟨b52, a52, n52, c52, rfl⟩ := hr52.shape
     have hT := hr52
     refine wpAnyU_ca1 (i := 7) (j := 12) (d := some 17) (dj := some 6) (by kernel_rfl) rfl rfl (by rfl) rfl rfl (by rfl) rfl hSu.out (fun w' => by go_simp) (fun w' hw' => mul_big (hS5.up (hU.trans hw')) (hB.out.up (below_up hSB (hU.trans hw'))) nTwo hy1) (fun v53 w53 hw53 hr53 => ?_) (fun w53 hw53 => ?_)
     ·try simp only [Act.put, pu1, pu2, pu3]
      replace hU := hU.trans hw53
      replace hP := hP.up hw53
      replace hT := hT.up hw53
      replace hq := hq.up hw53
      obtain ⟨b53, a53, n53, c53, rfl⟩ := hr53.shape
      have hV := hr53
      refine wpAnyU_ca1 (i := 8) (j := 12) (d := some 18) (dj := some 6) (by kernel_rfl) rfl rfl (by rfl) rfl rfl (by rfl) rfl hSu.out (fun w' => by go_simp) (fun w' hw' => div_big (hT.up hw') (hV.up hw') hs h2y) (fun v54 w54 hw54 hr54 => ?_) (fun w54 hw54 => ?_)
      ·try simp only [Act.put, pu1, pu2, pu3]
       replace hU := hU.trans hw54
       replace hP := hP.up hw54
       replace hT := hT.up hw54
       replace hV := hV.up hw54
       replace hq := hq.up hw54
       obtain ⟨b54, a54, n54, c54, d54, e54, f54, g54, rfl, hQ, hR⟩ := hr54
       refine tkP 9 (some 9) hSu ?_
       refine tkP 10 (some 19) hSu ?_
       refine tkP 11 (some 20) hSu ?_
       refine wpAnyU_allocB (i := 12) (d := some 6) rfl rfl (by kernel_rfl) (by rfl) rfl hSu.out (fun w55 hw55 => ?_)
       try simp only [Act.put, pu1, pu2, pu3]
       replace hU := hU.trans hw55
       replace hP := hP.up hw55
       replace hT := hT.up hw55
       replace hV := hV.up hw55
       replace hQ := hQ.up hw55
       replace hR := hR.up hw55
       replace hq := hq.up hw55
       have ha55 := Up.alloc w55 (.cells #[.bool false, .slice none 0 0] 69)
       have hp_le : wS.heap.size <= w55.heap.size := hU.size
       have hne := hq.lt
       replace hU := hU.trans ha55
       replace hP := hP.up ha55
       replace hT := hT.up ha55
       replace hV := hV.up ha55
       replace hQ := hQ.up ha55
       replace hR := hR.up ha55
       replace hq := hq.up ha55
       have hp : Blk _ w55.heap.size 69 #[.bool false, .slice none 0 0] := blk_new (w := w55) rfl
       generalize ep : w55.heap.size = p' at hp hp_le hne ⊢
       refine wpAnyU_one (i := 14) rfl (by kernel_rfl) (by rfl) fun s1 hs1 => ?_
       have k1 := hp.up hs1
       refine wp_stB rfl rfl rfl rfl k1 rfl rfl (one2 _ _ _ _) ?_
       refine ⟨fun h => by simp at h, ?_⟩
       try simp only [Act.put, pu1]
       refine wpAnyU_one (i := 15) rfl (by kernel_rfl) (by rfl) fun s2 hs2 => ?_
       have k2 := ((hq.up hs1).row_other _ (show q' ≠ p' by omega)).up hs2
       refine wp_stB rfl rfl rfl rfl k2 rfl rfl (one2 _ _ _ _) ?_
       refine ⟨fun h => by simp at h, ?_⟩
       try simp only [Act.put, pu1]
       refine wpAnyU_done (by kernel_rfl) (fun wF huE => ?_) _
       go_wp2
       go_meet
       case rel => exact leaf4 hSB hS1 (hU.trans hs1) k1 hs2 k2 huE (hQ.up hs1) (hR.up hs1) (by omega) (by omega) (by omega)
      ·try simp only [Act.put, pu1, pu2, pu3]
       replace hU := hU.trans hw54
       replace hP := hP.up hw54
       replace hT := hT.up hw54
       replace hV := hV.up hw54
       replace hq := hq.up hw54
       have ha54 := Up.alloc w54 (.cells #[.bool false, .slice none 0 0] 69)
       have hp_le : wS.heap.size <= w54.heap.size := hU.size
       have hne := hq.lt
       replace hU := hU.trans ha54
       replace hP := hP.up ha54
       replace hT := hT.up ha54
       replace hV := hV.up ha54
       replace hq := hq.up ha54
       have hp : Blk _ w54.heap.size 69 #[.bool false, .slice none 0 0] := blk_new (w := w54) rfl
       generalize ep : w54.heap.size = p' at hp hp_le hne ⊢
       refine wpAnyU_callE (i := 8) (d := some 18) rfl rfl (by kernel_rfl) (by rfl) hSu.out (fun w' => by go_simp) (fun w' hw' => div_big (hT.up hw') (hV.up hw') hs h2y) (fun v57 w57 hw57 hr57 => ?_)
       try simp only [Act.put, pu1, pu2, pu3]
       replace hU := hU.trans hw57
       replace hP := hP.up hw57
       replace hT := hT.up hw57
       replace hV := hV.up hw57
       replace hp := hp.up hw57
       replace hq := hq.up hw57
       obtain ⟨b57, a57, n57, c57, d57, e57, f57, g57, rfl, hQ, hR⟩ := hr57
       refine tkP 9 (some 9) hSu ?_
       refine tkP 10 (some 19) hSu ?_
       refine tkP 11 (some 20) hSu ?_
       refine wpAnyU_one (i := 14) rfl (by kernel_rfl) (by rfl) fun s1 hs1 => ?_
       have k1 := hp.up hs1
       refine wp_stB rfl rfl rfl rfl k1 rfl rfl (one2 _ _ _ _) ?_
       refine ⟨fun h => by simp at h, ?_⟩
       try simp only [Act.put, pu1]
       refine wpAnyU_one (i := 15) rfl (by kernel_rfl) (by rfl) fun s2 hs2 => ?_
       have k2 := ((hq.up hs1).row_other _ (show q' ≠ p' by omega)).up hs2
       refine wp_stB rfl rfl rfl rfl k2 rfl rfl (one2 _ _ _ _) ?_
       refine ⟨fun h => by simp at h, ?_⟩
       try simp only [Act.put, pu1]
       refine wpAnyU_done (by kernel_rfl) (fun wF huE => ?_) _
       go_wp2
       go_meet
       case rel => exact leaf4 hSB hS1 (hU.trans hs1) k1 hs2 k2 huE (hQ.up hs1) (hR.up hs1) (by omega) (by omega) (by omega)
     ·try simp only [Act.put, pu1, pu2, pu3]
      replace hU := hU.trans hw53
      replace hP := hP.up hw53
      replace hT := hT.up hw53
      replace hq := hq.up hw53
      have ha53 := Up.alloc w53 (.cells #[.bool false, .slice none 0 0] 69)
      have hp_le : wS.heap.size <= w53.heap.size := hU.size
      have hne := hq.lt
      replace hU := hU.trans ha53
      replace hP := hP.up ha53
      replace hT := hT.up ha53
      replace hq := hq.up ha53
      have hp : Blk _ w53.heap.size 69 #[.bool false, .slice none 0 0] := blk_new (w := w53) rfl
      generalize ep : w53.heap.size = p' at hp hp_le hne ⊢
      refine wpAnyU_callE (i := 7) (d := some 17) rfl rfl (by kernel_rfl) (by rfl) hSu.out (fun w' => by go_simp) (fun w' hw' => mul_big (hS5.up (hU.trans hw')) (hB.out.up (below_up hSB (hU.trans hw'))) nTwo hy1) (fun v59 w59 hw59 hr59 => ?_)
      try simp only [Act.put, pu1, pu2, pu3]
      replace hU := hU.trans hw59
      replace hP := hP.up hw59
      replace hT := hT.up hw59
      replace hp := hp.up hw59
      replace hq := hq.up hw59
      obtain ⟨b59, a59, n59, c59, rfl⟩ := hr59.shape
      have hV := hr59
      refine wpAnyU_callE (i := 8) (d := some 18) rfl rfl (by kernel_rfl) (by rfl) hSu.out (fun w' => by go_simp) (fun w' hw' => div_big (hT.up hw') (hV.up hw') hs h2y) (fun v60 w60 hw60 hr60 => ?_)
      try simp only [Act.put, pu1, pu2, pu3]
      replace hU := hU.trans hw60
      replace hP := hP.up hw60
      replace hT := hT.up hw60
      replace hV := hV.up hw60
      replace hp := hp.up hw60
      replace hq := hq.up hw60
      obtain ⟨b60, a60, n60, c60, d60, e60, f60, g60, rfl, hQ, hR⟩ := hr60
      refine tkP 9 (some 9) hSu ?_
      refine tkP 10 (some 19) hSu ?_
      refine tkP 11 (some 20) hSu ?_
      refine wpAnyU_one (i := 14) rfl (by kernel_rfl) (by rfl) fun s1 hs1 => ?_
      have k1 := hp.up hs1
      refine wp_stB rfl rfl rfl rfl k1 rfl rfl (one2 _ _ _ _) ?_
      refine ⟨fun h => by simp at h, ?_⟩
      try simp only [Act.put, pu1]
      refine wpAnyU_one (i := 15) rfl (by kernel_rfl) (by rfl) fun s2 hs2 => ?_
      have k2 := ((hq.up hs1).row_other _ (show q' ≠ p' by omega)).up hs2
      refine wp_stB rfl rfl rfl rfl k2 rfl rfl (one2 _ _ _ _) ?_
      refine ⟨fun h => by simp at h, ?_⟩
      try simp only [Act.put, pu1]
      refine wpAnyU_done (by kernel_rfl) (fun wF huE => ?_) _
      go_wp2
      go_meet
      case rel => exact leaf4 hSB hS1 (hU.trans hs1) k1 hs2 k2 huE (hQ.up hs1) (hR.up hs1) (by omega) (by omega) (by omega)
    ·try simp only [Act.put, pu1, pu2, pu3]
     replace hU := hU.trans hw52
     replace hP := hP.up hw52
     replace hq := hq.up hw52
     have ha52 := Up.alloc w52 (.cells #[.bool false, .slice none 0 0] 69)
     have hp_le : wS.heap.size <= w52.heap.size := hU.size
     have hne := hq.lt
     replace hU := hU.trans ha52
     replace hP := hP.up ha52
     replace hq := hq.up ha52
     have hp : Blk _ w52.heap.size 69 #[.bool false, .slice none 0 0] := blk_new (w := w52) rfl
     generalize ep : w52.heap.size = p' at hp hp_le hne ⊢
     refine wpAnyU_callE (i := 4) (d := some 14) rfl rfl (by kernel_rfl) (by rfl) hSu.out (fun w' => by go_simp) (fun w' hw' => add_big (hP.up hw') (hB.out.up (below_up hSB (hU.trans hw'))) h2x hy1) (fun v62 w62 hw62 hr62 => ?_)
     try simp only [Act.put, pu1, pu2, pu3]
     replace hU := hU.trans hw62
     replace hP := hP.up hw62
     replace hp := hp.up hw62
     replace hq := hq.up hw62
     obtain ⟨b62, a62, n62, c62, rfl⟩ := hr62.shape
     have hT := hr62
     refine wpAnyU_callE (i := 7) (d := some 17) rfl rfl (by kernel_rfl) (by rfl) hSu.out (fun w' => by go_simp) (fun w' hw' => mul_big (hS5.up (hU.trans hw')) (hB.out.up (below_up hSB (hU.trans hw'))) nTwo hy1) (fun v63 w63 hw63 hr63 => ?_)
     try simp only [Act.put, pu1, pu2, pu3]
     replace hU := hU.trans hw63
     replace hP := hP.up hw63
     replace hT := hT.up hw63
     replace hp := hp.up hw63
     replace hq := hq.up hw63
     obtain ⟨b63, a63, n63, c63, rfl⟩ := hr63.shape
     have hV := hr63
     refine wpAnyU_callE (i := 8) (d := some 18) rfl rfl (by kernel_rfl) (by rfl) hSu.out (fun w' => by go_simp) (fun w' hw' => div_big (hT.up hw') (hV.up hw') hs h2y) (fun v64 w64 hw64 hr64 => ?_)
     try simp only [Act.put, pu1, pu2, pu3]
     replace hU := hU.trans hw64
     replace hP := hP.up hw64
     replace hT := hT.up hw64
     replace hV := hV.up hw64
     replace hp := hp.up hw64
     replace hq := hq.up hw64
     obtain ⟨b64, a64, n64, c64, d64, e64, f64, g64, rfl, hQ, hR⟩ := hr64
     refine tkP 9 (some 9) hSu ?_
     refine tkP 10 (some 19) hSu ?_
     refine tkP 11 (some 20) hSu ?_
     refine wpAnyU_one (i := 14) rfl (by kernel_rfl) (by rfl) fun s1 hs1 => ?_
     have k1 := hp.up hs1
     refine wp_stB rfl rfl rfl rfl k1 rfl rfl (one2 _ _ _ _) ?_
     refine ⟨fun h => by simp at h, ?_⟩
     try simp only [Act.put, pu1]
     refine wpAnyU_one (i := 15) rfl (by kernel_rfl) (by rfl) fun s2 hs2 => ?_
     have k2 := ((hq.up hs1).row_other _ (show q' ≠ p' by omega)).up hs2
     refine wp_stB rfl rfl rfl rfl k2 rfl rfl (one2 _ _ _ _) ?_
     refine ⟨fun h => by simp at h, ?_⟩
     try simp only [Act.put, pu1]
     refine wpAnyU_done (by kernel_rfl) (fun wF huE => ?_) _
     go_wp2
     go_meet
     case rel => exact leaf4 hSB hS1 (hU.trans hs1) k1 hs2 k2 huE (hQ.up hs1) (hR.up hs1) (by omega) (by omega) (by omega)
  ·try simp only [Act.put, pu1, pu2, pu3]
   replace hU := hU.trans hw1
   have ha1 := Up.alloc w1 (.cells #[.bool false, .slice none 0 0] 69)
   have hp_le : wS.heap.size <= w1.heap.size := hU.size
   replace hU := hU.trans ha1
   have hp : Blk _ w1.heap.size 69 #[.bool false, .slice none 0 0] := blk_new (w := w1) rfl
   generalize ep : w1.heap.size = p' at hp hp_le ⊢
   refine wpAnyU_ca1 (i := 2) (j := 13) (d := some 12) (dj := some 7) (by kernel_rfl) rfl rfl (by rfl) rfl rfl (by rfl) rfl hSu.out (fun w' => by go_simp) (fun w' hw' => mul_big (hS5.up (hU.trans hw')) (hA.out.up (below_up hSB (hU.trans hw'))) nTwo hx1) (fun v66 w66 hw66 hr66 => ?_) (fun w66 hw66 => ?_)
   ·try simp only [Act.put, pu1, pu2, pu3]
    replace hU := hU.trans hw66
    replace hp := hp.up hw66
    obtain ⟨b66, a66, n66, c66, rfl⟩ := hr66.shape
    have hP := hr66
    refine wpAnyU_ca1 (i := 4) (j := 13) (d := some 14) (dj := some 7) (by kernel_rfl) rfl rfl (by rfl) rfl rfl (by rfl) rfl hSu.out (fun w' => by go_simp) (fun w' hw' => add_big (hP.up hw') (hB.out.up (below_up hSB (hU.trans hw'))) h2x hy1) (fun v67 w67 hw67 hr67 => ?_) (fun w67 hw67 => ?_)
    ·try simp only [Act.put, pu1, pu2, pu3]
     replace hU := hU.trans hw67
     replace hP := hP.up hw67
     replace hp := hp.up hw67
     obtain ⟨b67, a67, n67, c67, rfl⟩ := hr67.shape
     have hT := hr67
     refine wpAnyU_ca1 (i := 7) (j := 13) (d := some 17) (dj := some 7) (by kernel_rfl) rfl rfl (by rfl) rfl rfl (by rfl) rfl hSu.out (fun w' => by go_simp) (fun w' hw' => mul_big (hS5.up (hU.trans hw')) (hB.out.up (below_up hSB (hU.trans hw'))) nTwo hy1) (fun v68 w68 hw68 hr68 => ?_) (fun w68 hw68 => ?_)
     ·try simp only [Act.put, pu1, pu2, pu3]
      replace hU := hU.trans hw68
      replace hP := hP.up hw68
      replace hT := hT.up hw68
      replace hp := hp.up hw68
      obtain ⟨b68, a68, n68, c68, rfl⟩ := hr68.shape
      have hV := hr68
      refine wpAnyU_ca1 (i := 8) (j := 13) (d := some 18) (dj := some 7) (by kernel_rfl) rfl rfl (by rfl) rfl rfl (by rfl) rfl hSu.out (fun w' => by go_simp) (fun w' hw' => div_big (hT.up hw') (hV.up hw') hs h2y) (fun v69 w69 hw69 hr69 => ?_) (fun w69 hw69 => ?_)
      ·try simp only [Act.put, pu1, pu2, pu3]
       replace hU := hU.trans hw69
       replace hP := hP.up hw69
       replace hT := hT.up hw69
       replace hV := hV.up hw69
       replace hp := hp.up hw69
       obtain ⟨b69, a69, n69, c69, d69, e69, f69, g69, rfl, hQ, hR⟩ := hr69
       refine tkP 9 (some 9) hSu ?_
       refine tkP 10 (some 19) hSu ?_
       refine tkP 11 (some 20) hSu ?_
       refine wpAnyU_allocB (i := 13) (d := some 7) rfl rfl (by kernel_rfl) (by rfl) rfl hSu.out (fun w70 hw70 => ?_)
       try simp only [Act.put, pu1, pu2, pu3]
       replace hU := hU.trans hw70
       replace hP := hP.up hw70
       replace hT := hT.up hw70
       replace hV := hV.up hw70
       replace hQ := hQ.up hw70
       replace hR := hR.up hw70
       replace hp := hp.up hw70
       have ha70 := Up.alloc w70 (.cells #[.bool false, .slice none 0 0] 69)
       have hq_le : wS.heap.size <= w70.heap.size := hU.size
       have hne := hp.lt
       replace hU := hU.trans ha70
       replace hP := hP.up ha70
       replace hT := hT.up ha70
       replace hV := hV.up ha70
       replace hQ := hQ.up ha70
       replace hR := hR.up ha70
       replace hp := hp.up ha70
       have hq : Blk _ w70.heap.size 69 #[.bool false, .slice none 0 0] := blk_new (w := w70) rfl
       generalize eq : w70.heap.size = q' at hq hq_le hne ⊢
       refine wpAnyU_one (i := 14) rfl (by kernel_rfl) (by rfl) fun s1 hs1 => ?_
       have k1 := hp.up hs1
       refine wp_stB rfl rfl rfl rfl k1 rfl rfl (one2 _ _ _ _) ?_
       refine ⟨fun h => by simp at h, ?_⟩
       try simp only [Act.put, pu1]
       refine wpAnyU_one (i := 15) rfl (by kernel_rfl) (by rfl) fun s2 hs2 => ?_
       have k2 := ((hq.up hs1).row_other _ (show q' ≠ p' by omega)).up hs2
       refine wp_stB rfl rfl rfl rfl k2 rfl rfl (one2 _ _ _ _) ?_
       refine ⟨fun h => by simp at h, ?_⟩
       try simp only [Act.put, pu1]
       refine wpAnyU_done (by kernel_rfl) (fun wF huE => ?_) _
       go_wp2
       go_meet
       case rel => exact leaf4 hSB hS1 (hU.trans hs1) k1 hs2 k2 huE (hQ.up hs1) (hR.up hs1) (by omega) (by omega) (by omega)
      ·try simp only [Act.put, pu1, pu2, pu3]
       replace hU := hU.trans hw69
       replace hP := hP.up hw69
       replace hT := hT.up hw69
       replace hV := hV.up hw69
       replace hp := hp.up hw69
       have ha69 := Up.alloc w69 (.cells #[.bool false, .slice none 0 0] 69)
       have hq_le : wS.heap.size <= w69.heap.size := hU.size
       have hne := hp.lt
       replace hU := hU.trans ha69
       replace hP := hP.up ha69
       replace hT := hT.up ha69
       replace hV := hV.up ha69
       replace hp := hp.up ha69
       have hq : Blk _ w69.heap.size 69 #[.bool false, .slice none 0 0] := blk_new (w := w69) rfl
       generalize eq : w69.heap.size = q' at hq hq_le hne ⊢
       refine wpAnyU_callE (i := 8) (d := some 18) rfl rfl (by kernel_rfl) (by rfl) hSu.out (fun w' => by go_simp) (fun w' hw' => div_big (hT.up hw') (hV.up hw') hs h2y) (fun v72 w72 hw72 hr72 => ?_)
       try simp only [Act.put, pu1, pu2, pu3]
       replace hU := hU.trans hw72
       replace hP := hP.up hw72
       replace hT := hT.up hw72
       replace hV := hV.up hw72
       replace hp := hp.up hw72
       replace hq := hq.up hw72
       obtain ⟨b72, a72, n72, c72, d72, e72, f72, g72, rfl, hQ, hR⟩ := hr72
       refine tkP 9 (some 9) hSu ?_
       refine tkP 10 (some 19) hSu ?_
       refine tkP 11 (some 20) hSu ?_
       refine wpAnyU_one (i := 14) rfl (by kernel_rfl) (by rfl) fun s1 hs1 => ?_
       have k1 := hp.up hs1
       refine wp_stB rfl rfl rfl rfl k1 rfl rfl (one2 _ _ _ _) ?_
       refine ⟨fun h => by simp at h, ?_⟩
       try simp only [Act.put, pu1]
       refine wpAnyU_one (i := 15) rfl (by kernel_rfl) (by rfl) fun s2 hs2 => ?_
       have k2 := ((hq.up hs1).row_other _ (show q' ≠ p' by omega)).up hs2
       refine wp_stB rfl rfl rfl rfl k2 rfl rfl (one2 _ _ _ _) ?_
       refine ⟨fun h => by simp at h, ?_⟩
       try simp only [Act.put, pu1]
       refine wpAnyU_done (by kernel_rfl) (fun wF huE => ?_) _
       go_wp2
       go_meet
       case rel => exact leaf4 hSB hS1 (hU.trans hs1) k1 hs2 k2 huE (hQ.up hs1) (hR.up hs1) (by omega) (by omega) (by omega)
     ·try simp only [Act.put, pu1, pu2, pu3]
      replace hU := hU.trans hw68
      replace hP := hP.up hw68
      replace hT := hT.up hw68
      replace hp := hp.up hw68
      have ha68 := Up.alloc w68 (.cells #[.bool false, .slice none 0 0] 69)
      have hq_le : wS.heap.size <= w68.heap.size := hU.size
      have hne := hp.lt
      replace hU := hU.trans ha68
      replace hP := hP.up ha68
      replace hT := hT.up ha68
      replace hp := hp.up ha68
      have hq : Blk _ w68.heap.size 69 #[.bool false, .slice none 0 0] := blk_new (w := w68) rfl
      generalize eq : w68.heap.size = q' at hq hq_le hne ⊢
      refine wpAnyU_callE (i := 7) (d := some 17) rfl rfl (by kernel_rfl) (by rfl) hSu.out (fun w' => by go_simp) (fun w' hw' => mul_big (hS5.up (hU.trans hw')) (hB.out.up (below_up hSB (hU.trans hw'))) nTwo hy1) (fun v74 w74 hw74 hr74 => ?_)
      try simp only [Act.put, pu1, pu2, pu3]
      replace hU := hU.trans hw74
      replace hP := hP.up hw74
      replace hT := hT.up hw74
      replace hp := hp.up hw74
      replace hq := hq.up hw74
      obtain ⟨b74, a74, n74, c74, rfl⟩ := hr74.shape
      have hV := hr74
      refine wpAnyU_callE (i := 8) (d := some 18) rfl rfl (by kernel_rfl) (by rfl) hSu.out (fun w' => by go_simp) (fun w' hw' => div_big (hT.up hw') (hV.up hw') hs h2y) (fun v75 w75 hw75 hr75 => ?_)
      try simp only [Act.put, pu1, pu2, pu3]
      replace hU := hU.trans hw75
      replace hP := hP.up hw75
      replace hT := hT.up hw75
      replace hV := hV.up hw75
      replace hp := hp.up hw75
      replace hq := hq.up hw75
      obtain ⟨b75, a75, n75, c75, d75, e75, f75, g75, rfl, hQ, hR⟩ := hr75
      refine tkP 9 (some 9) hSu ?_
      refine tkP 10 (some 19) hSu ?_
      refine tkP 11 (some 20) hSu ?_
      refine wpAnyU_one (i := 14) rfl (by kernel_rfl) (by rfl) fun s1 hs1 => ?_
      have k1 := hp.up hs1
      refine wp_stB rfl rfl rfl rfl k1 rfl rfl (one2 _ _ _ _) ?_
      refine ⟨fun h => by simp at h, ?_⟩
      try simp only [Act.put, pu1]
      refine wpAnyU_one (i := 15) rfl (by kernel_rfl) (by rfl) fun s2 hs2 => ?_
      have k2 := ((hq.up hs1).row_other _ (show q' ≠ p' by omega)).up hs2
      refine wp_stB rfl rfl rfl rfl k2 rfl rfl (one2 _ _ _ _) ?_
      refine ⟨fun h => by simp at h, ?_⟩
      try simp only [Act.put, pu1]
      refine wpAnyU_done (by kernel_rfl) (fun wF huE => ?_) _
      go_wp2
      go_meet
      case rel => exact leaf4 hSB hS1 (hU.trans hs1) k1 hs2 k2 huE (hQ.up hs1) (hR.up hs1) (by omega) (by omega) (by omega)
    ·try simp only [Act.put, pu1, pu2, pu3]
     replace hU := hU.trans hw67
     replace hP := hP.up hw67
     replace hp := hp.up hw67
     have ha67 := Up.alloc w67 (.cells #[.bool false, .slice none 0 0] 69)
     have hq_le : wS.heap.size <= w67.heap.size := hU.size
     have hne := hp.lt
     replace hU := hU.trans ha67
     replace hP := hP.up ha67
     replace hp := hp.up ha67
     have hq : Blk _ w67.heap.size 69 #[.bool false, .slice none 0 0] := blk_new (w := w67) rfl
     generalize eq : w67.heap.size = q' at hq hq_le hne ⊢
     refine wpAnyU_callE (i := 4) (d := some 14) rfl rfl (by kernel_rfl) (by rfl) hSu.out (fun w' => by go_simp) (fun w' hw' => add_big (hP.up hw') (hB.out.up (below_up hSB (hU.trans hw'))) h2x hy1) (fun v77 w77 hw77 hr77 => ?_)
     try simp only [Act.put, pu1, pu2, pu3]
     replace hU := hU.trans hw77
     replace hP := hP.up hw77
     replace hp := hp.up hw77
     replace hq := hq.up hw77
     obtain ⟨b77, a77, n77, c77, rfl⟩ := hr77.shape
     have hT := hr77
     refine wpAnyU_callE (i := 7) (d := some 17) rfl rfl (by kernel_rfl) (by rfl) hSu.out (fun w' => by go_simp) (fun w' hw' => mul_big (hS5.up (hU.trans hw')) (hB.out.up (below_up hSB (hU.trans hw'))) nTwo hy1) (fun v78 w78 hw78 hr78 => ?_)
     try simp only [Act.put, pu1, pu2, pu3]
     replace hU := hU.trans hw78
     replace hP := hP.up hw78
     replace hT := hT.up hw78
     replace hp := hp.up hw78
     replace hq := hq.up hw78
     obtain ⟨b78, a78, n78, c78, rfl⟩ := hr78.shape
     have hV := hr78
     refine wpAnyU_callE (i := 8) (d := some 18) rfl rfl (by kernel_rfl) (by rfl) hSu.out (fun w' => by go_simp) (fun w' hw' => div_big (hT.up hw') (hV.up hw') hs h2y) (fun v79 w79 hw79 hr79 => ?_)
     try simp only [Act.put, pu1, pu2, pu3]
     replace hU := hU.trans hw79
     replace hP := hP.up hw79
     replace hT := hT.up hw79
     replace hV := hV.up hw79
     replace hp := hp.up hw79
     replace hq := hq.up hw79
     obtain ⟨b79, a79, n79, c79, d79, e79, f79, g79, rfl, hQ, hR⟩ := hr79
     refine tkP 9 (some 9) hSu ?_
     refine tkP 10 (some 19) hSu ?_
     refine tkP 11 (some 20) hSu ?_
     refine wpAnyU_one (i := 14) rfl (by kernel_rfl) (by rfl) fun s1 hs1 => ?_
     have k1 := hp.up hs1
     refine wp_stB rfl rfl rfl rfl k1 rfl rfl (one2 _ _ _ _) ?_
     refine ⟨fun h => by simp at h, ?_⟩
     try simp only [Act.put, pu1]
     refine wpAnyU_one (i := 15) rfl (by kernel_rfl) (by rfl) fun s2 hs2 => ?_
     have k2 := ((hq.up hs1).row_other _ (show q' ≠ p' by omega)).up hs2
     refine wp_stB rfl rfl rfl rfl k2 rfl rfl (one2 _ _ _ _) ?_
     refine ⟨fun h => by simp at h, ?_⟩
     try simp only [Act.put, pu1]
     refine wpAnyU_done (by kernel_rfl) (fun wF huE => ?_) _
     go_wp2
     go_meet
     case rel => exact leaf4 hSB hS1 (hU.trans hs1) k1 hs2 k2 huE (hQ.up hs1) (hR.up hs1) (by omega) (by omega) (by omega)
   ·try simp only [Act.put, pu1, pu2, pu3]
    replace hU := hU.trans hw66
    replace hp := hp.up hw66
    have ha66 := Up.alloc w66 (.cells #[.bool false, .slice none 0 0] 69)
    have hq_le : wS.heap.size <= w66.heap.size := hU.size
    have hne := hp.lt
    replace hU := hU.trans ha66
    replace hp := hp.up ha66
    have hq : Blk _ w66.heap.size 69 #[.bool false, .slice none 0 0] := blk_new (w := w66) rfl
    generalize eq : w66.heap.size = q' at hq hq_le hne ⊢
    refine wpAnyU_callE (i := 2) (d := some 12) rfl rfl (by kernel_rfl) (by rfl) hSu.out (fun w' => by go_simp) (fun w' hw' => mul_big (hS5.up (hU.trans hw')) (hA.out.up (below_up hSB (hU.trans hw'))) nTwo hx1) (fun v81 w81 hw81 hr81 => ?_)
    try simp only [Act.put, pu1, pu2, pu3]
    replace hU := hU.trans hw81
    replace hp := hp.up hw81
    replace hq := hq.up hw81
    obtain ⟨b81, a81, n81, c81, rfl⟩ := hr81.shape
    have hP := hr81
    refine wpAnyU_callE (i := 4) (d := some 14) rfl rfl (by kernel_rfl) (by rfl) hSu.out (fun w' => by go_simp) (fun w' hw' => add_big (hP.up hw') (hB.out.up (below_up hSB (hU.trans hw'))) h2x hy1) (fun v82 w82 hw82 hr82 => ?_)
    try simp only [Act.put, pu1, pu2, pu3]
    replace hU := hU.trans hw82
    replace hP := hP.up hw82
    replace hp := hp.up hw82
    replace hq := hq.up hw82
    obtain ⟨b82, a82, n82, c82, rfl⟩ := hr82.shape
    have hT := hr82
    refine wpAnyU_callE (i := 7) (d := some 17) rfl rfl (by kernel_rfl) (by rfl) hSu.out (fun w' => by go_simp) (fun w' hw' => mul_big (hS5.up (hU.trans hw')) (hB.out.up (below_up hSB (hU.trans hw'))) nTwo hy1) (fun v83 w83 hw83 hr83 => ?_)
    try simp only [Act.put, pu1, pu2, pu3]
    replace hU := hU.trans hw83
    replace hP := hP.up hw83
    replace hT := hT.up hw83
    replace hp := hp.up hw83
    replace hq := hq.up hw83
    obtain ⟨b83, a83, n83, c83, rfl⟩ := hr83.shape
    have hV := hr83
    refine wpAnyU_callE (i := 8) (d := some 18) rfl rfl (by kernel_rfl) (by rfl) hSu.out (fun w' => by go_simp) (fun w' hw' => div_big (hT.up hw') (hV.up hw') hs h2y) (fun v84 w84 hw84 hr84 => ?_)
    try simp only [Act.put, pu1, pu2, pu3]
    replace hU := hU.trans hw84
    replace hP := hP.up hw84
    replace hT := hT.up hw84
    replace hV := hV.up hw84
    replace hp := hp.up hw84
    replace hq := hq.up hw84
    obtain ⟨b84, a84, n84, c84, d84, e84, f84, g84, rfl, hQ, hR⟩ := hr84
    refine tkP 9 (some 9) hSu ?_
    refine tkP 10 (some 19) hSu ?_
    refine tkP 11 (some 20) hSu ?_
    refine wpAnyU_one (i := 14) rfl (by kernel_rfl) (by rfl) fun s1 hs1 => ?_
    have k1 := hp.up hs1
    refine wp_stB rfl rfl rfl rfl k1 rfl rfl (one2 _ _ _ _) ?_
    refine ⟨fun h => by simp at h, ?_⟩
    try simp only [Act.put, pu1]
    refine wpAnyU_one (i := 15) rfl (by kernel_rfl) (by rfl) fun s2 hs2 => ?_
    have k2 := ((hq.up hs1).row_other _ (show q' ≠ p' by omega)).up hs2
    refine wp_stB rfl rfl rfl rfl k2 rfl rfl (one2 _ _ _ _) ?_
    refine ⟨fun h => by simp at h, ?_⟩
    try simp only [Act.put, pu1]
    refine wpAnyU_done (by kernel_rfl) (fun wF huE => ?_) _
    go_wp2
    go_meet
    case rel => exact leaf4 hSB hS1 (hU.trans hs1) k1 hs2 k2 huE (hQ.up hs1) (hR.up hs1) (by omega) (by omega) (by omega)
  ·try simp only [Act.put, pu1, pu2, pu3]
   replace hU := hU.trans hw1
   have ha1 := Up.alloc w1 (.cells #[.bool false, .slice none 0 0] 69)
   have hq_le : wS.heap.size <= w1.heap.size := hU.size
   replace hU := hU.trans ha1
   have hq : Blk _ w1.heap.size 69 #[.bool false, .slice none 0 0] := blk_new (w := w1) rfl
   generalize eq : w1.heap.size = q' at hq hq_le ⊢
   refine wpAnyU_ca1 (i := 2) (j := 12) (d := some 12) (dj := some 6) (by kernel_rfl) rfl rfl (by rfl) rfl rfl (by rfl) rfl hSu.out (fun w' => by go_simp) (fun w' hw' => mul_big (hS5.up (hU.trans hw')) (hA.out.up (below_up hSB (hU.trans hw'))) nTwo hx1) (fun v86 w86 hw86 hr86 => ?_) (fun w86 hw86 => ?_)
   ·try simp only [Act.put, pu1, pu2, pu3]
    replace hU := hU.trans hw86
    replace hq := hq.up hw86
    obtain ⟨b86, a86, n86, c86, rfl⟩ := hr86.shape
    have hP := hr86
    refine wpAnyU_ca1 (i := 4) (j := 12) (d := some 14) (dj := some 6) (by kernel_rfl) rfl rfl (by rfl) rfl rfl (by rfl) rfl hSu.out (fun w' => by go_simp) (fun w' hw' => add_big (hP.up hw') (hB.out.up (below_up hSB (hU.trans hw'))) h2x hy1) (fun v87 w87 hw87 hr87 => ?_) (fun w87 hw87 => ?_)
    ·try simp only [Act.put, pu1, pu2, pu3]
     replace hU := hU.trans hw87
     replace hP := hP.up hw87
     replace hq := hq.up hw87
     obtain ⟨b87, a87, n87, c87, rfl⟩ := hr87.shape
     have hT := hr87
     refine wpAnyU_ca1 (i := 7) (j := 12) (d := some 17) (dj := some 6) (by kernel_rfl) rfl rfl (by rfl) rfl rfl (by rfl) rfl hSu.out (fun w' => by go_simp) (fun w' hw' => mul_big (hS5.up (hU.trans hw')) (hB.out.up (below_up hSB (hU.trans hw'))) nTwo hy1) (fun v88 w88 hw88 hr88 => ?_) (fun w88 hw88 => ?_)
     ·try simp only [Act.put, pu1, pu2, pu3]
      replace hU := hU.trans hw88
      replace hP := hP.up hw88
      replace hT := hT.up hw88
      replace hq := hq.up hw88
      obtain ⟨b88, a88, n88, c88, rfl⟩ := hr88.shape
      have hV := hr88
      refine wpAnyU_ca1 (i := 8) (j := 12) (d := some 18) (dj := some 6) (by kernel_rfl) rfl rfl (by rfl) rfl rfl (by rfl) rfl hSu.out (fun w' => by go_simp) (fun w' hw' => div_big (hT.up hw') (hV.up hw') hs h2y) (fun v89 w89 hw89 hr89 => ?_) (fun w89 hw89 => ?_)
      ·try simp only [Act.put, pu1, pu2, pu3]
       replace hU := hU.trans hw89
       replace hP := hP.up hw89
       replace hT := hT.up hw89
       replace hV := hV.up hw89
       replace hq := hq.up hw89
       obtain ⟨b89, a89, n89, c89, d89, e89, f89, g89, rfl, hQ, hR⟩ := hr89
       refine tkP 9 (some 9) hSu ?_
       refine tkP 10 (some 19) hSu ?_
       refine tkP 11 (some 20) hSu ?_
       refine wpAnyU_allocB (i := 12) (d := some 6) rfl rfl (by kernel_rfl) (by rfl) rfl hSu.out (fun w90 hw90 => ?_)
       try simp only [Act.put, pu1, pu2, pu3]
       replace hU := hU.trans hw90
       replace hP := hP.up hw90
       replace hT := hT.up hw90
       replace hV := hV.up hw90
       replace hQ := hQ.up hw90
       replace hR := hR.up hw90
       replace hq := hq.up hw90
       have ha90 := Up.alloc w90 (.cells #[.bool false, .slice none 0 0] 69)
       have hp_le : wS.heap.size <= w90.heap.size := hU.size
       have hne := hq.lt
       replace hU := hU.trans ha90
       replace hP := hP.up ha90
       replace hT := hT.up ha90
       replace hV := hV.up ha90
       replace hQ := hQ.up ha90
       replace hR := hR.up ha90
       replace hq := hq.up ha90
       have hp : Blk _ w90.heap.size 69 #[.bool false, .slice none 0 0] := blk_new (w := w90) rfl
       generalize ep : w90.heap.size = p' at hp hp_le hne ⊢
       refine wpAnyU_one (i := 14) rfl (by kernel_rfl) (by rfl) fun s1 hs1 => ?_
       have k1 := hp.up hs1
       refine wp_stB rfl rfl rfl rfl k1 rfl rfl (one2 _ _ _ _) ?_
       refine ⟨fun h => by simp at h, ?_⟩
       try simp only [Act.put, pu1]
       refine wpAnyU_one (i := 15) rfl (by kernel_rfl) (by rfl) fun s2 hs2 => ?_
       have k2 := ((hq.up hs1).row_other _ (show q' ≠ p' by omega)).up hs2
       refine wp_stB rfl rfl rfl rfl k2 rfl rfl (one2 _ _ _ _) ?_
       refine ⟨fun h => by simp at h, ?_⟩
       try simp only [Act.put, pu1]
       refine wpAnyU_done (by kernel_rfl) (fun wF huE => ?_) _
       go_wp2
       go_meet
       case rel => exact leaf4 hSB hS1 (hU.trans hs1) k1 hs2 k2 huE (hQ.up hs1) (hR.up hs1) (by omega) (by omega) (by omega)
      ·try simp only [Act.put, pu1, pu2, pu3]
       replace hU := hU.trans hw89
       replace hP := hP.up hw89
       replace hT := hT.up hw89
       replace hV := hV.up hw89
       replace hq := hq.up hw89
       have ha89 := Up.alloc w89 (.cells #[.bool false, .slice none 0 0] 69)
       have hp_le : wS.heap.size <= w89.heap.size := hU.size
       have hne := hq.lt
       replace hU := hU.trans ha89
       replace hP := hP.up ha89
       replace hT := hT.up ha89
       replace hV := hV.up ha89
       replace hq := hq.up ha89
       have hp : Blk _ w89.heap.size 69 #[.bool false, .slice none 0 0] := blk_new (w := w89) rfl
       generalize ep : w89.heap.size = p' at hp hp_le hne ⊢
       refine wpAnyU_callE (i := 8) (d := some 18) rfl rfl (by kernel_rfl) (by rfl) hSu.out (fun w' => by go_simp) (fun w' hw' => div_big (hT.up hw') (hV.up hw') hs h2y) (fun v92 w92 hw92 hr92 => ?_)
       try simp only [Act.put, pu1, pu2, pu3]
       replace hU := hU.trans hw92
       replace hP := hP.up hw92
       replace hT := hT.up hw92
       replace hV := hV.up hw92
       replace hp := hp.up hw92
       replace hq := hq.up hw92
       obtain ⟨b92, a92, n92, c92, d92, e92, f92, g92, rfl, hQ, hR⟩ := hr92
       refine tkP 9 (some 9) hSu ?_
       refine tkP 10 (some 19) hSu ?_
       refine tkP 11 (some 20) hSu ?_
       refine wpAnyU_one (i := 14) rfl (by kernel_rfl) (by rfl) fun s1 hs1 => ?_
       have k1 := hp.up hs1
       refine wp_stB rfl rfl rfl rfl k1 rfl rfl (one2 _ _ _ _) ?_
       refine ⟨fun h => by simp at h, ?_⟩
       try simp only [Act.put, pu1]
       refine wpAnyU_one (i := 15) rfl (by kernel_rfl) (by rfl) fun s2 hs2 => ?_
       have k2 := ((hq.up hs1).row_other _ (show q' ≠ p' by omega)).up hs2
       refine wp_stB rfl rfl rfl rfl k2 rfl rfl (one2 _ _ _ _) ?_
       refine ⟨fun h => by simp at h, ?_⟩
       try simp only [Act.put, pu1]
       refine wpAnyU_done (by kernel_rfl) (fun wF huE => ?_) _
       go_wp2
       go_meet
       case rel => exact leaf4 hSB hS1 (hU.trans hs1) k1 hs2 k2 huE (hQ.up hs1) (hR.up hs1) (by omega) (by omega) (by omega)
     ·try simp only [Act.put, pu1, pu2, pu3]
      replace hU := hU.trans hw88
      replace hP := hP.up hw88
      replace hT := hT.up hw88
      replace hq := hq.up hw88
      have ha88 := Up.alloc w88 (.cells #[.bool false, .slice none 0 0] 69)
      have hp_le : wS.heap.size <= w88.heap.size := hU.size
      have hne := hq.lt
      replace hU := hU.trans ha88
      replace hP := hP.up ha88
      replace hT := hT.up ha88
      replace hq := hq.up ha88
      have hp : Blk _ w88.heap.size 69 #[.bool false, .slice none 0 0] := blk_new (w := w88) rfl
      generalize ep : w88.heap.size = p' at hp hp_le hne ⊢
      refine wpAnyU_callE (i := 7) (d := some 17) rfl rfl (by kernel_rfl) (by rfl) hSu.out (fun w' => by go_simp) (fun w' hw' => mul_big (hS5.up (hU.trans hw')) (hB.out.up (below_up hSB (hU.trans hw'))) nTwo hy1) (fun v94 w94 hw94 hr94 => ?_)
      try simp only [Act.put, pu1, pu2, pu3]
      replace hU := hU.trans hw94
      replace hP := hP.up hw94
      replace hT := hT.up hw94
      replace hp := hp.up hw94
      replace hq := hq.up hw94
      obtain ⟨b94, a94, n94, c94, rfl⟩ := hr94.shape
      have hV := hr94
      refine wpAnyU_callE (i := 8) (d := some 18) rfl rfl (by kernel_rfl) (by rfl) hSu.out (fun w' => by go_simp) (fun w' hw' => div_big (hT.up hw') (hV.up hw') hs h2y) (fun v95 w95 hw95 hr95 => ?_)
      try simp only [Act.put, pu1, pu2, pu3]
      replace hU := hU.trans hw95
      replace hP := hP.up hw95
      replace hT := hT.up hw95
      replace hV := hV.up hw95
      replace hp := hp.up hw95
      replace hq := hq.up hw95
      obtain ⟨b95, a95, n95, c95, d95, e95, f95, g95, rfl, hQ, hR⟩ := hr95
      refine tkP 9 (some 9) hSu ?_
      refine tkP 10 (some 19) hSu ?_
      refine tkP 11 (some 20) hSu ?_
      refine wpAnyU_one (i := 14) rfl (by kernel_rfl) (by rfl) fun s1 hs1 => ?_
      have k1 := hp.up hs1
      refine wp_stB rfl rfl rfl rfl k1 rfl rfl (one2 _ _ _ _) ?_
      refine ⟨fun h => by simp at h, ?_⟩
      try simp only [Act.put, pu1]
      refine wpAnyU_one (i := 15) rfl (by kernel_rfl) (by rfl) fun s2 hs2 => ?_
      have k2 := ((hq.up hs1).row_other _ (show q' ≠ p' by omega)).up hs2
      refine wp_stB rfl rfl rfl rfl k2 rfl rfl (one2 _ _ _ _) ?_
      refine ⟨fun h => by simp at h, ?_⟩
      try simp only [Act.put, pu1]
      refine wpAnyU_done (by kernel_rfl) (fun wF huE => ?_) _
      go_wp2
      go_meet
      case rel => exact leaf4 hSB hS1 (hU.trans hs1) k1 hs2 k2 huE (hQ.up hs1) (hR.up hs1) (by omega) (by omega) (by omega)
    ·try simp only [Act.put, pu1, pu2, pu3]
     replace hU := hU.trans hw87
     replace hP := hP.up hw87
     replace hq := hq.up hw87
     have ha87 := Up.alloc w87 (.cells #[.bool false, .slice none 0 0] 69)
     have hp_le : wS.heap.size <= w87.heap.size := hU.size
     have hne := hq.lt
     replace hU := hU.trans ha87
     replace hP := hP.up ha87
     replace hq := hq.up ha87
     have hp : Blk _ w87.heap.size 69 #[.bool false, .slice none 0 0] := blk_new (w := w87) rfl
     generalize ep : w87.heap.size = p' at hp hp_le hne ⊢
     refine wpAnyU_callE (i := 4) (d := some 14) rfl rfl (by kernel_rfl) (by rfl) hSu.out (fun w' => by go_simp) (fun w' hw' => add_big (hP.up hw') (hB.out.up (below_up hSB (hU.trans hw'))) h2x hy1) (fun v97 w97 hw97 hr97 => ?_)
     try simp only [Act.put, pu1, pu2, pu3]
     replace hU := hU.trans hw97
     replace hP := hP.up hw97
     replace hp := hp.up hw97
     replace hq := hq.up hw97
     obtain ⟨b97, a97, n97, c97, rfl⟩ := hr97.shape
     have hT := hr97
     refine wpAnyU_callE (i := 7) (d := some 17) rfl rfl (by kernel_rfl) (by rfl) hSu.out (fun w' => by go_simp) (fun w' hw' => mul_big (hS5.up (hU.trans hw')) (hB.out.up (below_up hSB (hU.trans hw'))) nTwo hy1) (fun v98 w98 hw98 hr98 => ?_)
     try simp only [Act.put, pu1, pu2, pu3]
     replace hU := hU.trans hw98
     replace hP := hP.up hw98
     replace hT := hT.up hw98
     replace hp := hp.up hw98
     replace hq := hq.up hw98
     obtain ⟨b98, a98, n98, c98, rfl⟩ := hr98.shape
     have hV := hr98
     refine wpAnyU_callE (i := 8) (d := some 18) rfl rfl (by kernel_rfl) (by rfl) hSu.out (fun w' => by go_simp) (fun w' hw' => div_big (hT.up hw') (hV.up hw') hs h2y) (fun v99 w99 hw99 hr99 => ?_)
     try simp only [Act.put, pu1, pu2, pu3]
     replace hU := hU.trans hw99
     replace hP := hP.up hw99
     replace hT := hT.up hw99
     replace hV := hV.up hw99
     replace hp := hp.up hw99
     replace hq := hq.up hw99
     obtain ⟨b99, a99, n99, c99, d99, e99, f99, g99, rfl, hQ, hR⟩ := hr99
     refine tkP 9 (some 9) hSu ?_
     refine tkP 10 (some 19) hSu ?_
     refine tkP 11 (some 20) hSu ?_
     refine wpAnyU_one (i := 14) rfl (by kernel_rfl) (by rfl) fun s1 hs1 => ?_
     have k1 := hp.up hs1
     refine wp_stB rfl rfl rfl rfl k1 rfl rfl (one2 _ _ _ _) ?_
     refine ⟨fun h => by simp at h, ?_⟩
     try simp only [Act.put, pu1]
     refine wpAnyU_one (i := 15) rfl (by kernel_rfl) (by rfl) fun s2 hs2 => ?_
     have k2 := ((hq.up hs1).row_other _ (show q' ≠ p' by omega)).up hs2
     refine wp_stB rfl rfl rfl rfl k2 rfl rfl (one2 _ _ _ _) ?_
     refine ⟨fun h => by simp at h, ?_⟩
     try simp only [Act.put, pu1]
     refine wpAnyU_done (by kernel_rfl) (fun wF huE => ?_) _
     go_wp2
     go_meet
     case rel => exact leaf4 hSB hS1 (hU.trans hs1) k1 hs2 k2 huE (hQ.up hs1) (hR.up hs1) (by omega) (by omega) (by omega)
   ·try simp only [Act.put, pu1, pu2, pu3]
    replace hU := hU.trans hw86
    replace hq := hq.up hw86
    have ha86 := Up.alloc w86 (.cells #[.bool false, .slice none 0 0] 69)
    have hp_le : wS.heap.size <= w86.heap.size := hU.size
    have hne := hq.lt
    replace hU := hU.trans ha86
    replace hq := hq.up ha86
    have hp : Blk _ w86.heap.size 69 #[.bool false, .slice none 0 0] := blk_new (w := w86) rfl
    generalize ep : w86.heap.size = p' at hp hp_le hne ⊢
    refine wpAnyU_callE (i := 2) (d := some 12) rfl rfl (by kernel_rfl) (by rfl) hSu.out (fun w' => by go_simp) (fun w' hw' => mul_big (hS5.up (hU.trans hw')) (hA.out.up (below_up hSB (hU.trans hw'))) nTwo hx1) (fun v101 w101 hw101 hr101 => ?_)
    try simp only [Act.put, pu1, pu2, pu3]
    replace hU := hU.trans hw101
    replace hp := hp.up hw101
    replace hq := hq.up hw101
    obtain ⟨b101, a101, n101, c101, rfl⟩ := hr101.shape
    have hP := hr101
    refine wpAnyU_callE (i := 4) (d := some 14) rfl rfl (by kernel_rfl) (by rfl) hSu.out (fun w' => by go_simp) (fun w' hw' => add_big (hP.up hw') (hB.out.up (below_up hSB (hU.trans hw'))) h2x hy1) (fun v102 w102 hw102 hr102 => ?_)
    try simp only [Act.put, pu1, pu2, pu3]
    replace hU := hU.trans hw102
    replace hP := hP.up hw102
    replace hp := hp.up hw102
    replace hq := hq.up hw102
    obtain ⟨b102, a102, n102, c102, rfl⟩ := hr102.shape
    have hT := hr102
    refine wpAnyU_callE (i := 7) (d := some 17) rfl rfl (by kernel_rfl) (by rfl) hSu.out (fun w' => by go_simp) (fun w' hw' => mul_big (hS5.up (hU.trans hw')) (hB.out.up (below_up hSB (hU.trans hw'))) nTwo hy1) (fun v103 w103 hw103 hr103 => ?_)
    try simp only [Act.put, pu1, pu2, pu3]
    replace hU := hU.trans hw103
    replace hP := hP.up hw103
    replace hT := hT.up hw103
    replace hp := hp.up hw103
    replace hq := hq.up hw103
    obtain ⟨b103, a103, n103, c103, rfl⟩ := hr103.shape
    have hV := hr103
    refine wpAnyU_callE (i := 8) (d := some 18) rfl rfl (by kernel_rfl) (by rfl) hSu.out (fun w' => by go_simp) (fun w' hw' => div_big (hT.up hw') (hV.up hw') hs h2y) (fun v104 w104 hw104 hr104 => ?_)
    try simp only [Act.put, pu1, pu2, pu3]
    replace hU := hU.trans hw104
    replace hP := hP.up hw104
    replace hT := hT.up hw104
    replace hV := hV.up hw104
    replace hp := hp.up hw104
    replace hq := hq.up hw104
    obtain ⟨b104, a104, n104, c104, d104, e104, f104, g104, rfl, hQ, hR⟩ := hr104
    refine tkP 9 (some 9) hSu ?_
    refine tkP 10 (some 19) hSu ?_
    refine tkP 11 (some 20) hSu ?_
    refine wpAnyU_one (i := 14) rfl (by kernel_rfl) (by rfl) fun s1 hs1 => ?_
    have k1 := hp.up hs1
    refine wp_stB rfl rfl rfl rfl k1 rfl rfl (one2 _ _ _ _) ?_
    refine ⟨fun h => by simp at h, ?_⟩
    try simp only [Act.put, pu1]
    refine wpAnyU_one (i := 15) rfl (by kernel_rfl) (by rfl) fun s2 hs2 => ?_
    have k2 := ((hq.up hs1).row_other _ (show q' ≠ p' by omega)).up hs2
    refine wp_stB rfl rfl rfl rfl k2 rfl rfl (one2 _ _ _ _) ?_
    refine ⟨fun h => by simp at h, ?_⟩
    try simp only [Act.put, pu1]
    refine wpAnyU_done (by kernel_rfl) (fun wF huE => ?_) _
    go_wp2
    go_meet
    case rel => exact leaf4 hSB hS1 (hU.trans hs1) k1 hs2 k2 huE (hQ.up hs1) (hR.up hs1) (by omega) (by omega) (by omega)
 case rest =>
  obtain ⟨p', q', b4, a4, n4, c4, b5, a5, n5, c5, rfl, rfl, hKp, hKq, hQ, hR, hK4, hp4, hq4, hBel⟩ := hcut
  obtain ⟨sg, hsg⟩ : ∃ sg, decide (bsign b5 n5 < 0) = sg := ⟨_, rfl⟩
  have hval : (2 * x + y) / (2 * y) = if sg = true then (2 * x + y).tdiv (2 * y) - 1 else (2 * x + y).tdiv (2 * y) := by
   have h1 := HFl.out
   obtain ⟨a', c', he, -⟩ := hR
   obtain ⟨rfl, rfl, rfl, rfl⟩ : b5 = decide ((2 * x + y).tmod (2 * y) < 0) /\ a5 = a' /\ n5 = nl ((2 * x + y).tmod (2 * y)).natAbs /\ c5 = c' := by simpa using he
   rw [sgn_big] at hsg
   rw [h1, <- hsg]
   have : (sgn ((2 * x + y).tmod (2 * y)) < 0) ↔ ((2 * x + y).tmod (2 * y) < 0) := by
    unfold sgn
    split
    ·simp [*]
    ·split <;> simp [*]
   simp only [decide_eq_true_eq, this]
  have hqb : nl ((2 * x + y).tdiv (2 * y)).natAbs < 50000 := by
   have h1 : ((2 * x + y).tdiv (2 * y)).natAbs <= (2 * x + y).natAbs := by rw [Int.natAbs_tdiv]; exact Nat.div_le_self _ _
   have h2 := nl_le (Nat.lt_of_le_of_lt h1 (lt_bp_nl _))
   omega
  have HO1 := hid (fun w => of_big 1 (by decide) (by decide) w)
  have hneq : p' ≠ w.heap.size + 1 + 1 := by omega
  clear hR
  cases sg with
  | true =>
    rw [if_pos rfl] at hval
    have HV := hid hval
    clear hval
    go_wp2_with (first | ((with_reducible apply ldB_P); exact rfl; exact rfl; exact gBlk; exact rfl) | (go_at_call 71; (with_reducible refine (bsign_any _ _ _ _ _).mono ?_); rintro e wG ⟨rfl, huG⟩))
    refine opU (S := (fun wq => Blk wq (w.heap.size + 1 + 1) 69 #[.bool false, .slice none 0 0] /\ Blk wq p' 69 #[.bool b4, .slice a4 n4 c4] /\ Big wq (.agg #[.bool b4, .slice a4 n4 c4]) ((2 * x + y).tdiv (2 * y)) /\ Below w.heap.size w wq)) (req := (fun j => j != 3)) (fun _ _ h hu => ⟨(h.1).up hu, (h.2.1).up hu, (h.2.2.1).up hu, below_up (h.2.2.2) hu⟩) ⟨gBlk, gBlk, (by (repeat (first | assumption | ((with_reducible apply big_set); exact gBlk) | (with_reducible apply big_alloc) | ((with_reducible apply big_up); assumption))); done), gUp⟩ (fun wS hSS hSu => ?_)
    have ⟨hS1, hS2, hS3, hSB⟩ := hSS
    refine tkT 0 (some 24) rfl hSu hSS ?_ (hy := fun w' hSw => run_ldB rfl rfl hSw.2.1 rfl)
    refine wpAnyU_callE (i := 1) (d := (some 25)) rfl rfl (by kernel_rfl) (by rfl) hSu.out (fun w' => by go_simp) (fun w' hw' => HO1.out w') fun vO wO hwO hRO => ?_
    try simp only [Act.put, pu1, pu2, pu3]
    obtain ⟨b6, a6, n6, c6, rfl⟩ := hRO.shape
    refine wpAnyU_callE (i := 2) (d := (some 26)) rfl rfl (by kernel_rfl) (by rfl) hSu.out (fun w' => by go_simp) (fun w' hw' => sub_big ((hS3.up hwO).up hw') (hRO.up hw') hqb nOne) fun vD wD hwD hRD => ?_
    try simp only [Act.put, pu1, pu2, pu3]
    obtain ⟨b7, a7, n7, c7, rfl⟩ := hRD.shape
    refine wpAnyU_one (i := 3) rfl (by kernel_rfl) (by rfl) fun s1 hs1 => ?_
    have k1 := ((hS1.up hwO).up hwD).up hs1
    refine wp_stB rfl rfl rfl rfl k1 rfl rfl (one2 _ _ _ _) ?_
    refine ⟨fun h => by simp at h, ?_⟩
    try simp only [Act.put, pu1]
    refine wpAnyU_done (by kernel_rfl) (fun wF huE => ?_) _
    have gR := (k1.setRow #[.bool b7, .slice a7 n7 c7]).up huE
    have gA := ((hRD.up hs1).setRow (D := #[.bool b7, .slice a7 n7 c7]) k1).up huE
    have gB := below_up (below_setRow (below_up (below_up (below_up hSB hwO) hwD) hs1) (show w.heap.size <= w.heap.size + 1 + 1 by omega) #[.bool b7, .slice a7 n7 c7]) huE
    clear k1 hRD hRO hwO hwD hs1 huE hS1 hS2 hS3 hSB hSS
    go_wp2
    exact bodyPost_ret (resB rfl rfl gR rfl) rfl ⟨gB, _, rfl, by rw [HV.out]; exact gA⟩
  | false =>
    rw [if_neg (by decide)] at hval
    have HV := hid hval
    clear hval
    go_wp2_with (first | ((with_reducible apply ldB_P); exact rfl; exact rfl; exact gBlk; exact rfl) | ((with_reducible apply stB_P); exact rfl; exact rfl; exact gBlk; exact rfl; exact rfl; exact one2 _ _ _ _) | (go_at_call 71; (with_reducible refine (bsign_any _ _ _ _ _).mono ?_); rintro e wG ⟨rfl, huG⟩))
    have kK : Blk wG (w.heap.size + 1 + 1) 69 #[.bool false, .slice none 0 0] := hK4.up huG
    exact bodyPost_ret (resB rfl rfl (kK.setRow _) rfl) rfl ⟨below_setRow (below_up hBel huG) (by omega) _, _, rfl, by rw [HV.out]; exact (hQ.up huG).setRow kK⟩
set_option maxHeartbeats 1000000 in
theorem muldiv_big (a b c : Int) (a1 : -9223372036854775808 <= a) (a2 : a < 9223372036854775808) (b1 : -9223372036854775808 <= b) (b2 : b < 9223372036854775808) (c1 : -9223372036854775808 <= c) (c2 : c < 9223372036854775808) (w : World) :
   Calls Tryz.prog 32 #[.int .i64 a, .int .i64 b, .int .i64 c] w fun e w' => e = .returned (nearV a b c) /\ Up w w' := by
 by_cases h0 : 0 < c
 ·have hn : nearV a b c = i64V ((2 * (a * b) + c) / (2 * c)) := by unfold nearV; rw [if_pos h0]
  have hp := prod_small a1 a2 b1 b2
  have na := small_nl a1 (by omega)
  have nb := small_nl b1 (by omega)
  have nc := small_nl c1 (by omega)
  have np := small_nl2 hp.1 hp.2
  have n3 : ∀ z : Int, -170141183460469231731687303715884105729 - 9223372036854775808 <= z -> z <= 170141183460469231731687303715884105728 + 9223372036854775808 -> nl z.natAbs < 50000 := fun z h1 h2 => by
   have := nl_le (x := z.natAbs) (k := 2) (by rw [bp_succ, bp_succ, bp_zero]; omega)
   omega
  have n2p : nl (2 * (a * b)).natAbs < 50000 := n3 _ (by omega) (by omega)
  have ns : nl (2 * (a * b) + c).natAbs < 50000 := n3 _ (by omega) (by omega)
  have n2c : nl (2 * c).natAbs = 1 := by
   have h1 := nl_le (x := (2 * c).natAbs) (k := 1) (by rw [bp_succ, bp_zero]; omega)
   have h2 := nl_pos (x := (2 * c).natAbs) (by omega)
   omega
  have nq : nl ((2 * (a * b) + c) / (2 * c)).natAbs < 50000 := by
   have h1 : ((2 * (a * b) + c) / (2 * c)).natAbs <= (2 * (a * b) + c).natAbs + 1 := by
    have e1 := Int.ediv_mul_add_emod (2 * (a * b) + c) (2 * c)
    have e2 := Int.emod_nonneg (2 * (a * b) + c) (show 2 * c ≠ 0 by omega)
    have e3 := Int.emod_lt_of_pos (2 * (a * b) + c) (show 0 < 2 * c by omega)
    generalize (2 * (a * b) + c) / (2 * c) = q at *
    generalize (2 * (a * b) + c) % (2 * c) = r at *
    generalize 2 * (a * b) + c = s at *
    rcases Int.lt_or_le q 0 with hq | hq
    ·have h7 : (q + 1) * (2 * c) <= (q + 1) * 1 := Int.mul_le_mul_of_nonpos_left (by omega) (by omega)
     rw [Int.add_mul, Int.one_mul] at h7
     omega
    ·have h6 : q * 1 <= q * (2 * c) := Int.mul_le_mul_of_nonneg_left (by omega) (by omega)
     omega
   have := nl_le (x := ((2 * (a * b) + c) / (2 * c)).natAbs) (k := 3) (by rw [bp_succ, bp_succ, bp_succ, bp_zero]; omega)
   omega
  have HOA := hid (fun w => of_big a a1 a2 w)
  have HOB := hid (fun w => of_big b b1 b2 w)
  have HOC := hid (fun w => of_big c c1 c2 w)
  have d0 : decide (c < 1) = false := decide_eq_false (by omega)
  rw [hn]
  obtain ⟨z, ok, hz⟩ : ∃ z ok, i64V ((2 * (a * b) + c) / (2 * c)) = .tuple #[.int .i64 z, .bool ok] := ⟨_, _, rfl⟩
  rw [hz]
  have HZ := hid hz
  clear hp hn n3 hz a1 a2 b1 b2 c1 c2
  go_enter Tryz.func32, Tryz.ntmps32
  go_wp2_with (first | (go_at_call 28; (first | ((with_reducible refine (HOA.out _).mono ?_); rintro e w1 ⟨hu1, u, rfl, hBA⟩; obtain ⟨q1, z1, n1, k1, rfl⟩ := hBA.shape) | ((with_reducible refine (HOB.out _).mono ?_); rintro e w2 ⟨hu2, u, rfl, hBB⟩; obtain ⟨q2, z2, n2, k2, rfl⟩ := hBB.shape) | ((with_reducible refine (HOC.out _).mono ?_); rintro e w3 ⟨hu3, u, rfl, hBC⟩; obtain ⟨q3, z3, n3, k3, rfl⟩ := hBC.shape))) | (go_at_call 31; ((with_reducible refine (mul_big (x := a) (y := b) ?_ ?_ na nb).mono ?_); (focus ((repeat (first | assumption | ((with_reducible apply big_set); exact gBlk) | (with_reducible apply big_alloc) | ((with_reducible apply big_up); assumption))); done)); (focus ((repeat (first | assumption | ((with_reducible apply big_set); exact gBlk) | (with_reducible apply big_alloc) | ((with_reducible apply big_up); assumption))); done))); rintro e w4 ⟨hu4, u, rfl, hBP⟩; obtain ⟨q4, z4, n4, k4, rfl⟩ := hBP.shape) | (go_at_call 52; ((with_reducible refine (round_big (x := a * b) (y := c) ?_ ?_ h0 np nc n2p ns n2c).mono ?_); (focus ((repeat (first | assumption | ((with_reducible apply big_set); exact gBlk) | (with_reducible apply big_alloc) | ((with_reducible apply big_up); assumption))); done)); (focus ((repeat (first | assumption | ((with_reducible apply big_set); exact gBlk) | (with_reducible apply big_alloc) | ((with_reducible apply big_up); assumption))); done))); rintro e w5 ⟨hu5, u, rfl, hBR⟩; obtain ⟨q5, z5, n5, k5, rfl⟩ := hBR.shape) | (go_at_call 51; (with_reducible refine (int64_big hBR nq).mono ?_); rintro e w6 ⟨rfl, hu6⟩; rw [HZ.out]))
  go_ret2
  exact ⟨rfl, gUp⟩
 ·have hn : nearV a b c = .tuple #[.int .i64 0, .bool false] := by unfold nearV; rw [if_neg h0]
  have d0 : decide (c < 1) = true := decide_eq_true (by omega)
  rw [hn]
  clear hn
  go_enter Tryz.func32, Tryz.ntmps32
  go_wp2
  go_ret2
  exact ⟨rfl, gUp⟩
theorem op_shl1 {P : Program} {o : Oper} {a : Act} {x y : Operand} {t u : TypeId} (ho : o.op = .binOp .shl t x y u) {s : Nat} (hx : a.eval x = .int .u64 1) (hy : a.eval y = .int .i64 (s : Nat)) (hs : s < 64) (w : World) :
   (execOp a.eval o).run P w = .ok (.value (.int .u64 ((2 ^ s : Nat) : Int))) w := by
 have h1 : 2 ^ s < 2 ^ 64 := Nat.pow_lt_pow_right (by decide) hs
 have e : IntKind.u64.wrap ((1 : Int) * 2 ^ s) = ((2 ^ s : Nat) : Int) := by
  rw [IntKind.wrap_u64, Int.one_mul, show (2 : Int) ^ s = ((2 ^ s : Nat) : Int) by simp]
  generalize 2 ^ s = q at *
  omega
 unfold execOp
 simp only [ho, hx, hy, eqGuard, binOp, shift_shl .u64 .i64 (1 : Int) (s : Int) (by omega) (show (s : Int) <= 64 by omega)]
 simpa using e
theorem shl1P {P : Program} {t u : TypeId} {ops : Array Oper} {rest : List Oper} {Q : Exit -> Act -> World -> Prop} {a : Act} {w : World} {d : Option Tmp} {x y : Operand} {ty : TypeId} {pos : String} {af : Array Edge} {gd : Option (Nat × Bool)} {s : Nat}
   (hw : Region.wanted { dst := d, op := .binOp .shl t x y u, type := ty, pos := pos, after := af, guard := gd } (yielded ops a.tmps) = true) (hx : a.eval x = .int .u64 1) (hy : a.eval y = .int .i64 (s : Nat)) (hs : s < 64)
   (h : wpList P ops Q rest (a.put d (.int .u64 ((2 ^ s : Nat) : Int))) w) : wpList P ops Q ({ dst := d, op := .binOp .shl t x y u, type := ty, pos := pos, after := af, guard := gd } :: rest) a w := wpList_run hw (op_shl1 rfl hx hy hs w) h
structure RootUp (N m r : Nat) : Prop where
 out : (∃ t, r = 2 ^ m * t) /\ r + 2 ^ m <= 18446744073709551616 /\ r * r <= N /\ N < (r + 2 ^ m) * (r + 2 ^ m)
theorem up_start {N : Nat} (h : N < 340282366920938463463374607431768211456) : RootUp N 64 0 := ⟨⟨0, by omega⟩, by decide, by omega, by
 rw [Nat.zero_add, show (2 : Nat) ^ 64 * 2 ^ 64 = 340282366920938463463374607431768211456 from rfl]; exact h⟩
theorem up_next {N k r : Nat} (h : RootUp N (k + 1) r) : (r ||| 2 ^ k) = r + 2 ^ k /\ r + 2 ^ k < 18446744073709551616 /\ r < 18446744073709551616 /\ 2 ^ k < 18446744073709551616 /\ 0 < 2 ^ k /\
   ((r + 2 ^ k) * (r + 2 ^ k) <= N -> RootUp N k (r + 2 ^ k)) /\ (¬ (r + 2 ^ k) * (r + 2 ^ k) <= N -> RootUp N k r) := by
 obtain ⟨⟨t, ht⟩, h2, h3, h4⟩ := h.out
 have hp := Nat.two_pow_pos k
 have e := Nat.pow_succ 2 k
 have hor : (r ||| 2 ^ k) = r + 2 ^ k := by rw [ht]; exact or_add (by rw [e]; omega)
 rw [e] at h2 h4 ht
 refine ⟨hor, by omega, by omega, by omega, hp, fun hc => ⟨⟨2 * t + 1, by rw [ht]; grind⟩, by omega, hc, ?_⟩, fun hc => ⟨⟨2 * t, by rw [ht]; grind⟩, by omega, h3, by omega⟩⟩
 rw [show r + 2 ^ k + 2 ^ k = r + 2 ^ k * 2 by omega]
 exact h4
theorem up_end {N r : Nat} (h : RootUp N 0 r) : r * r <= N /\ N < (r + 1) * (r + 1) := ⟨h.out.2.2.1, h.out.2.2.2⟩
set_option maxHeartbeats 2000000 in
theorem rooted_big {N r : Nat} {v : Value} {w : World} (h : Big w v (N : Nat)) (hN : N < 340282366920938463463374607431768211456) (h1 : r * r <= N) (h2 : N < (r + 1) * (r + 1)) :
   Calls Tryz.prog 29 #[v] w fun e w' => e = .returned (.int .u64 (r : Nat)) /\ Up w w' := by
 obtain ⟨a, c, rfl, hA⟩ := h
 rw [Int.natAbs_natCast] at hA ⊢
 have hn : nl N < 100000 := by have := nl_le (x := N) (k := 2) (by rw [bp_succ, bp_succ, bp_zero]; omega); omega
 have H0 := hid (up_start hN)
 have HR1 := hid h1
 have HR2 := hid h2
 have HA := hid hA
 rw [show decide (((N : Nat) : Int) < 0) = false from decide_eq_false (by omega)]
 clear hA h1 h2 hN
 go_enter Tryz.func29, Tryz.ntmps29
 go_wp2
 go_loopw [3, 4] (fun tr ts wr => ∃ (m q : Nat), m <= 64 /\ tr = .int .u64 (q : Nat) /\ ts = .int .i64 ((m : Int) - 1) /\ RootUp N m q /\ Blk wr w.heap.size 69 #[.bool false, .slice a (nl N) c] /\ Below w.heap.size w wr)
  (fun _ ts _ => (intOf ts + 1).toNat)
 case atStart => exact ⟨64, 0, by omega, rfl, rfl, H0.out, gBlk, gUp⟩
 case round =>
  obtain ⟨m, q, hm, rfl, rfl, hup, hK, hB⟩ := hrel
  have HUP := hid hup
  by_cases hlt : 0 < m
  ·obtain ⟨k, rfl⟩ : ∃ k, m = k + 1 := ⟨m - 1, by omega⟩
   have e : (((k + 1 : Nat) : Int) - 1) = (k : Int) := by omega
   rw [e]
   clear e
   obtain ⟨hor, b1, b2, b3, b4, hy, hno⟩ := up_next hup
   have hk64 : k < 64 := by omega
   obtain ⟨cc, hcc⟩ : ∃ cc, 2 ^ k = cc := ⟨_, rfl⟩
   rw [hcc] at hor b1 b3 b4 hy hno
   obtain ⟨x, hx⟩ : ∃ x, q + cc = x := ⟨_, rfl⟩
   rw [hx] at hor b1 hy hno
   have HOR := hid hor
   have HCC := hid hcc
   have hx0 : 0 < x := by omega
   clear hor hcc hup hx
   go_wp2_with (first | ((with_reducible apply shl1P); exact rfl; exact rfl; exact rfl; exact hk64; rw [HCC.out]) | ((with_reducible apply orNP); exact rfl; exact rfl; exact rfl; exact b2; exact b3; rw [HOR.out]))
   have hAx := fun w' b (hR : Row w' b 60 1 (fun _ => x)) => am_one b1 hx0 hR
   have hrow : Row (wr.alloc (Obj.cells #[Value.int IntKind.u64 (x : Nat)] 60)) wr.heap.size 60 1 (fun _ => x) := row_one rfl
   have hAx1 := (hAx _ _ hrow).1
   have hn1 := (hAx _ _ hrow).2
   have hcx := hrow.cell 0 (by decide)
   have hc1 := (blk_alloc (o := Obj.cells #[Value.int IntKind.u64 (x : Nat)] 60) hK).cell 1 rfl
   have hszr := hB.size
   have hnx : nl (x * x) < 1000000 := by
    have hxx : x * x <= 18446744073709551615 * 18446744073709551615 := Nat.mul_le_mul (by omega) (by omega)
    have := nl_le (x := x * x) (k := 2) (by rw [bp_succ, bp_succ, bp_zero]; omega)
    omega
   refine opU (S := (fun wq => Am wq (.slice (some ⟨wr.heap.size, 0, none⟩) 1 1) x /\ Blk wq w.heap.size 69 #[.bool false, .slice a (nl N) c] /\ wq.cell? ⟨w.heap.size, 1, none⟩ = some (.slice a (nl N) c) /\ wq.cell? ⟨wr.heap.size, 0, none⟩ = some (.int .u64 (x : Nat)) /\ Below w.heap.size w wq)) (req := (fun _ => true)) (fun _ _ h hu => ⟨(h.1).up hu, (h.2.1).up hu, hu.cell (h.2.2.1), hu.cell (h.2.2.2.1), below_up (h.2.2.2.2) hu⟩) ⟨(by (repeat (first | assumption | ((with_reducible apply am_set); exact gBlk) | (with_reducible apply am_alloc) | ((with_reducible apply am_up); assumption))); done), gBlk, (by first | assumption | (apply Blk.cell; exact gBlk; exact rfl)), (by first | assumption | (apply Blk.cell; exact gBlk; exact rfl)), gUp⟩ (fun wS hSS hSu => ?_)
   have ⟨hS1, hS2, hS3, hS4, hSB⟩ := hSS
   clear hcx hc1 hAx1 hAx hrow hK
   refine tkP 0 (some 15) hSu ?_
   refine tkP 1 (some 16) hSu ?_
   refine tkP 3 (some 18) hSu ?_
   refine tkT 4 (some 19) rfl hSu hSS ?_ (hy := fun w' hSw => by ((try dsimp only at hSw); (try obtain ⟨_, _, _, _, _⟩ := hSw); go_simp; (try exact rfl)))
   refine wpAnyU_callE (i := 2) (d := (some 17)) rfl rfl (by kernel_rfl) (by rfl) hSu.out (fun w' => by go_simp) (fun w' hw' => times_am (hS1.up hw') (hS1.up hw') (by omega) (by omega)) fun vP wP hwP hRP => ?_
   try simp only [Act.put, pu1, pu2, pu3]
   obtain ⟨a1, c1, rfl⟩ := hRP.shape
   refine wpAnyU_callE (i := 5) (d := (some 20)) rfl rfl (by kernel_rfl) (by rfl) hSu.out (fun w' => by go_simp) (fun w' hw' => callE_of (cmp_am (hRP.up hw') (HA.out.up (below_up (below_up hSB hwP) hw')) hnx (by omega))) fun vT wT hwT hRT => ?_
   try simp only [Act.put, pu1, pu2, pu3]
   subst hRT
   obtain ⟨o, ho⟩ : ∃ o : Bool, decide (ordZ (x * x) N <= 0) = o := ⟨_, rfl⟩
   refine tkP 6 (some 21) hSu ?_
   refine wpAnyU_done (by kernel_rfl) (fun wF huE => ?_) _
   have gU := (hwP.trans hwT).trans huE
   have gK := hS2.up gU
   have gc := gU.cell hS4
   have gB := below_up hSB gU
   clear hS1 hS2 hS3 hS4 hSB hSS hwP hwT huE gU hRP
   by_cases hc : x * x <= N
   ·have HNX := hid (hy hc)
    obtain rfl : o = true := by
     rw [<- ho]
     unfold ordZ
     split
     ·rfl
     ·rw [if_neg (by omega)]; rfl
    clear hy hno hc ho
    go_wp2
    go_roundw
    case rel => exact ⟨k, x, by omega, rfl, by go_num, HNX.out, gK, gB⟩
    case measure => simp [intOf] <;> omega
   ·have HNX := hid (hno hc)
    obtain rfl : o = false := by
     rw [<- ho]
     unfold ordZ
     rw [if_neg (by omega), if_pos (by omega)]
     rfl
    clear hy hno hc ho
    go_wp2
    go_roundw
    case rel => exact ⟨k, q, by omega, rfl, by go_num, HNX.out, gK, gB⟩
    case measure => simp [intOf] <;> omega
  ·obtain rfl : m = 0 := by omega
   obtain ⟨e1, e2⟩ := up_end hup
   have he : q = r := Nat.le_antisymm (root_one e1 HR2.out) (root_one HR1.out e2)
   subst he
   clear e1 e2 hup HUP HR1 HR2
   go_wp2
   go_ret
   exact ⟨rfl, hB⟩
theorem md_any (a b c : Int) (a1 : -9223372036854775808 <= a) (a2 : a < 9223372036854775808) (b1 : -9223372036854775808 <= b) (b2 : b < 9223372036854775808) (c1 : 0 < c) (c2 : c < 9223372036854775808) (p1 : -1000000000000000000 <= a * b) (p2 : a * b <= 1000000000000000000) (w : World) :
   Calls Tryz.prog 17 #[.int .i64 a, .int .i64 b, .int .i64 c] w fun e w' => e = .returned (.int .i64 (nv a b c)) /\ Up w w' := by
 have hb := nv_bound c1 p1 p2
 have H := fun w => muldiv_big a b c a1 a2 b1 b2 (by omega) c2 w
 rw [show nearV a b c = .tuple #[.int .i64 (nv a b c), .bool true] from by unfold nearV; rw [if_pos c1]; exact i64V_yes (by unfold nv at hb; omega)] at H
 have HM := hid H
 obtain ⟨z, hz⟩ : ∃ z, nv a b c = z := ⟨_, rfl⟩
 rw [hz] at HM ⊢
 clear H hb hz a1 a2 b1 b2 c1 c2 p1 p2
 go_enter Tryz.func17, Tryz.ntmps17
 go_wp2_with (first | (go_at_call 32; refine (HM.out _).mono ?_; rintro e w' ⟨rfl, hu⟩))
 go_ret
 exact ⟨rfl, gUp⟩
theorem amount_any (b : Bool) (a : Option Addr) (n c : Nat) (w : World) :
   Calls Tryz.prog 44 #[.agg #[.bool b, .slice a n c]] w fun e w' => e = .returned (.agg #[.bool false, .slice a n c]) /\ Up w w' := by
 have hm := fun w => made_any false a n c w
 rw [Bool.false_and] at hm
 have HM := hid hm
 clear hm
 go_enter Tryz.func44, Tryz.ntmps44
 go_wp2_with (first | ((with_reducible apply stB_P); exact rfl; exact rfl; exact gBlk; exact rfl; exact rfl; exact one2 _ _ _ _) | (go_at_call 45; refine (HM.out _).mono ?_; rintro e w' ⟨rfl, hu⟩))
 exact bodyPost_ret (resB rfl rfl gBlk rfl) rfl ⟨rfl, gUp⟩
theorem fits_gen {z M : Int} {va : Value} {w : World} (ha : Big w va z) (hz : nl z.natAbs < 50000) (h1 : -9223372036854775808 <= M) (h2 : M < 9223372036854775808) (hm : nl M.natAbs < 50000) :
   Calls Tryz.prog 27 #[va, .int .i64 M] w fun e w' => e = .returned (.bool (decide (cmpZ ((z.natAbs : Nat) : Int) M <= 0))) /\ Up w w' := by
 obtain ⟨p, a, n, c, rfl⟩ := ha.shape
 have hA := hid (big_amount ha)
 have HO := hid (fun w => of_big M h1 h2 w)
 have HN : Hid (nl ((z.natAbs : Nat) : Int).natAbs < 50000) := hid hz
 have HM := hid hm
 obtain ⟨o, ho⟩ : ∃ o, decide (cmpZ ((z.natAbs : Nat) : Int) M <= 0) = o := ⟨_, rfl⟩
 rw [ho]
 clear ha h1 h2 hz hm
 go_enter Tryz.func27, Tryz.ntmps27
 go_wp2_with (first | ((with_reducible apply ldB_P); exact rfl; exact rfl; exact gBlk; exact rfl) | (go_at_call 44; (with_reducible refine (amount_any _ _ _ _ _).mono ?_); rintro e wA ⟨rfl, huA⟩) | (go_at_call 28; (with_reducible refine (HO.out _).mono ?_); rintro e wO ⟨huO, u, rfl, hBO⟩; obtain ⟨qo, ao, no, co, rfl⟩ := hBO.shape) | (go_at_call 43; (with_reducible refine (cmp_big (hA.out.up gUp) hBO HN.out HM.out).mono ?_); rintro e wC ⟨rfl, huC⟩))
 go_ret
 exact ⟨rfl, gUp⟩
theorem fits_big {z : Int} {va : Value} {w : World} (ha : Big w va z) (hz : nl z.natAbs < 50000) :
   Calls Tryz.prog 27 #[va, .int .i64 2147483648] w fun e w' => e = .returned (.bool (decide (z.natAbs <= 2147483648))) /\ Up w w' := by
 have h := fits_gen (M := 2147483648) ha hz (by omega) (by omega) (small_nl (by omega) (by omega))
 have he : decide (cmpZ ((z.natAbs : Nat) : Int) 2147483648 <= 0) = decide (z.natAbs <= 2147483648) := by
  rw [decide_eq_decide]
  unfold cmpZ
  split
  ·omega
  ·split <;> omega
 rw [he] at h
 exact h
theorem natAbs_sq (x : Int) : x * x = ((x.natAbs * x.natAbs : Nat) : Int) := by
 rw [Int.natCast_mul, Int.natAbs_mul_self']
set_option maxHeartbeats 2000000 in
theorem hypot_big (x y : Int) (x1 : -9223372036854775808 <= x) (x2 : x < 9223372036854775808) (y1 : -9223372036854775808 <= y) (y2 : y < 9223372036854775808) (r : Nat) (h1 : r * r <= x.natAbs * x.natAbs + y.natAbs * y.natAbs) (h2 : x.natAbs * x.natAbs + y.natAbs * y.natAbs < (r + 1) * (r + 1)) (w : World) :
   Calls Tryz.prog 16 #[.int .i64 x, .int .i64 y] w fun e w' => e = .returned (if x.natAbs <= 2147483648 /\ y.natAbs <= 2147483648 then .tuple #[.int .i64 (r : Nat), .bool true] else .tuple #[.int .i64 0, .bool false]) /\ Up w w' := by
 have HOX := hid (fun w => of_big x x1 x2 w)
 have HOY := hid (fun w => of_big y y1 y2 w)
 have nx := small_nl x1 (by omega)
 have ny := small_nl y1 (by omega)
 obtain ⟨o1, ho1⟩ : ∃ o, decide (x.natAbs <= 2147483648) = o := ⟨_, rfl⟩
 obtain ⟨o2, ho2⟩ : ∃ o, decide (y.natAbs <= 2147483648) = o := ⟨_, rfl⟩
 have hF1 : ∀ (va : Value) (w : World), Big w va x -> Calls Tryz.prog 27 #[va, .int .i64 2147483648] w fun e w' => e = .returned (.bool o1) /\ Up w w' := fun va w h => by have := fits_big h nx; rw [ho1] at this; exact this
 have hF2 : ∀ (va : Value) (w : World), Big w va y -> Calls Tryz.prog 27 #[va, .int .i64 2147483648] w fun e w' => e = .returned (.bool o2) /\ Up w w' := fun va w h => by have := fits_big h ny; rw [ho2] at this; exact this
 have HF1 := hid hF1
 have HF2 := hid hF2
 clear hF1 hF2
 cases o1 with
 | false =>
   rw [if_neg (fun h => by have := of_decide_eq_false ho1; exact this h.1)]
   clear ho1 ho2 h1 h2
   go_enter Tryz.func16, Tryz.ntmps16
   go_wp2_with (first | (go_at_call 28; (first | (with_reducible refine (HOX.out _).mono ?_) | (with_reducible refine (HOY.out _).mono ?_)); rintro e wO ⟨huO, u, rfl, hBO⟩; obtain ⟨qo, ao, no, co, rfl⟩ := hBO.shape) | (go_at_call 27; (first | ((with_reducible refine (HF1.out _ _ ?_).mono ?_); (focus ((repeat (first | assumption | ((with_reducible apply big_set); exact gBlk) | (with_reducible apply big_alloc) | ((with_reducible apply big_up); assumption))); done))) | ((with_reducible refine (HF2.out _ _ ?_).mono ?_); (focus ((repeat (first | assumption | ((with_reducible apply big_set); exact gBlk) | (with_reducible apply big_alloc) | ((with_reducible apply big_up); assumption))); done)))); rintro e wF ⟨rfl, huF⟩))
   go_ret2
   exact ⟨rfl, gUp⟩
 | true =>
   cases o2 with
   | false =>
     rw [if_neg (fun h => by have := of_decide_eq_false ho2; exact this h.2)]
     clear ho1 ho2 h1 h2
     go_enter Tryz.func16, Tryz.ntmps16
     go_wp2_with (first | (go_at_call 28; (first | (with_reducible refine (HOX.out _).mono ?_) | (with_reducible refine (HOY.out _).mono ?_)); rintro e wO ⟨huO, u, rfl, hBO⟩; obtain ⟨qo, ao, no, co, rfl⟩ := hBO.shape) | (go_at_call 27; (first | ((with_reducible refine (HF1.out _ _ ?_).mono ?_); (focus ((repeat (first | assumption | ((with_reducible apply big_set); exact gBlk) | (with_reducible apply big_alloc) | ((with_reducible apply big_up); assumption))); done))) | ((with_reducible refine (HF2.out _ _ ?_).mono ?_); (focus ((repeat (first | assumption | ((with_reducible apply big_set); exact gBlk) | (with_reducible apply big_alloc) | ((with_reducible apply big_up); assumption))); done)))); rintro e wF ⟨rfl, huF⟩))
     go_ret2
     exact ⟨rfl, gUp⟩
   | true =>
     have hx := of_decide_eq_true ho1
     have hy := of_decide_eq_true ho2
     rw [if_pos ⟨hx, hy⟩]
     have hp := Nat.mul_le_mul hx hx
     have hq := Nat.mul_le_mul hy hy
     have hr := sq_lt (B := 4294967296) h1 (by omega)
     have nxx : nl (x * x).natAbs < 50000 := small_nl2 (by rw [natAbs_sq]; omega) (by rw [natAbs_sq]; omega)
     have nyy : nl (y * y).natAbs < 50000 := small_nl2 (by rw [natAbs_sq]; omega) (by rw [natAbs_sq]; omega)
     have hrt : ∀ (va : Value) (w : World), Big w va (x * x + y * y) -> Calls Tryz.prog 29 #[va] w fun e w' => e = .returned (.int .u64 (r : Nat)) /\ Up w w' := fun va w h => by
      rw [natAbs_sq x, natAbs_sq y, <- Int.natCast_add] at h
      exact rooted_big h (by omega) h1 h2
     have HRT := hid hrt
     have hw : IntKind.i64.wrap (r : Int) = (r : Nat) := IntWalk.i64_in _ (by omega)
     clear ho1 ho2 h1 h2 hx hy hp hq hrt
     go_enter Tryz.func16, Tryz.ntmps16
     go_wp2_with (first | (go_at_call 28; (first | (with_reducible refine (HOX.out _).mono ?_) | (with_reducible refine (HOY.out _).mono ?_)); rintro e wO ⟨huO, u, rfl, hBO⟩; obtain ⟨qo, ao, no, co, rfl⟩ := hBO.shape) | (go_at_call 27; (first | ((with_reducible refine (HF1.out _ _ ?_).mono ?_); (focus ((repeat (first | assumption | ((with_reducible apply big_set); exact gBlk) | (with_reducible apply big_alloc) | ((with_reducible apply big_up); assumption))); done))) | ((with_reducible refine (HF2.out _ _ ?_).mono ?_); (focus ((repeat (first | assumption | ((with_reducible apply big_set); exact gBlk) | (with_reducible apply big_alloc) | ((with_reducible apply big_up); assumption))); done)))); rintro e wF ⟨rfl, huF⟩) | (go_at_call 31; (first | ((with_reducible refine (mul_big (x := x) (y := x) ?_ ?_ nx nx).mono ?_); (focus ((repeat (first | assumption | ((with_reducible apply big_set); exact gBlk) | (with_reducible apply big_alloc) | ((with_reducible apply big_up); assumption))); done)); (focus ((repeat (first | assumption | ((with_reducible apply big_set); exact gBlk) | (with_reducible apply big_alloc) | ((with_reducible apply big_up); assumption))); done))) | ((with_reducible refine (mul_big (x := y) (y := y) ?_ ?_ ny ny).mono ?_); (focus ((repeat (first | assumption | ((with_reducible apply big_set); exact gBlk) | (with_reducible apply big_alloc) | ((with_reducible apply big_up); assumption))); done)); (focus ((repeat (first | assumption | ((with_reducible apply big_set); exact gBlk) | (with_reducible apply big_alloc) | ((with_reducible apply big_up); assumption))); done)))); rintro e wM ⟨huM, u, rfl, hBM⟩; obtain ⟨qm, am, nm, cm, rfl⟩ := hBM.shape) | (go_at_call 30; ((with_reducible refine (add_big (x := x * x) (y := y * y) ?_ ?_ nxx nyy).mono ?_); (focus ((repeat (first | assumption | ((with_reducible apply big_set); exact gBlk) | (with_reducible apply big_alloc) | ((with_reducible apply big_up); assumption))); done)); (focus ((repeat (first | assumption | ((with_reducible apply big_set); exact gBlk) | (with_reducible apply big_alloc) | ((with_reducible apply big_up); assumption))); done))); rintro e wA ⟨huA, u, rfl, hBA⟩; obtain ⟨qa, aa, na, ca, rfl⟩ := hBA.shape) | (go_at_call 29; (with_reducible refine (HRT.out _ _ hBA).mono ?_); rintro e wR ⟨rfl, huR⟩))
     go_ret2
     exact ⟨rfl, gUp⟩
theorem rfar_any (v : Int) (w : World) :
   Calls Tryz.prog 26 #[.int .i64 v, .int .i64 4194304] w fun e w' => e = .returned (.bool (aw v)) /\ Up w w' := by
 have hV : aw v = (decide (4194304 < v) || decide (v < -4194304)) := by
  unfold aw
  rw [<- Bool.decide_or, decide_eq_decide]
  omega
 rw [hV]
 generalize hp : decide (4194304 < v) = p
 generalize hq : decide (v < -4194304) = q
 clear hV
 cases p
 all_goals
  go_enter Tryz.func26, Tryz.ntmps26
  go_wp2_with (first | go_skip)
  go_ret
  exact ⟨rfl, gUp⟩
theorem raway_any (x y : Int) (w : World) :
   Calls Tryz.prog 15 #[.agg #[.int .i64 x, .int .i64 y]] w fun e w' => e = .returned (.bool (away x y)) /\ Up w w' := by
 have HX := hid (fun w => rfar_any x w)
 have HY := hid (fun w => rfar_any y w)
 unfold away
 generalize aw x = p at *
 generalize aw y = q at *
 obtain ⟨W0, hW0⟩ : ∃ W0, w.alloc (.cells #[.int .i64 x, .int .i64 y] 23) = W0 := ⟨_, rfl⟩
 have hB : Blk W0 w.heap.size 23 #[.int .i64 x, .int .i64 y] := by rw [<- hW0]; exact Blk.new _ _ rfl
 have hU : Up w W0 := by rw [<- hW0]; exact Up.alloc _ _
 have hc0 := hB.cell 0 rfl
 cases p
 ·go_enter Tryz.func15, Tryz.ntmps15
  go_wp2_with (first
   | (go_at_call 26; first
      | ((with_reducible refine (HX.out _).mono ?_); rintro e w1 ⟨rfl, hu1⟩; have hc1 := (hB.up hu1).cell 1 rfl)
      | ((with_reducible refine (HY.out _).mono ?_); rintro e w2 ⟨rfl, hu2⟩)))
  go_ret
  exact ⟨rfl, (hU.trans hu1).trans hu2⟩
 ·go_enter Tryz.func15, Tryz.ntmps15
  go_wp2_with (first
   | go_skip
   | (go_at_call 26; (with_reducible refine (HX.out _).mono ?_); rintro e w1 ⟨rfl, hu1⟩))
  go_ret
  exact ⟨rfl, hU.trans hu1⟩
theorem way_rhypot (x y : Int) (hx : -8388608 <= x /\ x <= 8388608) (hy : -8388608 <= y /\ y <= 8388608) (w : World) :
   Calls Tryz.prog 16 #[.int .i64 x, .int .i64 y] w fun e w' => e = .returned (.tuple #[.int .i64 (wayR x y : Nat), .bool true]) /\ Up w w' := by
 have h := hypot_big x y (by omega) (by omega) (by omega) (by omega) (wayR x y) (sq_spec _).1 (sq_spec _).2 w
 rw [if_pos ⟨by omega, by omega⟩] at h
 exact h
set_option maxHeartbeats 2000000 in
theorem rline_any (fx fy tx ty : Int) (w : World) :
   Calls Tryz.prog 6 #[.agg #[.int .i64 fx, .int .i64 fy], .agg #[.int .i64 tx, .int .i64 ty]] w fun e w' => e = .returned (.tuple #[.agg #[.int .i64 (lnX fx fy tx ty), .int .i64 (lnY fx fy tx ty), .int .i64 (lnZ fx fy tx ty)], .int .i64 (lnC fx fy tx ty)]) /\ Up w w' := by
 have HF := hid (fun w => raway_any fx fy w)
 have HT := hid (fun w => raway_any tx ty w)
 obtain ⟨W0, hW0⟩ : ∃ W0, ((w.alloc (.cells #[.int .i64 fx, .int .i64 fy] 23)).alloc (.cells #[.int .i64 tx, .int .i64 ty] 23)).alloc (.cells #[.int .i64 0, .int .i64 0, .int .i64 0] 29) = W0 := ⟨_, rfl⟩
 have hF : Blk W0 w.heap.size 23 #[.int .i64 fx, .int .i64 fy] := by rw [<- hW0]; exact ((Blk.new _ _ rfl).up (Up.alloc _ _)).up (Up.alloc _ _)
 have hT : Blk W0 (w.heap.size + 1) 23 #[.int .i64 tx, .int .i64 ty] := by rw [<- hW0]; exact (Blk.new _ _ (by simp)).up (Up.alloc _ _)
 have hL : Blk W0 (w.heap.size + 2) 29 #[.int .i64 0, .int .i64 0, .int .i64 0] := by rw [<- hW0]; exact Blk.new _ _ (by simp)
 have hU : Up w W0 := by rw [<- hW0]; exact ((Up.alloc _ _).trans (Up.alloc _ _)).trans (Up.alloc _ _)
 obtain ⟨p, hp⟩ : ∃ p, away fx fy = p := ⟨_, rfl⟩
 obtain ⟨q, hq⟩ : ∃ p, away tx ty = p := ⟨_, rfl⟩
 rw [hp] at HF
 rw [hq] at HT
 cases p
 ·cases q
  ·obtain ⟨a1, a2⟩ := away_no hp
   obtain ⟨b1, b2⟩ := away_no hq
   by_cases hR : wayR (tx - fx) (ty - fy) < 1000
   ·obtain ⟨c1, x1, y1, z1⟩ := ln_near hp hq rfl hR
    rw [c1, x1, y1, z1]
    obtain ⟨x, hx⟩ : ∃ x, tx - fx = x := ⟨_, rfl⟩
    obtain ⟨y, hy⟩ : ∃ y, ty - fy = y := ⟨_, rfl⟩
    rw [hx, hy] at hR
    have HH := hid (fun w => way_rhypot x y (by omega) (by omega) w)
    have e1 : IntKind.i64.wrap (tx - fx) = x := by rw [hx]; exact IntWalk.i64_in _ (by omega)
    have e2 : IntKind.i64.wrap (ty - fy) = y := by rw [hy]; exact IntWalk.i64_in _ (by omega)
    generalize wayR x y = R at *
    have d : decide ((R : Int) < 1000) = true := decide_eq_true (by omega)
    clear c1 x1 y1 z1 hx hy a1 a2 b1 b2 hp hq hR
    go_enter Tryz.func6, Tryz.ntmps6
    go_upto_region 3 with (first
     | ((with_reducible apply ldX_P aggP); exact rfl; exact rfl; (first | exact hF | exact hT.up hu1); exact rfl)
     | (go_at_call 15; first
        | ((with_reducible refine (HF.out _).mono ?_); rintro e w1 ⟨rfl, hu1⟩)
        | ((with_reducible refine (HT.out _).mono ?_); rintro e w2 ⟨rfl, hu2⟩; have hU2 := hu1.trans hu2; have hf0 := (hF.up hU2).cell 0 rfl; have hf1 := (hF.up hU2).cell 1 rfl; have ht0 := (hT.up hU2).cell 0 rfl; have ht1 := (hT.up hU2).cell 1 rfl; have hL2 := hL.up hU2)))
    go_quiet (fail)
    go_wp2_with (first
     | (go_at_call 16; (with_reducible refine (HH.out _).mono ?_); rintro e w3 ⟨rfl, hu3⟩; have hU3 : Up w2 w3 := Up.trans (below_drewN (Up.refl w2) _) hu3; have hL3 := hL2.up hU3)
     | ((with_reducible apply stX_P aggL); exact rfl; exact rfl; exact hL3; exact rfl; exact rfl; exact aggIII _ _ _ _ _ _))
    exact bodyPost_ret (resXT aggL rfl rfl (hL3.setRow _) rfl) rfl ⟨rfl, below_setRow (hU.trans (hU2.trans hU3)) (by omega) _⟩
   ·have hR' : 1000 <= wayR (tx - fx) (ty - fy) := by omega
    obtain ⟨c1, x1, y1, z1⟩ := ln_ok hp hq rfl hR'
    rw [c1, x1, y1, z1]
    obtain ⟨x, hx⟩ : ∃ x, tx - fx = x := ⟨_, rfl⟩
    obtain ⟨y, hy⟩ : ∃ y, ty - fy = y := ⟨_, rfl⟩
    rw [hx, hy] at hR' ⊢
    have dX : -8388608 <= x /\ x <= 8388608 := by omega
    have dY : -8388608 <= y /\ y <= 8388608 := by omega
    have hlt := wayR_lt dX dY
    have HH := hid (fun w => way_rhypot x y dX dY w)
    have HX := hid (fun w => md_any x 256 (wayR x y) (by omega) (by omega) (by omega) (by omega) (by omega) (by omega) (by omega) (by omega) w)
    have HY := hid (fun w => md_any y 256 (wayR x y) (by omega) (by omega) (by omega) (by omega) (by omega) (by omega) (by omega) (by omega) w)
    have e1 : IntKind.i64.wrap (tx - fx) = x := by rw [hx]; exact IntWalk.i64_in _ (by omega)
    have e2 : IntKind.i64.wrap (ty - fy) = y := by rw [hy]; exact IntWalk.i64_in _ (by omega)
    generalize wayR x y = R at *
    generalize nv x 256 R = PX at *
    generalize nv y 256 R = PY at *
    have d : decide ((R : Int) < 1000) = false := decide_eq_false (by omega)
    clear c1 x1 y1 z1 hx hy a1 a2 b1 b2 hp hq hR hR' dX dY hlt
    go_enter Tryz.func6, Tryz.ntmps6
    go_upto_region 3 with (first
     | ((with_reducible apply ldX_P aggP); exact rfl; exact rfl; (first | exact hF | exact hT.up hu1); exact rfl)
     | (go_at_call 15; first
        | ((with_reducible refine (HF.out _).mono ?_); rintro e w1 ⟨rfl, hu1⟩)
        | ((with_reducible refine (HT.out _).mono ?_); rintro e w2 ⟨rfl, hu2⟩; have hU2 := hu1.trans hu2; have hf0 := (hF.up hU2).cell 0 rfl; have hf1 := (hF.up hU2).cell 1 rfl; have ht0 := (hT.up hU2).cell 0 rfl; have ht1 := (hT.up hU2).cell 1 rfl; have hL2 := hL.up hU2)))
    go_quiet (fail)
    go_wp2_with (first
     | (go_at_call 16; (with_reducible refine (HH.out _).mono ?_); rintro e w3 ⟨rfl, hu3⟩; have hU3 : Up w2 w3 := Up.trans (below_drewN (Up.refl w2) _) hu3)
     | (go_at_call 17; first
        | ((with_reducible refine (HX.out _).mono ?_); rintro e w4 ⟨rfl, hu4⟩)
        | ((with_reducible refine (HY.out _).mono ?_); rintro e w5 ⟨rfl, hu5⟩; have hU5 := (hU3.trans hu4).trans hu5; have hL5 := hL2.up hU5))
     | ((with_reducible apply stX_P aggL); exact rfl; exact rfl; exact hL5; exact rfl; exact rfl; exact aggIII _ _ _ _ _ _))
    exact bodyPost_ret (resXT aggL rfl rfl (hL5.setRow _) rfl) rfl ⟨rfl, below_setRow (hU.trans (hU2.trans hU5)) (by omega) _⟩
  ·obtain ⟨c1, x1, y1, z1⟩ := ln_far (fx := fx) (fy := fy) (tx := tx) (ty := ty) (by rw [hp, hq]; rfl)
   rw [c1, x1, y1, z1]
   clear c1 x1 y1 z1 hp hq
   go_enter Tryz.func6, Tryz.ntmps6
   go_wp2_with (first
    | ((with_reducible apply ldX_P aggP); exact rfl; exact rfl; (first | exact hF | exact hT.up hu1); exact rfl)
    | (go_at_call 15; first
       | ((with_reducible refine (HF.out _).mono ?_); rintro e w1 ⟨rfl, hu1⟩)
       | ((with_reducible refine (HT.out _).mono ?_); rintro e w2 ⟨rfl, hu2⟩; have hL2 := hL.up (hu1.trans hu2)))
    | ((with_reducible apply stX_P aggL); exact rfl; exact rfl; exact hL2; exact rfl; exact rfl; exact aggIII _ _ _ _ _ _))
   exact bodyPost_ret (resXT aggL rfl rfl (hL2.setRow _) rfl) rfl ⟨rfl, below_setRow (hU.trans (hu1.trans hu2)) (by omega) _⟩
 ·obtain ⟨c1, x1, y1, z1⟩ := ln_far (fx := fx) (fy := fy) (tx := tx) (ty := ty) (by rw [hp]; rfl)
  rw [c1, x1, y1, z1]
  clear c1 x1 y1 z1 hp hq
  go_enter Tryz.func6, Tryz.ntmps6
  go_wp2_with (first
   | go_skip
   | ((with_reducible apply ldX_P aggP); exact rfl; exact rfl; exact hF; exact rfl)
   | (go_at_call 15; (with_reducible refine (HF.out _).mono ?_); rintro e w1 ⟨rfl, hu1⟩; have hL1 := hL.up hu1)
   | ((with_reducible apply stX_P aggL); exact rfl; exact rfl; exact hL1; exact rfl; exact rfl; exact aggIII _ _ _ _ _ _))
  exact bodyPost_ret (resXT aggL rfl rfl (hL1.setRow _) rfl) rfl ⟨rfl, below_setRow (hU.trans hu1) (by omega) _⟩
theorem blkI_cell {w : World} {g : Nat} {l : List Int} (h : Blk w g 2 (vals l).toArray) {k : Nat} (hk : k < l.length) : w.cell? ⟨g, k, none⟩ = some (.int .i64 (zth l k)) /\ w.frozen? ⟨g, k, none⟩ = false :=
 ⟨Blk.cell h k (by rw [List.getElem?_toArray, vals_get hk]), Blk.frozen h k⟩
theorem blkI_set {w : World} {g : Nat} {l : List Int} (h : Blk w g 2 (vals l).toArray) (k : Nat) (z : Int) : Blk (w.setCell ⟨g, k, none⟩ (.int .i64 z)) g 2 (vals (l.set k z)).toArray := by
 have h1 := Blk.set h k (.int .i64 z)
 rw [vals_set]
 simpa using h1
theorem nn_beq (v : Int) : (v == -9223372036854775808) = nn v := by
 unfold nn
 rw [Bool.eq_iff_iff]
 simp
theorem stI_wp {o : Oper} {a : Act} {w : World} {K : Act -> World -> Prop} {Q : Exit -> Act -> World -> Prop} {x y : Operand} {g k : Nat} {l : List Int} {z : Int} (hd : o.dst = none) (ho : o.op = .store 2 x y) (hx : a.eval x = .pointer (some ⟨g, k, none⟩)) (hy : a.eval y = .int .i64 z)
   (hB : Blk w g 2 (vals l).toArray) (hk : k < l.length) (h : K a (w.setCell ⟨g, k, none⟩ (.int .i64 z))) : o.wp Tryz.prog a w K Q := by
 obtain ⟨hc, hf⟩ := blkI_cell hB hk
 unfold Oper.wp execOp
 simp only [ho, hx, hy]
 go_simp
 exact h
theorem opUw {P : Program} {ops : Array Oper} {Q : Exit -> Act -> World -> Prop} {S : World -> Prop} {req : Nat -> Bool} {a : Act} {w : World} {id : Nat} (hSup : ∀ w w', S w -> Up w w' -> S w') (hS : S w)
   (h : ∀ w', Up w w' -> S w' -> Hid (∀ w w', S w -> Up w w' -> S w') -> wpAnyU P .any ops Q S req ops.size (Array.replicate ops.size false) a w')
   (hm : P.follows .mixedOrders = true := by kernel_rfl) : (Code.region id ops true).wp P Q a w := wp_region_up hm (h _ (Up.drew w) (hSup _ _ hS (Up.drew w)) hSup)
def RRowPost (l : List Int) (n : Int) (w : World) (r : Ending) (w' : World) : Prop := ∃ v, r = .returned (.tuple #[v, .int .i64 n]) /\ Up w w' /\ Vw w' v l
set_option maxHeartbeats 4000000 in
theorem rrow_any (n i a b : Int) (hn : -9223372036854775808 <= n /\ n < 9223372036854775808) (hi : -9223372036854775808 <= i /\ i < 9223372036854775808) (ha : -9223372036854775808 <= a /\ a < 9223372036854775808) (hb : -9223372036854775808 <= b /\ b < 9223372036854775808) (w : World) :
   Calls Tryz.prog 9 #[.int .i64 n, .int .i64 i, .agg #[.int .i64 a, .int .i64 b]] w (RRowPost (rwL n i a b) (rwC n i a b) w) := by
 obtain ⟨W0, hW0⟩ : ∃ W0, w.alloc (.cells #[.int .i64 a, .int .i64 b] 24) = W0 := ⟨_, rfl⟩
 have hH : Blk W0 w.heap.size 24 #[.int .i64 a, .int .i64 b] := by rw [<- hW0]; exact Blk.new _ _ rfl
 have hU : Up w W0 := by rw [<- hW0]; exact Up.alloc _ _
 have hh0 : W0.cell? ⟨w.heap.size, 0, none⟩ = some (.int .i64 a) := hH.cell 0 rfl
 have hh1 : W0.cell? ⟨w.heap.size, 1, none⟩ = some (.int .i64 b) := hH.cell 1 rfl
 by_cases hp : 2 <= n /\ n <= 8 /\ 2 <= i /\ i <= n - 2
 ·obtain ⟨p1, p2, p3, p4⟩ := hp
  obtain ⟨N, rfl⟩ : ∃ N : Nat, n = (N : Int) := ⟨n.toNat, by omega⟩
  obtain ⟨I, rfl⟩ : ∃ I : Nat, i = (I : Int) := ⟨i.toNat, by omega⟩
  have hC : rwC N I a b = if nn a || nn b then 21 else 0 := by unfold rwC rwOK; rw [decide_eq_true ⟨p1, p2, p3, p4⟩]; rfl
  have hL : rwL N I a b = if rwC N I a b = 0 then rwS N I a b else [] := rfl
  rw [hL, hC]
  have d1 : decide ((N : Int) < 2) = false := decide_eq_false (by omega)
  have d2 : decide ((8 : Int) < N) = false := decide_eq_false (by omega)
  have d3 : decide ((I : Int) < 2) = false := decide_eq_false (by omega)
  have ew : IntKind.i64.wrap ((N : Int) - 2) = (N : Int) - 2 := IntWalk.i64_in _ (by omega)
  have d4 : decide ((N : Int) - 2 < I) = false := decide_eq_false (by omega)
  have b1 := nn_beq a
  have b2 := nn_beq b
  obtain ⟨p, hpp⟩ : ∃ p, nn a = p := ⟨_, rfl⟩
  obtain ⟨q, hqq⟩ : ∃ q, nn b = q := ⟨_, rfl⟩
  rw [hpp] at b1 ⊢
  rw [hqq] at b2 ⊢
  cases p
  ·cases q
   ·have ea : IntKind.i64.wrap (-a) = -a := by have := of_decide_eq_false hpp; exact IntWalk.i64_in _ (by omega)
    have eb : IntKind.i64.wrap (-b) = -b := by have := of_decide_eq_false hqq; exact IntWalk.i64_in _ (by omega)
    have ei : IntKind.i64.wrap ((I : Int) + 1) = (I : Int) + 1 := IntWalk.i64_in _ (by omega)
    clear hC hL hpp hqq ha hb hn hi
    rw [show (if (false || false) = true then (21 : Int) else 0) = 0 from rfl, if_pos rfl]
    go_enter Tryz.func9, Tryz.ntmps9
    go_upto_region 6 with (first
     | ((with_reducible apply mkB64); exact rfl; (focus omega); rintro w2 hR2 hu2))
    have k0 := hu2.cell hh0
    have k1 := hu2.cell hh1
    have HW2 : Up w w2 := hU.trans hu2
    generalize hg0 : W0.heap.size = g at *
    have q0 : 0 < N := by omega
    have q1 : (1 : Int) < (N : Int) := by omega
    have q2 : I < N := by omega
    have q3 : I + 1 < N := by omega
    have q4 : (I : Int) + 1 < (N : Int) := by omega
    have hlt : w.heap.size < g := hg0 ▸ hH.lt
    have HS : ∀ (w' : World) (k : Nat) (v : Value), (w'.cell? ⟨w.heap.size, 0, none⟩ = some (.int .i64 a) /\ w'.cell? ⟨w.heap.size, 1, none⟩ = some (.int .i64 b) /\ Below w.heap.size w w') -> ((w'.setCell ⟨g, k, none⟩ v).cell? ⟨w.heap.size, 0, none⟩ = some (.int .i64 a) /\ (w'.setCell ⟨g, k, none⟩ v).cell? ⟨w.heap.size, 1, none⟩ = some (.int .i64 b) /\ Below w.heap.size w (w'.setCell ⟨g, k, none⟩ v)) := fun w' k v hs => by
     have hb := (Below.refl g w').setCell (p := ⟨g, k, none⟩) (Nat.le_refl _) v
     exact ⟨(Below.cell hb hlt).trans hs.1, (Below.cell hb hlt).trans hs.2.1, Below.trans hs.2.2 (hb.mono (by omega))⟩
    have HS := hid HS
    refine opUw (S := (fun wq => wq.cell? ⟨w.heap.size, 0, none⟩ = some (.int .i64 a) /\ wq.cell? ⟨w.heap.size, 1, none⟩ = some (.int .i64 b) /\ Below w.heap.size w wq)) (req := (fun _ => true)) (fun _ _ h hu => ⟨hu.cell (h.1), hu.cell (h.2.1), below_up (h.2.2) hu⟩) ⟨(by first | assumption | (apply Blk.cell; exact gBlk; exact rfl)), (by first | assumption | (apply Blk.cell; exact gBlk; exact rfl)), gUp⟩ (fun wS hwS0 hSS hSu => ?_)
    have ⟨hS1, hS2, hSB⟩ := hSS
    have hV3 : Below w.heap.size w wS := hSB
    refine tkP 0 (some 35) hSu ?_
    refine tkP 1 (some 36) hSu ?_
    refine tkP 2 (some 37) hSu ?_
    refine tkP 3 (some 38) hSu ?_
    refine tkP 4 (some 39) hSu ?_
    refine tkP 5 (some 40) hSu ?_
    refine tkP 6 (some 41) hSu ?_
    refine tkP 7 (some 42) hSu ?_
    refine tkT 8 (some 43) rfl hSu hSS ?_ (hy := fun w' hSw => by ((try dsimp only at hSw); (try obtain ⟨_, _, _⟩ := hSw); go_simp; (try exact rfl)))
    refine tkP 9 (some 44) hSu ?_
    refine tkT 10 (some 45) rfl hSu hSS ?_ (hy := fun w' hSw => by ((try dsimp only at hSw); (try obtain ⟨_, _, _⟩ := hSw); go_simp; (try exact rfl)))
    refine tkP 11 (some 46) hSu ?_
    refine tkT 12 (some 47) rfl hSu hSS ?_ (hy := fun w' hSw => by ((try dsimp only at hSw); (try obtain ⟨_, _, _⟩ := hSw); go_simp; (try exact rfl)))
    refine tkP 13 (some 48) hSu ?_
    refine tkP 14 (some 49) hSu ?_
    refine tkT 15 (some 50) rfl hSu hSS ?_ (hy := fun w' hSw => by ((try dsimp only at hSw); (try obtain ⟨_, _, _⟩ := hSw); go_simp; (try exact rfl)))
    refine tkP 16 (some 51) hSu ?_
    refine tkP 17 (some 52) hSu ?_
    refine wpAnyU_one (i := 18) rfl (by kernel_rfl) (by rfl) fun w4 hw4 => ?_
    have hB4 := hR2.up (hwS0.trans hw4)
    refine stI_wp rfl rfl rfl rfl hB4 (by rw [List.length_replicate]; omega) ⟨fun _ hs => HS.out _ _ _ hs, ?_⟩
    have hC4 := blkI_set hB4 0 a
    have hV4 : Below w.heap.size w (w4.setCell ⟨g, 0, none⟩ (.int .i64 a)) := Below.trans (Below.trans hV3 (Below.mono hw4 hV3.size)) (((Below.refl g w4).setCell (p := ⟨g, 0, none⟩) (Nat.le_refl _) (.int .i64 a)).mono (by omega))
    refine tkP 19 (some 53) hSu ?_
    refine wpAnyU_one (i := 20) rfl (by kernel_rfl) (by rfl) fun w5 hw5 => ?_
    have hB5 := hC4.up hw5
    refine stI_wp rfl rfl rfl rfl hB5 (by rw [List.length_set, List.length_replicate]; omega) ⟨fun _ hs => HS.out _ _ _ hs, ?_⟩
    have hC5 := blkI_set hB5 1 b
    have hV5 : Below w.heap.size w (w5.setCell ⟨g, 1, none⟩ (.int .i64 b)) := Below.trans (Below.trans hV4 (Below.mono hw5 hV4.size)) (((Below.refl g w5).setCell (p := ⟨g, 1, none⟩) (Nat.le_refl _) (.int .i64 b)).mono (by omega))
    refine tkP 21 (some 54) hSu ?_
    refine wpAnyU_one (i := 22) rfl (by kernel_rfl) (by rfl) fun w6 hw6 => ?_
    have hB6 := hC5.up hw6
    refine stI_wp rfl rfl rfl rfl hB6 (by rw [List.length_set, List.length_set, List.length_replicate]; omega) ⟨fun _ hs => HS.out _ _ _ hs, ?_⟩
    have hC6 := blkI_set hB6 I (-a)
    have hV6 : Below w.heap.size w (w6.setCell ⟨g, I, none⟩ (.int .i64 (-a))) := Below.trans (Below.trans hV5 (Below.mono hw6 hV5.size)) (((Below.refl g w6).setCell (p := ⟨g, I, none⟩) (Nat.le_refl _) (.int .i64 (-a))).mono (by omega))
    refine tkP 23 (some 55) hSu ?_
    refine wpAnyU_one (i := 24) rfl (by kernel_rfl) (by rfl) fun w7 hw7 => ?_
    have hB7 := hC6.up hw7
    refine stI_wp rfl rfl rfl rfl hB7 (by rw [List.length_set, List.length_set, List.length_set, List.length_replicate]; omega) ⟨fun _ hs => HS.out _ _ _ hs, ?_⟩
    have hC7 := blkI_set hB7 (I + 1) (-b)
    have hV7 : Below w.heap.size w (w7.setCell ⟨g, (I + 1), none⟩ (.int .i64 (-b))) := Below.trans (Below.trans hV6 (Below.mono hw7 hV6.size)) (((Below.refl g w7).setCell (p := ⟨g, (I + 1), none⟩) (Nat.le_refl _) (.int .i64 (-b))).mono (by omega))
    refine wpAnyU_done (by kernel_rfl) (fun wF huE => ?_) _
    have hRF := hC7.up huE
    have hVF : Below w.heap.size w wF := Below.trans hV7 (Below.mono huE hV7.size)
    go_wp2_with fail
    go_ret2
    exact ⟨_, rfl, hVF, blk_vw hRF (rwS_len N I a b) (Nat.le_refl _)⟩
   ·clear hC hL hpp hqq ha hb hn hi
    rw [show (if (false || true) = true then (21 : Int) else 0) = 21 from rfl, if_neg (by decide)]
    go_enter Tryz.func9, Tryz.ntmps9
    go_wp2_with (first | go_skip)
    go_ret2
    exact ⟨_, rfl, hU, vw_none _⟩
  ·clear hC hL hpp hqq ha hb hn hi
   rw [show (if (true || q) = true then (21 : Int) else 0) = 21 from rfl, if_neg (by decide)]
   go_enter Tryz.func9, Tryz.ntmps9
   go_wp2_with (first | go_skip)
   go_ret2
   exact ⟨_, rfl, hU, vw_none _⟩
 ·have hC : rwC n i a b = 20 := by unfold rwC rwOK; rw [decide_eq_false hp]; rfl
  have hL : rwL n i a b = [] := by unfold rwL; rw [hC]; rfl
  rw [hC, hL]
  obtain ⟨a1, h1⟩ : ∃ a, decide (n < 2) = a := ⟨_, rfl⟩
  obtain ⟨a2, h2⟩ : ∃ a, decide (8 < n) = a := ⟨_, rfl⟩
  obtain ⟨a3, h3⟩ : ∃ a, decide (i < 2) = a := ⟨_, rfl⟩
  obtain ⟨a4, h4⟩ : ∃ a, decide (n - 2 < i) = a := ⟨_, rfl⟩
  have en : a1 = false -> a2 = false -> IntKind.i64.wrap (n - 2) = n - 2 := fun q1 q2 => by
   rw [<- h1] at q1
   rw [<- h2] at q2
   simp only [decide_eq_false_iff_not] at q1 q2
   exact IntWalk.i64_in _ (by omega)
  have hor : a1 = true \/ (a1 = false /\ a2 = true) \/ (a1 = false /\ a2 = false /\ a3 = true) \/ (a1 = false /\ a2 = false /\ a3 = false /\ a4 = true) := by
   rw [<- h1, <- h2, <- h3, <- h4]
   simp only [decide_eq_true_eq, decide_eq_false_iff_not]
   omega
  clear hC hL hp ha hb hn hi
  rcases hor with rfl | ⟨rfl, rfl⟩ | ⟨rfl, rfl, rfl⟩ | ⟨rfl, rfl, rfl, rfl⟩
  ·clear en
   go_enter Tryz.func9, Tryz.ntmps9
   go_wp2_with (first | go_skip)
   go_ret2
   exact ⟨_, rfl, hU, vw_none _⟩
  ·clear en
   go_enter Tryz.func9, Tryz.ntmps9
   go_wp2_with (first | go_skip)
   go_ret2
   exact ⟨_, rfl, hU, vw_none _⟩
  ·clear en
   go_enter Tryz.func9, Tryz.ntmps9
   go_wp2_with (first | go_skip)
   go_ret2
   exact ⟨_, rfl, hU, vw_none _⟩
  ·have ew := en rfl rfl
   clear en
   go_enter Tryz.func9, Tryz.ntmps9
   go_wp2_with (first | go_skip)
   go_ret2
   exact ⟨_, rfl, hU, vw_none _⟩
def J64 (z : Int) : Prop := -9223372036854775808 <= z /\ z < 9223372036854775808
theorem rem_any (x m : Int) (hm : 0 < m) : -m < x.tmod m /\ x.tmod m < m := by
 have h := Int.natAbs_tmod x m
 have := Nat.mod_lt x.natAbs (show 0 < m.natAbs by omega)
 omega
theorem aggQ : Agg 26 4 := agg_of (by kernel_rfl) (by kernel_rfl)
theorem Blk.part4 {w : World} {g : Nat} {t : TypeId} {C : Array Value} (h : Blk w g t C) (off : Nat) {x y z u : Value} (h0 : C[off]? = some x) (h1 : C[off + 1]? = some y) (h2 : C[off + 2]? = some z) (h3 : C[off + 3]? = some u) : w.rangeAt g off [x, y, z, u] := h.part off _ fun j v hv => by
 rcases j with _ | _ | _ | _ | j
 ·simp at hv; subst hv; exact h0
 ·simp at hv; subst hv; exact h1
 ·simp at hv; subst hv; exact h2
 ·simp at hv; subst hv; exact h3
 ·simp at hv
def Pairs (w : World) (g : Nat) : Prop := ∀ k, k < 3 -> ∃ fx fy tx ty, J64 fx /\ J64 fy /\ J64 tx /\ J64 ty /\ w.rangeAt g (k * 4) [.int .i64 fx, .int .i64 fy, .int .i64 tx, .int .i64 ty]
theorem pairs_of {w : World} {g : Nat} {X1 Y1 X2 Y2 Z1 Z2 : Int} (h : Blk w g 26 #[.int .i64 X1, .int .i64 Y1, .int .i64 X2, .int .i64 Y2, .int .i64 X2, .int .i64 Y2, .int .i64 X1, .int .i64 Y1, .int .i64 X1, .int .i64 Y1, .int .i64 Z1, .int .i64 Z2]) (j1 : J64 X1) (j2 : J64 Y1) (j3 : J64 X2) (j4 : J64 Y2) (j5 : J64 Z1) (j6 : J64 Z2) : Pairs w g := fun k hk => by
 rcases k with _ | _ | _ | k
 ·exact ⟨X1, Y1, X2, Y2, j1, j2, j3, j4, h.part4 0 rfl rfl rfl rfl⟩
 ·exact ⟨X2, Y2, X1, Y1, j3, j4, j1, j2, h.part4 4 rfl rfl rfl rfl⟩
 ·exact ⟨X1, Y1, Z1, Z2, j1, j2, j5, j6, h.part4 8 rfl rfl rfl rfl⟩
 ·omega
theorem Pairs.up {w w' : World} {g : Nat} (hu : Up w w') (h : Pairs w g) : Pairs w' g := fun k hk => by
 obtain ⟨fx, fy, tx, ty, a, b, c, d, e⟩ := h k hk
 exact ⟨fx, fy, tx, ty, a, b, c, d, fun j v hv => hu.cell (e j v hv)⟩
theorem aggK : Agg 37 2 := agg_of (by kernel_rfl) (by kernel_rfl)
def Asks (w : World) (g : Nat) : Prop := ∀ k, k < 3 -> ∃ a b, J64 a /\ J64 b /\ w.rangeAt g (k * 2) [.int .i64 a, .int .i64 b]
theorem asks_of {w : World} {g : Nat} {a b c d e f : Int} (h : Blk w g 37 #[.int .i64 a, .int .i64 b, .int .i64 c, .int .i64 d, .int .i64 e, .int .i64 f]) (j1 : J64 a) (j2 : J64 b) (j3 : J64 c) (j4 : J64 d) (j5 : J64 e) (j6 : J64 f) : Asks w g := fun k hk => by
 rcases k with _ | _ | _ | k
 ·exact ⟨a, b, j1, j2, h.part2 0 rfl rfl⟩
 ·exact ⟨c, d, j3, j4, h.part2 2 rfl rfl⟩
 ·exact ⟨e, f, j5, j6, h.part2 4 rfl rfl⟩
 ·omega
theorem Asks.up {w w' : World} {g : Nat} (hu : Up w w') (h : Asks w g) : Asks w' g := fun k hk => by
 obtain ⟨a, b, j1, j2, e⟩ := h k hk
 exact ⟨a, b, j1, j2, fun j v hv => hu.cell (e j v hv)⟩
theorem rwL_len (n i a b : Int) : (rwL n i a b).length <= 1000 := by
 unfold rwL
 split
 ·rename_i h
  rw [rwS_len]
  unfold rwC at h
  split at h
  ·rename_i h2
   have := of_decide_eq_true h2
   omega
  ·omega
 ·exact Nat.zero_le _
set_option maxHeartbeats 4000000 in
theorem ltells_w {w : World} (hg : Glob w) {X1 Y1 X2 Y2 n i h0 h1 : Int} (small : Bool) (j1 : J64 X1) (j2 : J64 Y1) (j3 : J64 X2) (j4 : J64 Y2) (i_n : J64 n) (i_i : J64 i) (i0 : J64 h0) (i1 : J64 h1) :
   Calls Tryz.prog 3 #[.agg #[.int .i64 X1, .int .i64 Y1], .agg #[.int .i64 X2, .int .i64 Y2], .int .i64 n, .int .i64 i, .agg #[.int .i64 h0, .int .i64 h1], .bool small] w fun e w' => e = .returned (.bool true) /\ Up w w' := by
 have HK := hid (fun w' (hu : Up w w') => lknown_true (globUp hg hu))
 have HW := hid hg
 obtain ⟨W0, hW0⟩ : ∃ W0, ((w.alloc (.cells #[.int .i64 X1, .int .i64 Y1] 23)).alloc (.cells #[.int .i64 X2, .int .i64 Y2] 23)).alloc (.cells #[.int .i64 h0, .int .i64 h1] 24) = W0 := ⟨_, rfl⟩
 have hA : Blk W0 w.heap.size 23 #[.int .i64 X1, .int .i64 Y1] := by rw [<- hW0]; exact ((Blk.new _ _ rfl).up (Up.alloc _ _)).up (Up.alloc _ _)
 have hB : Blk W0 (w.heap.size + 1) 23 #[.int .i64 X2, .int .i64 Y2] := by rw [<- hW0]; exact (Blk.new _ _ (by simp)).up (Up.alloc _ _)
 have hH : Blk W0 (w.heap.size + 2) 24 #[.int .i64 h0, .int .i64 h1] := by rw [<- hW0]; exact Blk.new _ _ (by simp)
 have hU : Up w W0 := by rw [<- hW0]; exact ((Up.alloc _ _).trans (Up.alloc _ _)).trans (Up.alloc _ _)
 clear hg
 go_enter Tryz.func3, Tryz.ntmps3
 obtain ⟨m0, em0⟩ : ∃ m, h0.tmod 1500 = m := ⟨_, rfl⟩
 obtain ⟨m1, em1⟩ : ∃ m, h1.tmod 1500 = m := ⟨_, rfl⟩
 cases small
 ·go_upto_region 5 with (first
   | (go_at_call 4; (with_reducible refine (HK.out _ hU).mono ?_); rintro e wA ⟨rfl, hu1⟩))
  have hA' := hA.up hu1
  have hB' := hB.up hu1
  have hH' := hH.up hu1
  have hUA := hU.trans hu1
  clear hA hB hH hU hu1 hW0 HK
  have c0 := hA'.cell 0 rfl
  have c1 := hA'.cell 1 rfl
  have c2 := hH'.cell 0 rfl
  have c3 := hH'.cell 1 rfl
  obtain ⟨Z1, hZ1⟩ : ∃ z, IntKind.i64.wrap (X1 + m0) = z := ⟨_, rfl⟩
  obtain ⟨Z2, hZ2⟩ : ∃ z, IntKind.i64.wrap (Y1 + m1) = z := ⟨_, rfl⟩
  have j5 : J64 Z1 := by have := wrap_within .i64 (X1 + m0); rw [hZ1] at this; exact ⟨this.1, by have := this.2; rw [show IntKind.i64.max = 9223372036854775807 from rfl] at this; omega⟩
  have j6 : J64 Z2 := by have := wrap_within .i64 (Y1 + m1); rw [hZ2] at this; exact ⟨this.1, by have := this.2; rw [show IntKind.i64.max = 9223372036854775807 from rfl] at this; omega⟩
  go_upto_region 6 with (first
   | ((with_reducible apply ldX_P aggP); exact rfl; exact rfl; (first | exact hA' | exact hB'); exact rfl))
  have hPL := pairs_of (Blk.new (w := wA) 26 _ rfl) j1 j2 j3 j4 j5 j6
  have hHL := hH'.up (Up.alloc wA (.cells #[.int .i64 X1, .int .i64 Y1, .int .i64 X2, .int .i64 Y2, .int .i64 X2, .int .i64 Y2, .int .i64 X1, .int .i64 Y1, .int .i64 X1, .int .i64 Y1, .int .i64 Z1, .int .i64 Z2] 26))
  have hUL := hUA.trans (Up.alloc wA (.cells #[.int .i64 X1, .int .i64 Y1, .int .i64 X2, .int .i64 Y2, .int .i64 X2, .int .i64 Y2, .int .i64 X1, .int .i64 Y1, .int .i64 X1, .int .i64 Y1, .int .i64 Z1, .int .i64 Z2] 26))
  generalize World.alloc wA _ = wL at *
  generalize wA.heap.size = gP at *
  have HPL := hid hPL
  have HUL := hid hUL
  clear hPL hUL hUA hA' hB' hH' j1 j2 j3 j4 j5 j6 c0 c1 c2 c3 em0 em1 hZ1 hZ2
  go_loopg [65] 3 (fun g t65 wr => ∃ k : Nat, k <= 3 /\ 3 - k <= g /\ t65 = .int .i64 (k : Nat) /\ Up wL wr)
  case atStart => exact ⟨0, by decide, by decide, rfl, Up.refl _⟩
  case round =>
   obtain ⟨k, hk, hkg, rfl, hu⟩ := hrel
   by_cases hlt : k < 3
   ·obtain ⟨fx, fy, tx, ty, j1, j2, j3, j4, hr⟩ := HPL.out.up hu k hlt
    have H1 := hid (fun w => lof_any fx fy tx ty j1 j2 j3 j4 w)
    have H2 := hid (fun w => rline_any fx fy tx ty w)
    have e1 : IntKind.i64.wrap ((k : Int) + 1) = (k : Int) + 1 := IntWalk.i64_in _ (by omega)
    generalize lnC fx fy tx ty = C at *
    generalize lnX fx fy tx ty = X at *
    generalize lnY fx fy tx ty = Y at *
    generalize lnZ fx fy tx ty = Z at *
    clear j1 j2 j3 j4
    go_wp2_with (first
     | ((with_reducible apply ldXm_P aggQ); exact rfl; exact rfl; exact hr; exact rfl)
     | ((with_reducible apply ldXm_P aggP); exact rfl; exact rfl; (first | exact hp1.part2 0 rfl rfl | exact hp1.part2 2 rfl rfl); exact rfl)
     | (go_at_call 5; (with_reducible refine (H1.out _).mono ?_); rintro e w1 ⟨u1, rfl, hu1, he1⟩; have hp1 := ((Blk.new (w := wr) 26 #[.int .i64 fx, .int .i64 fy, .int .i64 tx, .int .i64 ty] rfl).up hu1).up (Up.alloc w1 (.cells #[.int .i64 X, .int .i64 Y, .int .i64 Z] 29)); have hL1 := Blk.new (w := w1) 29 #[.int .i64 X, .int .i64 Y, .int .i64 Z] rfl)
     | (go_at_call 6; (with_reducible refine (H2.out _).mono ?_); rintro e w2 ⟨rfl, hu2⟩; have hL2 := Blk.new (w := w2) 29 #[.int .i64 X, .int .i64 Y, .int .i64 Z] rfl; have hUB := Up.trans hu2 (Up.alloc w2 (.cells #[.int .i64 X, .int .i64 Y, .int .i64 Z] 29)); have hUC := (Up.alloc w1 (.cells #[.int .i64 X, .int .i64 Y, .int .i64 Z] 29)).trans hUB; have hUD := hu.trans ((Up.alloc wr _).trans (hu1.trans hUC)))
     | (go_at_call 7; (with_reducible refine (lsays_any (he1.up hUC) (globUp HW.out (HUL.out.trans hUD))).mono ?_); rintro e w3 ⟨rfl, hu3⟩; have hl1 := hL1.up (hUB.trans hu3); have hl2 := hL2.up hu3)
     | ((with_reducible apply ldX_P aggL); exact rfl; exact rfl; (first | exact hl1 | exact hl2); exact rfl)
     | ((with_reducible apply neL_P); exact rfl; exact rfl; exact rfl))
    go_roundg (3 - (k + 1))
    case measure => omega
    case rel => exact ⟨k + 1, by omega, Nat.le_refl _, rfl, hUD.trans hu3⟩
   ·obtain rfl : k = 3 := by omega
    clear hlt hk hkg
    have hHr := hHL.up hu
    go_upto_region 14 with fail
    have hAL := asks_of (Blk.new (w := wr) 37 _ rfl) i_n i_i (bits_in .and n 15) (bits_in .and i 7) (show J64 8 by unfold J64; decide) (bits_in .and i 7)
    have hHM := hHr.up (Up.alloc wr (.cells #[.int .i64 n, .int .i64 i, .int .i64 (bits .and .i64 n 15), .int .i64 (bits .and .i64 i 7), .int .i64 8, .int .i64 (bits .and .i64 i 7)] 37))
    have hUM := (HUL.out.trans hu).trans (Up.alloc wr (.cells #[.int .i64 n, .int .i64 i, .int .i64 (bits .and .i64 n 15), .int .i64 (bits .and .i64 i 7), .int .i64 8, .int .i64 (bits .and .i64 i 7)] 37))
    generalize World.alloc wr _ = wM at *
    generalize wr.heap.size = gM at *
    have HAL := hid hAL
    have HUM := hid hUM
    have HI0 := hid i0
    have HI1 := hid i1
    clear hAL hUM hHr hHL hu HPL HUL i_n i_i i0 i1
    go_loopg [108] 3 (fun g t108 wr => ∃ k : Nat, k <= 3 /\ 3 - k <= g /\ t108 = .int .i64 (k : Nat) /\ Up wM wr)
    case atStart => exact ⟨0, by decide, by decide, rfl, Up.refl _⟩
    case round =>
     obtain ⟨k, hk, hkg, rfl, hu⟩ := hrel
     have hHk := hHM.up hu
     by_cases hlt : k < 3
     ·obtain ⟨a, b, j1, j2, hr⟩ := HAL.out.up hu k hlt
      have H1 := hid (fun w => row_any a b h0 h1 j1 j2 HI0.out HI1.out w)
      have H2 := hid (fun w => rrow_any a b h0 h1 j1 j2 HI0.out HI1.out w)
      have hl := rwL_len a b h0 h1
      have e1 : IntKind.i64.wrap ((k : Int) + 1) = (k : Int) + 1 := IntWalk.i64_in _ (by omega)
      generalize rwC a b h0 h1 = C at *
      generalize rwL a b h0 h1 = L at *
      have HLl := hid hl
      clear j1 j2 hl
      have hH0 := hHk.up (Up.alloc wr (.cells #[.int .i64 a, .int .i64 b] 37))
      go_wp2_with (first
       | ((with_reducible apply ldXm_P aggK); exact rfl; exact rfl; exact hr; exact rfl)
       | ((with_reducible apply ldX_P aggA); exact rfl; exact rfl; (first | exact hH0 | exact hH1); exact rfl)
       | (go_at_call 8; (with_reducible refine (H1.out _).mono ?_); rintro e w1 ⟨v1, u1, rfl, hu1, hV1, he1⟩; have hH1 := hH0.up hu1; have hp1 := (Blk.new (w := wr) 37 #[.int .i64 a, .int .i64 b] rfl).up hu1; have hc0 := hp1.cell 0 rfl; have hc1 := hp1.cell 1 rfl)
       | (go_at_call 9; (with_reducible refine (H2.out _).mono ?_); rintro e w2 ⟨v2, rfl, hu2, hV2⟩; have hUD := hu.trans ((Up.alloc wr (.cells #[.int .i64 a, .int .i64 b] 37)).trans (hu1.trans hu2)))
       | (go_at_call 7; (with_reducible refine (lsays_any (he1.up hu2) (globUp HW.out (HUM.out.trans hUD))).mono ?_); rintro e w3 ⟨rfl, hu3⟩; have hI := ints_eq (hV1.up (hu2.trans hu3)) (hV2.up hu3) HLl.out)
       | (go_at_call 10; (with_reducible refine hI.mono ?_); rintro e w4 ⟨rfl, hu4⟩))
      go_roundg (3 - (k + 1))
      case measure => omega
      case rel => exact ⟨k + 1, by omega, Nat.le_refl _, rfl, (hUD.trans hu3).trans hu4⟩
     ·obtain rfl : k = 3 := by omega
      clear hlt hk hkg
      go_wp2_with fail
      go_ret
      exact ⟨rfl, HUM.out.trans hu⟩
 ·go_upto_region 4 with (first
   | (go_at_call 4; (with_reducible refine (HK.out _ hU).mono ?_); rintro e w1 ⟨rfl, hu1⟩))
  have gA := hA.up hu1
  have gB := hB.up hu1
  have gH := hH.up hu1
  have gU := hU.trans hu1
  have q0 := gA.cell 0 rfl
  have q1 := gA.cell 1 rfl
  have q2 := gB.cell 0 rfl
  have q3 := gB.cell 1 rfl
  have f0 := gA.frozen 0
  have f1 := gA.frozen 1
  have f2 := gB.frozen 0
  have f3 := gB.frozen 1
  clear hA hB hH hU hu1 hW0 HK
  go_region
  have r1 := rem_any X1 4194306 (by decide)
  have r2 := rem_any Y1 4194306 (by decide)
  have r3 := rem_any X2 5000 (by decide)
  have r4 := rem_any Y2 5000 (by decide)
  generalize X1.tmod 4194306 = P1 at *
  generalize Y1.tmod 4194306 = P2 at *
  generalize X2.tmod 5000 = P3 at *
  generalize Y2.tmod 5000 = P4 at *
  have hA' : Blk _ w.heap.size 23 #[.int .i64 P1, .int .i64 P2] := ((((gA.set 0 (.int .i64 P1)).set 1 (.int .i64 P2)).other ⟨w.heap.size + 1, 0, none⟩ (.int .i64 P3) (by simp)).other ⟨w.heap.size + 1, 1, none⟩ (.int .i64 P4) (by simp)).up (Up.drew _)
  have hB' : Blk _ (w.heap.size + 1) 23 #[.int .i64 P3, .int .i64 P4] := ((((gB.other ⟨w.heap.size, 0, none⟩ (.int .i64 P1) (by simp)).other ⟨w.heap.size, 1, none⟩ (.int .i64 P2) (by simp)).set 0 (.int .i64 P3)).set 1 (.int .i64 P4)).up (Up.drew _)
  have hH' := ((((gH.other ⟨w.heap.size, 0, none⟩ (.int .i64 P1) (by simp)).other ⟨w.heap.size, 1, none⟩ (.int .i64 P2) (by simp)).other ⟨w.heap.size + 1, 0, none⟩ (.int .i64 P3) (by simp)).other ⟨w.heap.size + 1, 1, none⟩ (.int .i64 P4) (by simp)).up (Up.drew _)
  have hUA : Up w _ := ((((gU.setCell (p := ⟨w.heap.size, 0, none⟩) (Nat.le_refl _) (.int .i64 P1)).setCell (p := ⟨w.heap.size, 1, none⟩) (Nat.le_refl _) (.int .i64 P2)).setCell (p := ⟨w.heap.size + 1, 0, none⟩) (Nat.le_succ _) (.int .i64 P3)).setCell (p := ⟨w.heap.size + 1, 1, none⟩) (Nat.le_succ _) (.int .i64 P4)).drew
  generalize World.drew _ = wA at *
  clear j1 j2 j3 j4 gA gB gH gU q0 q1 q2 q3 f0 f1 f2 f3
  generalize X1 = o1 at *
  generalize Y1 = o2 at *
  generalize X2 = o3 at *
  generalize Y2 = o4 at *
  clear X1 Y1 X2 Y2
  generalize P1 = X1 at *
  generalize P2 = Y1 at *
  generalize P3 = X2 at *
  generalize P4 = Y2 at *
  have j1 : J64 X1 := by unfold J64; omega
  have j2 : J64 Y1 := by unfold J64; omega
  have j3 : J64 X2 := by unfold J64; omega
  have j4 : J64 Y2 := by unfold J64; omega
  clear r1 r2 r3 r4
  have c0 := hA'.cell 0 rfl
  have c1 := hA'.cell 1 rfl
  have c2 := hH'.cell 0 rfl
  have c3 := hH'.cell 1 rfl
  obtain ⟨Z1, hZ1⟩ : ∃ z, IntKind.i64.wrap (X1 + m0) = z := ⟨_, rfl⟩
  obtain ⟨Z2, hZ2⟩ : ∃ z, IntKind.i64.wrap (Y1 + m1) = z := ⟨_, rfl⟩
  have j5 : J64 Z1 := by have := wrap_within .i64 (X1 + m0); rw [hZ1] at this; exact ⟨this.1, by have := this.2; rw [show IntKind.i64.max = 9223372036854775807 from rfl] at this; omega⟩
  have j6 : J64 Z2 := by have := wrap_within .i64 (Y1 + m1); rw [hZ2] at this; exact ⟨this.1, by have := this.2; rw [show IntKind.i64.max = 9223372036854775807 from rfl] at this; omega⟩
  go_upto_region 6 with (first
   | ((with_reducible apply ldX_P aggP); exact rfl; exact rfl; (first | exact hA' | exact hB'); exact rfl))
  have hPL := pairs_of (Blk.new (w := wA) 26 _ rfl) j1 j2 j3 j4 j5 j6
  have hHL := hH'.up (Up.alloc wA (.cells #[.int .i64 X1, .int .i64 Y1, .int .i64 X2, .int .i64 Y2, .int .i64 X2, .int .i64 Y2, .int .i64 X1, .int .i64 Y1, .int .i64 X1, .int .i64 Y1, .int .i64 Z1, .int .i64 Z2] 26))
  have hUL := hUA.trans (Up.alloc wA (.cells #[.int .i64 X1, .int .i64 Y1, .int .i64 X2, .int .i64 Y2, .int .i64 X2, .int .i64 Y2, .int .i64 X1, .int .i64 Y1, .int .i64 X1, .int .i64 Y1, .int .i64 Z1, .int .i64 Z2] 26))
  generalize World.alloc wA _ = wL at *
  generalize wA.heap.size = gP at *
  have HPL := hid hPL
  have HUL := hid hUL
  clear hPL hUL hUA hA' hB' hH' j1 j2 j3 j4 j5 j6 c0 c1 c2 c3 em0 em1 hZ1 hZ2
  go_loopg [65] 3 (fun g t65 wr => ∃ k : Nat, k <= 3 /\ 3 - k <= g /\ t65 = .int .i64 (k : Nat) /\ Up wL wr)
  case atStart => exact ⟨0, by decide, by decide, rfl, Up.refl _⟩
  case round =>
   obtain ⟨k, hk, hkg, rfl, hu⟩ := hrel
   by_cases hlt : k < 3
   ·obtain ⟨fx, fy, tx, ty, j1, j2, j3, j4, hr⟩ := HPL.out.up hu k hlt
    have H1 := hid (fun w => lof_any fx fy tx ty j1 j2 j3 j4 w)
    have H2 := hid (fun w => rline_any fx fy tx ty w)
    have e1 : IntKind.i64.wrap ((k : Int) + 1) = (k : Int) + 1 := IntWalk.i64_in _ (by omega)
    generalize lnC fx fy tx ty = C at *
    generalize lnX fx fy tx ty = X at *
    generalize lnY fx fy tx ty = Y at *
    generalize lnZ fx fy tx ty = Z at *
    clear j1 j2 j3 j4
    go_wp2_with (first
     | ((with_reducible apply ldXm_P aggQ); exact rfl; exact rfl; exact hr; exact rfl)
     | ((with_reducible apply ldXm_P aggP); exact rfl; exact rfl; (first | exact hp1.part2 0 rfl rfl | exact hp1.part2 2 rfl rfl); exact rfl)
     | (go_at_call 5; (with_reducible refine (H1.out _).mono ?_); rintro e w1 ⟨u1, rfl, hu1, he1⟩; have hp1 := ((Blk.new (w := wr) 26 #[.int .i64 fx, .int .i64 fy, .int .i64 tx, .int .i64 ty] rfl).up hu1).up (Up.alloc w1 (.cells #[.int .i64 X, .int .i64 Y, .int .i64 Z] 29)); have hL1 := Blk.new (w := w1) 29 #[.int .i64 X, .int .i64 Y, .int .i64 Z] rfl)
     | (go_at_call 6; (with_reducible refine (H2.out _).mono ?_); rintro e w2 ⟨rfl, hu2⟩; have hL2 := Blk.new (w := w2) 29 #[.int .i64 X, .int .i64 Y, .int .i64 Z] rfl; have hUB := Up.trans hu2 (Up.alloc w2 (.cells #[.int .i64 X, .int .i64 Y, .int .i64 Z] 29)); have hUC := (Up.alloc w1 (.cells #[.int .i64 X, .int .i64 Y, .int .i64 Z] 29)).trans hUB; have hUD := hu.trans ((Up.alloc wr _).trans (hu1.trans hUC)))
     | (go_at_call 7; (with_reducible refine (lsays_any (he1.up hUC) (globUp HW.out (HUL.out.trans hUD))).mono ?_); rintro e w3 ⟨rfl, hu3⟩; have hl1 := hL1.up (hUB.trans hu3); have hl2 := hL2.up hu3)
     | ((with_reducible apply ldX_P aggL); exact rfl; exact rfl; (first | exact hl1 | exact hl2); exact rfl)
     | ((with_reducible apply neL_P); exact rfl; exact rfl; exact rfl))
    go_roundg (3 - (k + 1))
    case measure => omega
    case rel => exact ⟨k + 1, by omega, Nat.le_refl _, rfl, hUD.trans hu3⟩
   ·obtain rfl : k = 3 := by omega
    clear hlt hk hkg
    have hHr := hHL.up hu
    go_upto_region 14 with fail
    have hAL := asks_of (Blk.new (w := wr) 37 _ rfl) i_n i_i (bits_in .and n 15) (bits_in .and i 7) (show J64 8 by unfold J64; decide) (bits_in .and i 7)
    have hHM := hHr.up (Up.alloc wr (.cells #[.int .i64 n, .int .i64 i, .int .i64 (bits .and .i64 n 15), .int .i64 (bits .and .i64 i 7), .int .i64 8, .int .i64 (bits .and .i64 i 7)] 37))
    have hUM := (HUL.out.trans hu).trans (Up.alloc wr (.cells #[.int .i64 n, .int .i64 i, .int .i64 (bits .and .i64 n 15), .int .i64 (bits .and .i64 i 7), .int .i64 8, .int .i64 (bits .and .i64 i 7)] 37))
    generalize World.alloc wr _ = wM at *
    generalize wr.heap.size = gM at *
    have HAL := hid hAL
    have HUM := hid hUM
    have HI0 := hid i0
    have HI1 := hid i1
    clear hAL hUM hHr hHL hu HPL HUL i_n i_i i0 i1
    go_loopg [108] 3 (fun g t108 wr => ∃ k : Nat, k <= 3 /\ 3 - k <= g /\ t108 = .int .i64 (k : Nat) /\ Up wM wr)
    case atStart => exact ⟨0, by decide, by decide, rfl, Up.refl _⟩
    case round =>
     obtain ⟨k, hk, hkg, rfl, hu⟩ := hrel
     have hHk := hHM.up hu
     by_cases hlt : k < 3
     ·obtain ⟨a, b, j1, j2, hr⟩ := HAL.out.up hu k hlt
      have H1 := hid (fun w => row_any a b h0 h1 j1 j2 HI0.out HI1.out w)
      have H2 := hid (fun w => rrow_any a b h0 h1 j1 j2 HI0.out HI1.out w)
      have hl := rwL_len a b h0 h1
      have e1 : IntKind.i64.wrap ((k : Int) + 1) = (k : Int) + 1 := IntWalk.i64_in _ (by omega)
      generalize rwC a b h0 h1 = C at *
      generalize rwL a b h0 h1 = L at *
      have HLl := hid hl
      clear j1 j2 hl
      have hH0 := hHk.up (Up.alloc wr (.cells #[.int .i64 a, .int .i64 b] 37))
      go_wp2_with (first
       | ((with_reducible apply ldXm_P aggK); exact rfl; exact rfl; exact hr; exact rfl)
       | ((with_reducible apply ldX_P aggA); exact rfl; exact rfl; (first | exact hH0 | exact hH1); exact rfl)
       | (go_at_call 8; (with_reducible refine (H1.out _).mono ?_); rintro e w1 ⟨v1, u1, rfl, hu1, hV1, he1⟩; have hH1 := hH0.up hu1; have hp1 := (Blk.new (w := wr) 37 #[.int .i64 a, .int .i64 b] rfl).up hu1; have hc0 := hp1.cell 0 rfl; have hc1 := hp1.cell 1 rfl)
       | (go_at_call 9; (with_reducible refine (H2.out _).mono ?_); rintro e w2 ⟨v2, rfl, hu2, hV2⟩; have hUD := hu.trans ((Up.alloc wr (.cells #[.int .i64 a, .int .i64 b] 37)).trans (hu1.trans hu2)))
       | (go_at_call 7; (with_reducible refine (lsays_any (he1.up hu2) (globUp HW.out (HUM.out.trans hUD))).mono ?_); rintro e w3 ⟨rfl, hu3⟩; have hI := ints_eq (hV1.up (hu2.trans hu3)) (hV2.up hu3) HLl.out)
       | (go_at_call 10; (with_reducible refine hI.mono ?_); rintro e w4 ⟨rfl, hu4⟩))
      go_roundg (3 - (k + 1))
      case measure => omega
      case rel => exact ⟨k + 1, by omega, Nat.le_refl _, rfl, (hUD.trans hu3).trans hu4⟩
     ·obtain rfl : k = 3 := by omega
      clear hlt hk hkg
      go_wp2_with fail
      go_ret
      exact ⟨rfl, HUM.out.trans hu⟩
theorem ltells_row {w : World} {X1 Y1 X2 Y2 n i h0 h1 : Int} {small : Bool} (hg : Glob w) (w0 : (Lit.int .i64 X1).wf = true) (w1 : (Lit.int .i64 Y1).wf = true) (w2 : (Lit.int .i64 X2).wf = true) (w3 : (Lit.int .i64 Y2).wf = true) (w4 : (Lit.int .i64 n).wf = true) (w5 : (Lit.int .i64 i).wf = true) (w6 : (Lit.int .i64 h0).wf = true) (w7 : (Lit.int .i64 h1).wf = true) :
   Calls Tryz.prog 3 #[.agg #[.int .i64 X1, .int .i64 Y1], .agg #[.int .i64 X2, .int .i64 Y2], .int .i64 n, .int .i64 i, .agg #[.int .i64 h0, .int .i64 h1], .bool small] w fun e w' => e = .returned (.bool true) /\ Up w w' :=
 ltells_w hg small (wf_in w0) (wf_in w1) (wf_in w2) (wf_in w3) (wf_in w4) (wf_in w5) (wf_in w6) (wf_in w7)
end Go.Proofs.YtbmlkimgjkdaiaaGreatDoor
namespace Go.Proofs.YtbmlkimgjkdaiaaGreatDoor
open Go Go.WideShapes Go.Joins Go.ChangeShapes Go.Deep
section
variable {H : Type} {enc : TypeId × Value -> H} {P : Program} {w : World} {base : Nat} {spare : Nat -> Bool} {held : Bool} {r : Reach} {b0 : Nat} {t : TypeId} {v : Value} {d : DataW H} {p : List MemPlace} {k : IntKind}
theorem one_int {n : Nat} {e : TypeId} {c : Value} {y : DataW H × List MemPlace} (he : P.underlying e = some (.int k)) (h : DataW.trod enc P w base spare held n e [c] = some y) : ∃ z, c = .int k z /\ (Lit.int k z).wf = true := by
 obtain ⟨z, hz1, _, hz4⟩ := DataW.trod_int he h
 simp at hz1
 exact ⟨z, hz1, hz4⟩
theorem open_two {l : IntKind} {f0 f1 : Field} (hs : P.underlying t = some (.struct #[f0, f1])) (hone : oneCellFields P #[f0, f1] = true) (hC : P.cellsOf t = 2) (h0 : P.underlying f0.type = some (.int k)) (h1 : P.underlying f1.type = some (.int l))
   (hv : Value.okWide P w r b0 t v) (h : DataW.Trod enc P w base spare held t v d p) : ∃ x y, v = .agg #[.int k x, .int l y] /\ (Lit.int k x).wf = true /\ (Lit.int l y).wf = true := by
 obtain ⟨v0, v1, y0, y1, n, rfl, -, -, t0, t1⟩ := open_agg2 hs hone hC hv h
 obtain ⟨x, rfl, hx⟩ := one_int h0 t0
 obtain ⟨y, rfl, hy⟩ := one_int h1 t1
 exact ⟨x, y, rfl, hx, hy⟩
theorem open_arr2 {e : TypeId} (hs : P.underlying t = some (.array 2 e)) (he : P.underlying e = some (.int k)) (h1 : P.cellsOf e = 1) (h2 : P.cellsOf t = 2)
   (hv : Value.okWide P w r b0 t v) (h : DataW.Trod enc P w base spare held t v d p) : ∃ x y, v = .agg #[.int k x, .int k y] /\ (Lit.int k x).wf = true /\ (Lit.int k y).wf = true := by
 simp only [Value.okWide, hs] at hv
 obtain ⟨cs, rfl, hsz, _⟩ := hv
 rw [h2] at hsz
 obtain ⟨c0, c1, rfl⟩ := array2 hsz
 obtain ⟨fuel, hf⟩ := h
 obtain ⟨xs, m, _, _, _, hx, hi⟩ := DataW.trod_array hs hf
 have i0 := hi 0 (by decide)
 have i1 := hi 1 (by decide)
 rw [h1] at i0 i1
 match xs, hx with
 | [a, b], _ =>
   simp [Value.cells] at i0 i1
   obtain ⟨x, rfl, hx⟩ := one_int he i0
   obtain ⟨y, rfl, hy⟩ := one_int he i1
   exact ⟨x, y, rfl, hx, hy⟩
end
end Go.Proofs.YtbmlkimgjkdaiaaGreatDoor
namespace Go.Proofs.YtbmlkimgjkdaiaaGreatDoor
open Go.ChangeShapes Go.WideShapes Go.RowKit
set_option maxRecDepth 100000
theorem own4 : ownKnob Tryz.prog.godebug = none := by kernel_rfl
theorem et4 : Tryz.prog.globalNamed "errors.errorType" = some 0 := by kernel_rfl
theorem rt4 : (Tryz.prog.cutTypes.find? (·.1 == "internal/reflectlite.rtype")).map (·.2) = some 133 := by kernel_rfl
theorem oneRow4 : ((List.range 193).filter fun t => Tryz.prog.rowNamed t [101, 114, 114, 111, 114]) = [31] := by kernel_rfl
theorem size4 : Tryz.prog.types.size = 193 := by kernel_rfl
theorem glob_of_laid {W : World} (h : laidMetH Tryz.prog [("errors.errorType", Rows.laid_errors_errorType)] W) : Glob W := by
 have h' : laidMet Tryz.prog [] W /\ handlesMet Tryz.prog [("errors.errorType", Rows.laid_errors_errorType)] W := h
 obtain ⟨name, u, ty, e1, e2, e3, e4, e5⟩ := h'.2 _ (List.mem_singleton.2 rfl)
 have en : name = [101, 114, 114, 111, 114] := (Option.some.inj e1).symm
 subst en
 obtain rfl := Option.some.inj (rt4.symm.trans e2)
 have hm : ty ∈ (List.range 193).filter fun t => Tryz.prog.rowNamed t [101, 114, 114, 111, 114] := List.mem_filter.2 ⟨List.mem_range.2 (by rw [<- size4]; exact e3), e4⟩
 rw [oneRow4] at hm
 obtain rfl := List.mem_singleton.1 hm
 have hh : typeHandle Tryz.prog 31 = .pointer (some ⟨3, 31, none⟩) := by kernel_rfl
 rw [hh] at e5
 unfold Glob
 simpa using World.var?_cell et4 e5 0
noncomputable def laidWorld (os : Os) : World :=
 let w0 := World.holding Tryz.prog os ⟨#[], #[], []⟩
 { w0 with heap := w0.heap.modify 0 fun
    | .cells _ t frozen => .cells #[.iface 133 (.agg #[.pointer (some ⟨3, 31, none⟩)])] t frozen
    | o => o }
theorem laidWorld_met (os : Os) (args : Array Value) : laidMetH Tryz.prog [("errors.errorType", Rows.laid_errors_errorType)] ((laidWorld os).forCall (fun _ _ => 0) ⟨#[], args, []⟩).memory :=
 laidMetH_of_parts (laidMet_nil _ _) (by kernel_rfl)
end Go.Proofs.YtbmlkimgjkdaiaaGreatDoor
