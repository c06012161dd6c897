import Derived.Test.YtdpgpchcgmmklaaGreatDoorPd
import Derived.Deep.MidRow
import Derived.Laws.CopyRow
import Derived.Deep.DeepCutAuto
import Derived.Deep.CutRange
import Derived.Deep.CutBlock
namespace Go.Proofs.YtdpgpchcgmmklaaGreatDoor
open Go Go.RowKit
set_option maxRecDepth 100000
theorem AM_bp14 {n : Nat} {l : List Int} (hR : rt n l = true) (i j : Nat) : (AM n l i j).natAbs < bp 14 := by
 have h1 := AM_abs hR i j
 have h2 := bp_mono (show 1 <= 14 by omega)
 rw [bp_succ 0, bp_zero] at h2
 omega
theorem unit_bp14 {k : Int} (hk : I64 k) (i j : Nat) : (unitM k i j).natAbs < bp 14 := by
 have h1 := unitM_abs hk i j
 have h2 := bp_mono (show 1 <= 14 by omega)
 rw [bp_succ 0, bp_zero] at h2
 omega
theorem less_bp14 {n : Nat} {l : List Int} {k : Int} (hR : rt n l = true) (hk : I64 k) (i j : Nat) : (AM n l i j - unitM k i j).natAbs < bp 14 := by
 have h0 := AM_abs hR i j
 have h1 := unitM_abs hk i j
 have h2 := bp_mono (show 1 <= 14 by omega)
 rw [bp_succ 0, bp_zero] at h2
 omega
theorem tri_call {v : Value} {n : Nat} {l : List Int} {w : World} (hm : Sm w v n l) (hR : rt n l = true) :
   Calls Tryz.prog 25 #[v] w (fun e w'' => Up w w'' /\ ∃ z, e = .returned z /\ (fun z w'' => Rz w'' z (triE n (AM n l))) z w'') :=
 (triangle_any hm hR).mono fun _ _ ⟨z, h1, h2, _, _, h3⟩ => ⟨h2, z, h1, h3.rz⟩
theorem one_call {n : Nat} {k : Int} (n8 : n <= 8) (hk : I64 k) (w : World) :
   Calls Tryz.prog 26 #[.int .i64 (n : Nat), .int .i64 k] w (fun e w'' => Up w w'' /\ ∃ z, e = .returned z /\ (fun z w'' => Rz w'' z (triE n (unitM k))) z w'') :=
 (ones_any n8 hk w).mono fun _ _ ⟨z, h1, h2, _, _, h3⟩ => ⟨h2, z, h1, h3.rz⟩
theorem less_call {va vb : Value} {n : Nat} {f g : Nat -> Nat -> Int} {w : World} (hA : Rz w va (triE n f)) (hB : Rz w vb (triE n g)) (n8 : n <= 8) (hf : ∀ i j, (f i j).natAbs < bp 14) (hg : ∀ i j, (g i j).natAbs < bp 14) :
   Calls Tryz.prog 24 #[va, vb] w (fun e w'' => Up w w'' /\ ∃ z, e = .returned z /\ (fun z w'' => Rz w'' z (triE n fun i j => f i j - g i j)) z w'') :=
 (blessy_any hA hB n8 hf hg).mono fun _ _ ⟨z, h1, h2, _, _, h3⟩ => ⟨h2, z, h1, h3.rz⟩
theorem def_call {vr : Value} {n : Nat} {V : Nat -> Nat -> Int} {w : World} (hR : Rz w vr (triE n V)) (h8 : n <= 8) (hV : ∀ i j, (V i j).natAbs <= bdM) (hs : Symm V) {D : Bool} (hD : dfB n V = D) :
   Calls Tryz.prog 23 #[vr] w (fun e w'' => Up w w'' /\ ∃ z, e = .returned z /\ (fun z _ => z = .bool D) z w'') :=
 (defb_any hR h8 hV hs).mono fun _ _ ⟨h1, h2⟩ => ⟨h2, _, h1, by rw [hD]⟩
theorem rt_call {v : Value} {N : Int} {l : List Int} {w : World} (h : Sm w v N l) :
   Calls Tryz.prog 22 #[v] w (fun e w'' => Up w w'' /\ ∃ z, e = .returned z /\ (fun z _ => z = .bool (rt N l)) z w'') :=
 (sright_any h).mono fun _ _ ⟨h1, h2⟩ => ⟨h2, _, h1, rfl⟩
set_option maxHeartbeats 16000000 in
theorem least_any {v : Value} {N : Int} {l : List Int} {k : Int} {w : World} (hm : Sm w v N l) (hk : I64 k) :
   Calls Tryz.prog 8 #[v, .int .i64 k] w fun r w' => r = .returned (.bool (lsV N l k)) /\ Up w w' := by
 have HR := hid (fun w' (hu : Up w w') => rt_call (hm.up hu))
 have HSm := hid hm
 obtain ⟨s0, rfl, ⟨p, cap, rfl, -, -⟩, -, -, -⟩ := hm
 cases hR : rt N l with
 | false =>
   rw [hR] at HR
   rw [show lsV N l k = false from by unfold lsV; rw [hR, Bool.false_and]]
   clear hR hk HSm
   go_enter Tryz.func8, Tryz.ntmps8
   go_wp2_with fail
   refine wp_folded (fun wd => Up w wd /\ Blk wd w.heap.size 24 #[.int .i64 N, .slice p l.length cap]) ⟨Up.alloc _ _, Blk.new _ _ rfl⟩ ?_
   rintro W1 ⟨hU1, hB1⟩
   obtain ⟨b0, hb0⟩ : ∃ y, w.heap.size = y := ⟨_, rfl⟩
   rw [hb0] at hB1 ⊢
   clear hb0
   refine wp_region_sg (n := 17) 13 [5, 6, 7, 8, 9, 10, 11, 12, 13, 14, 15, 16, 4] [SG.is (.agg #[.int .i64 N, .slice p l.length cap]), SG.is (.bool false), SG.tt false, SG.no, SG.no, SG.no, SG.no, SG.no, SG.no, SG.no, SG.no, SG.is (.bool false), SG.is (.bool false)] (fun wq => Blk wq b0 24 #[.int .i64 N, .slice p l.length cap] /\ Up w wq /\ Below w.heap.size w wq) (by kernel_rfl) (by rfl) (by kernel_rfl) (by kernel_rfl) (fun _ _ h hu => ⟨(h.1).up hu, (h.2.1).trans hu, below_up (h.2.2) hu⟩) ⟨(by first | assumption | exact gBlk), (by first | exact Up.refl _ | assumption), gUp⟩ (fun ev w9 hS9 i o hne hi hwt hev => ?_) (fun gR wE hq hSE huE => ?_)
   ·have ⟨hS1, hS2, hSB⟩ := hS9
    have hcC := hev.const
    have hcF := hev.func
    have hcG := hev.global
    rcases i with _ | _ | _ | _ | _ | _ | _ | _ | _ | _ | _ | _ | _ | i
    ·obtain rfl := oI hi
     have e2 := hev.other 2 (by kernel_rfl)
     simp [Act.eval] at e2
     exact leavesR_value (run_ldME rfl (by go_simp) hS1 rfl) rfl
    ·obtain rfl := oI hi
     have e5 : ev (.tmp 5) = (.agg #[.int .i64 N, .slice p l.length cap]) := hev.dep 0 5 (by kernel_rfl)
     refine leavesR_call ?_ (HR.out _ hS2)
     go_simp
    ·obtain rfl := oI hi
     have e6 : ev (.tmp 6) = (.bool false) := hev.dep 1 6 (by kernel_rfl)
     exact lV (.bool false)
    ·exact absurd hwt (Bool.eq_false_iff.1 (by kernel_rfl))
    ·exact absurd hwt (Bool.eq_false_iff.1 (by kernel_rfl))
    ·exact absurd hwt (Bool.eq_false_iff.1 (by kernel_rfl))
    ·exact absurd hwt (Bool.eq_false_iff.1 (by kernel_rfl))
    ·exact absurd hwt (Bool.eq_false_iff.1 (by kernel_rfl))
    ·exact absurd hwt (Bool.eq_false_iff.1 (by kernel_rfl))
    ·exact absurd hwt (Bool.eq_false_iff.1 (by kernel_rfl))
    ·exact absurd hwt (Bool.eq_false_iff.1 (by kernel_rfl))
    ·obtain rfl := oI hi
     have e7 : ev (.tmp 7) = (.bool false) := hev.dep 2 7 (by kernel_rfl)
     have e15 : ev (.tmp 15) = (undef) := hev.dep 10 15 (by kernel_rfl)
     exact lV (.bool false)
    ·obtain rfl := oI hi
     have e16 : ev (.tmp 16) = (.bool false) := hev.dep 11 16 (by kernel_rfl)
     exact lV (.bool false)
    ·exact absurd (show i + 13 < 13 from (Array.getElem?_eq_some_iff.1 hi).1) (by omega)
   have ⟨hS1, hS2, hSB⟩ := hSE
   have q0 : gR 5 = (.agg #[.int .i64 N, .slice p l.length cap]) := hq 0 5 (by decide) (by kernel_rfl)
   have q1 : gR 6 = (.bool false) := hq 1 6 (by decide) (by kernel_rfl)
   have q2 : gR 7 = (.bool false) := hq 2 7 (by decide) (by kernel_rfl)
   have q3 : gR 8 = (undef) := hq 3 8 (by decide) (by kernel_rfl)
   have q4 : gR 9 = (undef) := hq 4 9 (by decide) (by kernel_rfl)
   have q5 : gR 10 = (undef) := hq 5 10 (by decide) (by kernel_rfl)
   have q6 : gR 11 = (undef) := hq 6 11 (by decide) (by kernel_rfl)
   have q7 : gR 12 = (undef) := hq 7 12 (by decide) (by kernel_rfl)
   have q8 : gR 13 = (undef) := hq 8 13 (by decide) (by kernel_rfl)
   have q9 : gR 14 = (undef) := hq 9 14 (by decide) (by kernel_rfl)
   have q10 : gR 15 = (undef) := hq 10 15 (by decide) (by kernel_rfl)
   have q11 : gR 16 = (.bool false) := hq 11 16 (by decide) (by kernel_rfl)
   have q12 : gR 4 = (.bool false) := hq 12 4 (by decide) (by kernel_rfl)
   refine ⟨fun _ => ?_, fun o ho => by simp at ho⟩
   simp only [putL, List.map_cons, List.map_nil, q0, q1, q2, q3, q4, q5, q6, q7, q8, q9, q10, q11, q12, Act.put, pu1, pu2, pu3]
   clear hq hSE q0 q1 q2 q3 q4 q5 q6 q7 q8 q9 q10 q11 q12
   go_wp2_with fail
   go_ret
   exact ⟨rfl, hS2⟩
 | true =>
   rw [hR] at HR
   obtain ⟨n, rfl, n8⟩ := rt_ofN hR
   have HT := hid (fun w' (hu : Up w w') => tri_call (HSm.out.up hu) hR)
   have HO := hid (fun w => one_call n8 hk w)
   have HL := hid (fun w' va vb (ha : Rz w' va (triE n (AM n l))) (hb : Rz w' vb (triE n (unitM k))) => less_call ha hb n8 (AM_bp14 hR) (unit_bp14 hk))
   obtain ⟨D, hD⟩ : ∃ D, lsV n l k = D := ⟨_, rfl⟩
   have hD2 : dfB n (lsM n l k) = D := by rw [<- hD]; unfold lsV; rw [hR, Bool.true_and]; rfl
   have HD := hid (fun w' vr (h : Rz w' vr (triE n (lsM n l k))) => def_call h n8 (lsM_abs hR hk) (lsM_symm n l k) hD2)
   rw [hD]
   clear hR hk HSm hD hD2
   go_enter Tryz.func8, Tryz.ntmps8
   go_wp2_with fail
   refine wp_folded (fun wd => Up w wd /\ Blk wd w.heap.size 24 #[.int .i64 (n : Int), .slice p l.length cap]) ⟨Up.alloc _ _, Blk.new _ _ rfl⟩ ?_
   rintro W1 ⟨hU1, hB1⟩
   obtain ⟨b0, hb0⟩ : ∃ y, w.heap.size = y := ⟨_, rfl⟩
   rw [hb0] at hB1 ⊢
   clear hb0
   refine wp_region_sg (n := 17) 13 [5, 6, 7, 8, 9, 10, 11, 12, 13, 14, 15, 16, 4] [SG.is (.agg #[.int .i64 (n : Int), .slice p l.length cap]), SG.is (.bool true), SG.tt true, SG.is (.agg #[.int .i64 (n : Int), .slice p l.length cap]), SG.of (fun v w1 => Rz w1 v (triE n (AM n l))) (fun _ _ _ h hu => Rz.up hu h), SG.is (.pointer (some ⟨b0, 0, none⟩)), SG.is (.int .i64 (n : Nat)), SG.is (.int .i64 k), SG.of (fun v w1 => Rz w1 v (triE n (unitM k))) (fun _ _ _ h hu => Rz.up hu h), SG.of (fun v w1 => Rz w1 v (triE n (lsM n l k))) (fun _ _ _ h hu => Rz.up hu h), SG.is (.bool D), SG.is (.bool D), SG.is (.bool D)] (fun wq => Blk wq b0 24 #[.int .i64 (n : Int), .slice p l.length cap] /\ Up w wq /\ Below w.heap.size w wq) (by kernel_rfl) (by rfl) (by kernel_rfl) (by kernel_rfl) (fun _ _ h hu => ⟨(h.1).up hu, (h.2.1).trans hu, below_up (h.2.2) hu⟩) ⟨(by first | assumption | exact gBlk), (by first | exact Up.refl _ | assumption), gUp⟩ (fun ev w9 hS9 i o hne hi hwt hev => ?_) (fun gR wE hq hSE huE => ?_)
   ·have ⟨hS1, hS2, hSB⟩ := hS9
    have hcC := hev.const
    have hcF := hev.func
    have hcG := hev.global
    rcases i with _ | _ | _ | _ | _ | _ | _ | _ | _ | _ | _ | _ | _ | i
    ·obtain rfl := oI hi
     have e2 := hev.other 2 (by kernel_rfl)
     simp [Act.eval] at e2
     exact leavesR_value (run_ldME rfl (by go_simp) hS1 rfl) rfl
    ·obtain rfl := oI hi
     have e5 : ev (.tmp 5) = (.agg #[.int .i64 (n : Int), .slice p l.length cap]) := hev.dep 0 5 (by kernel_rfl)
     refine leavesR_call ?_ (HR.out _ hS2)
     go_simp
    ·obtain rfl := oI hi
     have e6 : ev (.tmp 6) = (.bool true) := hev.dep 1 6 (by kernel_rfl)
     exact lV (.bool true)
    ·obtain rfl := oI hi
     have e2 := hev.other 2 (by kernel_rfl)
     simp [Act.eval] at e2
     exact leavesR_value (run_ldME rfl (by go_simp) hS1 rfl) rfl
    ·obtain rfl := oI hi
     have e8 : ev (.tmp 8) = (.agg #[.int .i64 (n : Int), .slice p l.length cap]) := hev.dep 3 8 (by kernel_rfl)
     refine leavesR_call ?_ (HT.out _ hS2)
     go_simp
    ·obtain rfl := oI hi
     have e2 := hev.other 2 (by kernel_rfl)
     simp [Act.eval] at e2
     exact lV (.pointer (some ⟨b0, 0, none⟩))
    ·obtain rfl := oI hi
     have e10 : ev (.tmp 10) = (.pointer (some ⟨b0, 0, none⟩)) := hev.dep 5 10 (by kernel_rfl)
     have hcx := hS1.cell 0 rfl; exact leavesR_value (u := .int .i64 (n : Nat)) (by go_simp) rfl
    ·obtain rfl := oI hi
     have e1 := hev.other 1 (by kernel_rfl)
     simp [Act.eval] at e1
     exact lV (.int .i64 k)
    ·obtain rfl := oI hi
     have e11 : ev (.tmp 11) = (.int .i64 (n : Nat)) := hev.dep 6 11 (by kernel_rfl)
     have e12 : ev (.tmp 12) = (.int .i64 k) := hev.dep 7 12 (by kernel_rfl)
     refine leavesR_call ?_ (HO.out _)
     go_simp
    ·obtain rfl := oI hi
     have e9 : (fun v w1 => Rz w1 v (triE n (AM n l))) (ev (.tmp 9)) w9 := hev.dep 4 9 (by kernel_rfl)
     dsimp only at e9
     obtain ⟨v9, hv9⟩ : ∃ v, ev (.tmp 9) = v := ⟨_, rfl⟩
     rw [hv9] at e9
     have e13 : (fun v w1 => Rz w1 v (triE n (unitM k))) (ev (.tmp 13)) w9 := hev.dep 8 13 (by kernel_rfl)
     dsimp only at e13
     obtain ⟨v13, hv13⟩ : ∃ v, ev (.tmp 13) = v := ⟨_, rfl⟩
     rw [hv13] at e13
     refine leavesR_call ?_ (HL.out _ _ _ e9 e13)
     go_simp
    ·obtain rfl := oI hi
     have e14 : (fun v w1 => Rz w1 v (triE n (lsM n l k))) (ev (.tmp 14)) w9 := hev.dep 9 14 (by kernel_rfl)
     dsimp only at e14
     obtain ⟨v14, hv14⟩ : ∃ v, ev (.tmp 14) = v := ⟨_, rfl⟩
     rw [hv14] at e14
     refine leavesR_call ?_ (HD.out _ _ e14)
     go_simp
    ·obtain rfl := oI hi
     have e7 : ev (.tmp 7) = (.bool true) := hev.dep 2 7 (by kernel_rfl)
     have e15 : ev (.tmp 15) = (.bool D) := hev.dep 10 15 (by kernel_rfl)
     exact lV (.bool D)
    ·obtain rfl := oI hi
     have e16 : ev (.tmp 16) = (.bool D) := hev.dep 11 16 (by kernel_rfl)
     exact lV (.bool D)
    ·exact absurd (show i + 13 < 13 from (Array.getElem?_eq_some_iff.1 hi).1) (by omega)
   have ⟨hS1, hS2, hSB⟩ := hSE
   have q0 : gR 5 = (.agg #[.int .i64 (n : Int), .slice p l.length cap]) := hq 0 5 (by decide) (by kernel_rfl)
   have q1 : gR 6 = (.bool true) := hq 1 6 (by decide) (by kernel_rfl)
   have q2 : gR 7 = (.bool true) := hq 2 7 (by decide) (by kernel_rfl)
   have q3 : gR 8 = (.agg #[.int .i64 (n : Int), .slice p l.length cap]) := hq 3 8 (by decide) (by kernel_rfl)
   have q4 : (fun v w1 => Rz w1 v (triE n (AM n l))) (gR 9) wE := hq 4 9 (by decide) (by kernel_rfl)
   dsimp only at q4
   obtain ⟨v9, hv9⟩ : ∃ v, gR 9 = v := ⟨_, rfl⟩
   rw [hv9] at q4
   have q5 : gR 10 = (.pointer (some ⟨b0, 0, none⟩)) := hq 5 10 (by decide) (by kernel_rfl)
   have q6 : gR 11 = (.int .i64 (n : Nat)) := hq 6 11 (by decide) (by kernel_rfl)
   have q7 : gR 12 = (.int .i64 k) := hq 7 12 (by decide) (by kernel_rfl)
   have q8 : (fun v w1 => Rz w1 v (triE n (unitM k))) (gR 13) wE := hq 8 13 (by decide) (by kernel_rfl)
   dsimp only at q8
   obtain ⟨v13, hv13⟩ : ∃ v, gR 13 = v := ⟨_, rfl⟩
   rw [hv13] at q8
   have q9 : (fun v w1 => Rz w1 v (triE n (lsM n l k))) (gR 14) wE := hq 9 14 (by decide) (by kernel_rfl)
   dsimp only at q9
   obtain ⟨v14, hv14⟩ : ∃ v, gR 14 = v := ⟨_, rfl⟩
   rw [hv14] at q9
   have q10 : gR 15 = (.bool D) := hq 10 15 (by decide) (by kernel_rfl)
   have q11 : gR 16 = (.bool D) := hq 11 16 (by decide) (by kernel_rfl)
   have q12 : gR 4 = (.bool D) := hq 12 4 (by decide) (by kernel_rfl)
   refine ⟨fun _ => ?_, fun o ho => by simp at ho⟩
   simp only [putL, List.map_cons, List.map_nil, q0, q1, q2, q3, hv9, q5, q6, q7, hv13, hv14, q10, q11, q12, Act.put, pu1, pu2, pu3]
   clear hq hSE q0 q1 q2 q3 q5 q6 q7 q10 q11 q12
   go_wp2_with fail
   go_ret
   exact ⟨rfl, hS2⟩
set_option maxHeartbeats 16000000 in
theorem most_any {v : Value} {N : Int} {l : List Int} {k : Int} {w : World} (hm : Sm w v N l) (hk : I64 k) :
   Calls Tryz.prog 10 #[v, .int .i64 k] w fun r w' => r = .returned (.bool (msV N l k)) /\ Up w w' := by
 have HR := hid (fun w' (hu : Up w w') => rt_call (hm.up hu))
 have HSm := hid hm
 obtain ⟨s0, rfl, ⟨p, cap, rfl, -, -⟩, -, -, -⟩ := hm
 cases hR : rt N l with
 | false =>
   rw [hR] at HR
   rw [show msV N l k = false from by unfold msV; rw [hR, Bool.false_and]]
   clear hR hk HSm
   go_enter Tryz.func10, Tryz.ntmps10
   go_wp2_with fail
   refine wp_folded (fun wd => Up w wd /\ Blk wd w.heap.size 24 #[.int .i64 N, .slice p l.length cap]) ⟨Up.alloc _ _, Blk.new _ _ rfl⟩ ?_
   rintro W1 ⟨hU1, hB1⟩
   obtain ⟨b0, hb0⟩ : ∃ y, w.heap.size = y := ⟨_, rfl⟩
   rw [hb0] at hB1 ⊢
   clear hb0
   refine wp_region_sg (n := 17) 13 [5, 6, 7, 8, 9, 10, 11, 12, 13, 14, 15, 16, 4] [SG.is (.agg #[.int .i64 N, .slice p l.length cap]), SG.is (.bool false), SG.tt false, SG.no, SG.no, SG.no, SG.no, SG.no, SG.no, SG.no, SG.no, SG.is (.bool false), SG.is (.bool false)] (fun wq => Blk wq b0 24 #[.int .i64 N, .slice p l.length cap] /\ Up w wq /\ Below w.heap.size w wq) (by kernel_rfl) (by rfl) (by kernel_rfl) (by kernel_rfl) (fun _ _ h hu => ⟨(h.1).up hu, (h.2.1).trans hu, below_up (h.2.2) hu⟩) ⟨(by first | assumption | exact gBlk), (by first | exact Up.refl _ | assumption), gUp⟩ (fun ev w9 hS9 i o hne hi hwt hev => ?_) (fun gR wE hq hSE huE => ?_)
   ·have ⟨hS1, hS2, hSB⟩ := hS9
    have hcC := hev.const
    have hcF := hev.func
    have hcG := hev.global
    rcases i with _ | _ | _ | _ | _ | _ | _ | _ | _ | _ | _ | _ | _ | i
    ·obtain rfl := oI hi
     have e2 := hev.other 2 (by kernel_rfl)
     simp [Act.eval] at e2
     exact leavesR_value (run_ldME rfl (by go_simp) hS1 rfl) rfl
    ·obtain rfl := oI hi
     have e5 : ev (.tmp 5) = (.agg #[.int .i64 N, .slice p l.length cap]) := hev.dep 0 5 (by kernel_rfl)
     refine leavesR_call ?_ (HR.out _ hS2)
     go_simp
    ·obtain rfl := oI hi
     have e6 : ev (.tmp 6) = (.bool false) := hev.dep 1 6 (by kernel_rfl)
     exact lV (.bool false)
    ·exact absurd hwt (Bool.eq_false_iff.1 (by kernel_rfl))
    ·exact absurd hwt (Bool.eq_false_iff.1 (by kernel_rfl))
    ·exact absurd hwt (Bool.eq_false_iff.1 (by kernel_rfl))
    ·exact absurd hwt (Bool.eq_false_iff.1 (by kernel_rfl))
    ·exact absurd hwt (Bool.eq_false_iff.1 (by kernel_rfl))
    ·exact absurd hwt (Bool.eq_false_iff.1 (by kernel_rfl))
    ·exact absurd hwt (Bool.eq_false_iff.1 (by kernel_rfl))
    ·exact absurd hwt (Bool.eq_false_iff.1 (by kernel_rfl))
    ·obtain rfl := oI hi
     have e7 : ev (.tmp 7) = (.bool false) := hev.dep 2 7 (by kernel_rfl)
     have e15 : ev (.tmp 15) = (undef) := hev.dep 10 15 (by kernel_rfl)
     exact lV (.bool false)
    ·obtain rfl := oI hi
     have e16 : ev (.tmp 16) = (.bool false) := hev.dep 11 16 (by kernel_rfl)
     exact lV (.bool false)
    ·exact absurd (show i + 13 < 13 from (Array.getElem?_eq_some_iff.1 hi).1) (by omega)
   have ⟨hS1, hS2, hSB⟩ := hSE
   have q0 : gR 5 = (.agg #[.int .i64 N, .slice p l.length cap]) := hq 0 5 (by decide) (by kernel_rfl)
   have q1 : gR 6 = (.bool false) := hq 1 6 (by decide) (by kernel_rfl)
   have q2 : gR 7 = (.bool false) := hq 2 7 (by decide) (by kernel_rfl)
   have q3 : gR 8 = (undef) := hq 3 8 (by decide) (by kernel_rfl)
   have q4 : gR 9 = (undef) := hq 4 9 (by decide) (by kernel_rfl)
   have q5 : gR 10 = (undef) := hq 5 10 (by decide) (by kernel_rfl)
   have q6 : gR 11 = (undef) := hq 6 11 (by decide) (by kernel_rfl)
   have q7 : gR 12 = (undef) := hq 7 12 (by decide) (by kernel_rfl)
   have q8 : gR 13 = (undef) := hq 8 13 (by decide) (by kernel_rfl)
   have q9 : gR 14 = (undef) := hq 9 14 (by decide) (by kernel_rfl)
   have q10 : gR 15 = (undef) := hq 10 15 (by decide) (by kernel_rfl)
   have q11 : gR 16 = (.bool false) := hq 11 16 (by decide) (by kernel_rfl)
   have q12 : gR 4 = (.bool false) := hq 12 4 (by decide) (by kernel_rfl)
   refine ⟨fun _ => ?_, fun o ho => by simp at ho⟩
   simp only [putL, List.map_cons, List.map_nil, q0, q1, q2, q3, q4, q5, q6, q7, q8, q9, q10, q11, q12, Act.put, pu1, pu2, pu3]
   clear hq hSE q0 q1 q2 q3 q4 q5 q6 q7 q8 q9 q10 q11 q12
   go_wp2_with fail
   go_ret
   exact ⟨rfl, hS2⟩
 | true =>
   rw [hR] at HR
   obtain ⟨n, rfl, n8⟩ := rt_ofN hR
   have HT := hid (fun w' (hu : Up w w') => tri_call (HSm.out.up hu) hR)
   have HO := hid (fun w => one_call n8 hk w)
   have HL := hid (fun w' va vb (ha : Rz w' va (triE n (unitM k))) (hb : Rz w' vb (triE n (AM n l))) => less_call ha hb n8 (unit_bp14 hk) (AM_bp14 hR))
   obtain ⟨D, hD⟩ : ∃ D, msV n l k = D := ⟨_, rfl⟩
   have hD2 : dfB n (msM n l k) = D := by rw [<- hD]; unfold msV; rw [hR, Bool.true_and]; rfl
   have HD := hid (fun w' vr (h : Rz w' vr (triE n (msM n l k))) => def_call h n8 (msM_abs hR hk) (msM_symm n l k) hD2)
   rw [hD]
   clear hR hk HSm hD hD2
   go_enter Tryz.func10, Tryz.ntmps10
   go_wp2_with fail
   refine wp_folded (fun wd => Up w wd /\ Blk wd w.heap.size 24 #[.int .i64 (n : Int), .slice p l.length cap]) ⟨Up.alloc _ _, Blk.new _ _ rfl⟩ ?_
   rintro W1 ⟨hU1, hB1⟩
   obtain ⟨b0, hb0⟩ : ∃ y, w.heap.size = y := ⟨_, rfl⟩
   rw [hb0] at hB1 ⊢
   clear hb0
   refine wp_region_sg (n := 17) 13 [5, 6, 7, 8, 9, 10, 11, 12, 13, 14, 15, 16, 4] [SG.is (.agg #[.int .i64 (n : Int), .slice p l.length cap]), SG.is (.bool true), SG.tt true, SG.is (.pointer (some ⟨b0, 0, none⟩)), SG.is (.int .i64 (n : Nat)), SG.is (.int .i64 k), SG.of (fun v w1 => Rz w1 v (triE n (unitM k))) (fun _ _ _ h hu => Rz.up hu h), SG.is (.agg #[.int .i64 (n : Int), .slice p l.length cap]), SG.of (fun v w1 => Rz w1 v (triE n (AM n l))) (fun _ _ _ h hu => Rz.up hu h), SG.of (fun v w1 => Rz w1 v (triE n (msM n l k))) (fun _ _ _ h hu => Rz.up hu h), SG.is (.bool D), SG.is (.bool D), SG.is (.bool D)] (fun wq => Blk wq b0 24 #[.int .i64 (n : Int), .slice p l.length cap] /\ Up w wq /\ Below w.heap.size w wq) (by kernel_rfl) (by rfl) (by kernel_rfl) (by kernel_rfl) (fun _ _ h hu => ⟨(h.1).up hu, (h.2.1).trans hu, below_up (h.2.2) hu⟩) ⟨(by first | assumption | exact gBlk), (by first | exact Up.refl _ | assumption), gUp⟩ (fun ev w9 hS9 i o hne hi hwt hev => ?_) (fun gR wE hq hSE huE => ?_)
   ·have ⟨hS1, hS2, hSB⟩ := hS9
    have hcC := hev.const
    have hcF := hev.func
    have hcG := hev.global
    rcases i with _ | _ | _ | _ | _ | _ | _ | _ | _ | _ | _ | _ | _ | i
    ·obtain rfl := oI hi
     have e2 := hev.other 2 (by kernel_rfl)
     simp [Act.eval] at e2
     exact leavesR_value (run_ldME rfl (by go_simp) hS1 rfl) rfl
    ·obtain rfl := oI hi
     have e5 : ev (.tmp 5) = (.agg #[.int .i64 (n : Int), .slice p l.length cap]) := hev.dep 0 5 (by kernel_rfl)
     refine leavesR_call ?_ (HR.out _ hS2)
     go_simp
    ·obtain rfl := oI hi
     have e6 : ev (.tmp 6) = (.bool true) := hev.dep 1 6 (by kernel_rfl)
     exact lV (.bool true)
    ·obtain rfl := oI hi
     have e2 := hev.other 2 (by kernel_rfl)
     simp [Act.eval] at e2
     exact lV (.pointer (some ⟨b0, 0, none⟩))
    ·obtain rfl := oI hi
     have e8 : ev (.tmp 8) = (.pointer (some ⟨b0, 0, none⟩)) := hev.dep 3 8 (by kernel_rfl)
     have hcx := hS1.cell 0 rfl; exact leavesR_value (u := .int .i64 (n : Nat)) (by go_simp) rfl
    ·obtain rfl := oI hi
     have e1 := hev.other 1 (by kernel_rfl)
     simp [Act.eval] at e1
     exact lV (.int .i64 k)
    ·obtain rfl := oI hi
     have e9 : ev (.tmp 9) = (.int .i64 (n : Nat)) := hev.dep 4 9 (by kernel_rfl)
     have e10 : ev (.tmp 10) = (.int .i64 k) := hev.dep 5 10 (by kernel_rfl)
     refine leavesR_call ?_ (HO.out _)
     go_simp
    ·obtain rfl := oI hi
     have e2 := hev.other 2 (by kernel_rfl)
     simp [Act.eval] at e2
     exact leavesR_value (run_ldME rfl (by go_simp) hS1 rfl) rfl
    ·obtain rfl := oI hi
     have e12 : ev (.tmp 12) = (.agg #[.int .i64 (n : Int), .slice p l.length cap]) := hev.dep 7 12 (by kernel_rfl)
     refine leavesR_call ?_ (HT.out _ hS2)
     go_simp
    ·obtain rfl := oI hi
     have e11 : (fun v w1 => Rz w1 v (triE n (unitM k))) (ev (.tmp 11)) w9 := hev.dep 6 11 (by kernel_rfl)
     dsimp only at e11
     obtain ⟨v11, hv11⟩ : ∃ v, ev (.tmp 11) = v := ⟨_, rfl⟩
     rw [hv11] at e11
     have e13 : (fun v w1 => Rz w1 v (triE n (AM n l))) (ev (.tmp 13)) w9 := hev.dep 8 13 (by kernel_rfl)
     dsimp only at e13
     obtain ⟨v13, hv13⟩ : ∃ v, ev (.tmp 13) = v := ⟨_, rfl⟩
     rw [hv13] at e13
     refine leavesR_call ?_ (HL.out _ _ _ e11 e13)
     go_simp
    ·obtain rfl := oI hi
     have e14 : (fun v w1 => Rz w1 v (triE n (msM n l k))) (ev (.tmp 14)) w9 := hev.dep 9 14 (by kernel_rfl)
     dsimp only at e14
     obtain ⟨v14, hv14⟩ : ∃ v, ev (.tmp 14) = v := ⟨_, rfl⟩
     rw [hv14] at e14
     refine leavesR_call ?_ (HD.out _ _ e14)
     go_simp
    ·obtain rfl := oI hi
     have e7 : ev (.tmp 7) = (.bool true) := hev.dep 2 7 (by kernel_rfl)
     have e15 : ev (.tmp 15) = (.bool D) := hev.dep 10 15 (by kernel_rfl)
     exact lV (.bool D)
    ·obtain rfl := oI hi
     have e16 : ev (.tmp 16) = (.bool D) := hev.dep 11 16 (by kernel_rfl)
     exact lV (.bool D)
    ·exact absurd (show i + 13 < 13 from (Array.getElem?_eq_some_iff.1 hi).1) (by omega)
   have ⟨hS1, hS2, hSB⟩ := hSE
   have q0 : gR 5 = (.agg #[.int .i64 (n : Int), .slice p l.length cap]) := hq 0 5 (by decide) (by kernel_rfl)
   have q1 : gR 6 = (.bool true) := hq 1 6 (by decide) (by kernel_rfl)
   have q2 : gR 7 = (.bool true) := hq 2 7 (by decide) (by kernel_rfl)
   have q3 : gR 8 = (.pointer (some ⟨b0, 0, none⟩)) := hq 3 8 (by decide) (by kernel_rfl)
   have q4 : gR 9 = (.int .i64 (n : Nat)) := hq 4 9 (by decide) (by kernel_rfl)
   have q5 : gR 10 = (.int .i64 k) := hq 5 10 (by decide) (by kernel_rfl)
   have q6 : (fun v w1 => Rz w1 v (triE n (unitM k))) (gR 11) wE := hq 6 11 (by decide) (by kernel_rfl)
   dsimp only at q6
   obtain ⟨v11, hv11⟩ : ∃ v, gR 11 = v := ⟨_, rfl⟩
   rw [hv11] at q6
   have q7 : gR 12 = (.agg #[.int .i64 (n : Int), .slice p l.length cap]) := hq 7 12 (by decide) (by kernel_rfl)
   have q8 : (fun v w1 => Rz w1 v (triE n (AM n l))) (gR 13) wE := hq 8 13 (by decide) (by kernel_rfl)
   dsimp only at q8
   obtain ⟨v13, hv13⟩ : ∃ v, gR 13 = v := ⟨_, rfl⟩
   rw [hv13] at q8
   have q9 : (fun v w1 => Rz w1 v (triE n (msM n l k))) (gR 14) wE := hq 9 14 (by decide) (by kernel_rfl)
   dsimp only at q9
   obtain ⟨v14, hv14⟩ : ∃ v, gR 14 = v := ⟨_, rfl⟩
   rw [hv14] at q9
   have q10 : gR 15 = (.bool D) := hq 10 15 (by decide) (by kernel_rfl)
   have q11 : gR 16 = (.bool D) := hq 11 16 (by decide) (by kernel_rfl)
   have q12 : gR 4 = (.bool D) := hq 12 4 (by decide) (by kernel_rfl)
   refine ⟨fun _ => ?_, fun o ho => by simp at ho⟩
   simp only [putL, List.map_cons, List.map_nil, q0, q1, q2, q3, q4, q5, hv11, q7, hv13, hv14, q10, q11, q12, Act.put, pu1, pu2, pu3]
   clear hq hSE q0 q1 q2 q3 q4 q5 q7 q10 q11 q12
   go_wp2_with fail
   go_ret
   exact ⟨rfl, hS2⟩
def boundB : ByteArray := ⟨#[98, 111, 117, 110, 100]⟩
def ErrsB (w : World) (u : Value) (e : Int) : Prop := (e = 0 /\ u = .nilIface) \/ (e ≠ 0 /\ ∃ t x, u = .iface t x /\ IsEr w u (.flt boundB (.num e)))
theorem bwrong_any (n : Int) (h0 : n ≠ 0) (w : World) :
   Calls Tryz.prog 34 #[.int .i64 n] w fun r w' => ∃ u, r = .returned u /\ Up w w' /\ ErrsB w' u n := by
 have HW := hid (fun w => wrap_any (op := { data := #[98, 111, 117, 110, 100] }) (v := .iface 66 (.int .i64 n)) (e := .num n) (w := w) rfl)
 go_enter Tryz.func34, Tryz.ntmps34
 go_wp2_with (first | (go_at_call 56; (with_reducible refine (HW.out _).mono ?_); rintro r w1 ⟨u1, rfl, hu1, h1⟩))
 go_ret
 obtain ⟨t, u, rfl⟩ := h1.iface
 exact ⟨_, rfl, hu1, .inr ⟨h0, t, u, rfl, h1⟩⟩
set_option maxHeartbeats 8000000 in
theorem between_any {v : Value} {N : Int} {l : List Int} {x y : Int} {w : World} (hm : Sm w v N l) (hx : I64 x) (hy : I64 y) :
   Calls Tryz.prog 13 #[v, .int .i64 x, .int .i64 y] w fun r w' => ∃ u, r = .returned u /\ Up w w' /\ ErrsB w' u (btC N l x y) := by
 have HR := hid (fun w' (hu : Up w w') => sright_any (hm.up hu))
 have HL := hid (fun w' (hu : Up w w') => least_any (hm.up hu) hx)
 have HM := hid (fun w' (hu : Up w w') => most_any (hm.up hu) hy)
 have H23 := hid (fun w => bwrong_any 23 (by decide) w)
 have H30 := hid (fun w => bwrong_any 30 (by decide) w)
 have H31 := hid (fun w => bwrong_any 31 (by decide) w)
 obtain ⟨s0, rfl, ⟨p, cap, rfl, -, -⟩, -, -, -⟩ := hm
 obtain ⟨W0, hW0⟩ : ∃ W0, w.alloc (.cells #[.int .i64 N, .slice p l.length cap] 24) = W0 := ⟨_, rfl⟩
 have hB : Blk W0 w.heap.size 24 #[.int .i64 N, .slice p l.length cap] := by rw [<- hW0]; exact Blk.new _ _ rfl
 have hU : Up w W0 := by rw [<- hW0]; exact Up.alloc _ _
 have HC : Hid (btC N l x y = if rt N l = true then (if lsV N l x = true then (if msV N l y = true then 0 else 31) else 30) else 23) := hid rfl
 obtain ⟨C, hC⟩ : ∃ C, btC N l x y = C := ⟨_, rfl⟩
 rw [hC] at HC ⊢
 obtain ⟨a, ha⟩ : ∃ a, rt N l = a := ⟨_, rfl⟩
 obtain ⟨b, hb⟩ : ∃ b, lsV N l x = b := ⟨_, rfl⟩
 obtain ⟨c, hc⟩ : ∃ c, msV N l y = c := ⟨_, rfl⟩
 rw [ha] at HR HC
 rw [hb] at HL HC
 rw [hc] at HM HC
 clear hC ha hb hc hx hy
 cases a with
 | false =>
   have hC : C = 23 := HC.out
   subst hC
   go_enter Tryz.func13, Tryz.ntmps13
   go_wp2_with (first
    | ((with_reducible apply ldM_P); exact rfl; exact rfl; exact hB; exact rfl)
    | (go_at_call 22; (with_reducible refine (HR.out _ hU).mono ?_); rintro r w1 ⟨rfl, hu1⟩)
    | (go_at_call 34; (with_reducible refine (H23.out _).mono ?_); rintro r w2 ⟨u2, rfl, hu2, h2⟩))
   go_ret
   exact ⟨_, rfl, (hU.trans hu1).trans hu2, h2⟩
 | true =>
   cases b with
   | false =>
     have hC : C = 30 := HC.out
     subst hC
     go_enter Tryz.func13, Tryz.ntmps13
     go_wp2_with (first
      | ((with_reducible apply ldM_P); exact rfl; exact rfl; (first | exact hB | exact hB1); exact rfl)
      | (go_at_call 22; (with_reducible refine (HR.out _ hU).mono ?_); rintro r w1 ⟨rfl, hu1⟩; have hB1 := hB.up hu1; have hU1 := hU.trans hu1)
      | (go_at_call 8; (with_reducible refine (HL.out _ hU1).mono ?_); rintro r w2 ⟨rfl, hu2⟩)
      | (go_at_call 34; (with_reducible refine (H30.out _).mono ?_); rintro r w3 ⟨u3, rfl, hu3, h3⟩))
     go_ret
     exact ⟨_, rfl, (hU1.trans hu2).trans hu3, h3⟩
   | true =>
     cases c with
     | false =>
       have hC : C = 31 := HC.out
       subst hC
       go_enter Tryz.func13, Tryz.ntmps13
       go_wp2_with (first
        | ((with_reducible apply ldM_P); exact rfl; exact rfl; (first | exact hB | exact hB1 | exact hB2); exact rfl)
        | (go_at_call 22; (with_reducible refine (HR.out _ hU).mono ?_); rintro r w1 ⟨rfl, hu1⟩; have hB1 := hB.up hu1; have hU1 := hU.trans hu1)
        | (go_at_call 8; (with_reducible refine (HL.out _ hU1).mono ?_); rintro r w2 ⟨rfl, hu2⟩; have hB2 := hB1.up hu2; have hU2 := hU1.trans hu2)
        | (go_at_call 10; (with_reducible refine (HM.out _ hU2).mono ?_); rintro r w3 ⟨rfl, hu3⟩)
        | (go_at_call 34; (with_reducible refine (H31.out _).mono ?_); rintro r w4 ⟨u4, rfl, hu4, h4⟩))
       go_ret
       exact ⟨_, rfl, (hU2.trans hu3).trans hu4, h4⟩
     | true =>
       have hC : C = 0 := HC.out
       subst hC
       go_enter Tryz.func13, Tryz.ntmps13
       go_wp2_with (first
        | ((with_reducible apply ldM_P); exact rfl; exact rfl; (first | exact hB | exact hB1 | exact hB2); exact rfl)
        | (go_at_call 22; (with_reducible refine (HR.out _ hU).mono ?_); rintro r w1 ⟨rfl, hu1⟩; have hB1 := hB.up hu1; have hU1 := hU.trans hu1)
        | (go_at_call 8; (with_reducible refine (HL.out _ hU1).mono ?_); rintro r w2 ⟨rfl, hu2⟩; have hB2 := hB1.up hu2; have hU2 := hU1.trans hu2)
        | (go_at_call 10; (with_reducible refine (HM.out _ hU2).mono ?_); rintro r w3 ⟨rfl, hu3⟩))
       go_ret
       exact ⟨_, rfl, hU2.trans hu3, .inl ⟨rfl, rfl⟩⟩
set_option maxHeartbeats 16000000 in
theorem below_any {va vb : Value} {N K : Int} {a b : List Int} {w : World} (ha : Sm w va N a) (hb : Sm w vb K b) :
   Calls Tryz.prog 18 #[va, vb] w fun r w' => r = .returned (.bool (beV N a K b)) /\ Up w w' := by
 have HRa := hid (fun w' (hu : Up w w') => sright_any (ha.up hu))
 have HRb := hid (fun w' (hu : Up w w') => sright_any (hb.up hu))
 have HSa := hid ha
 have HSb := hid hb
 obtain ⟨sa, rfl, ⟨p, cap, rfl, -, -⟩, -, -, -⟩ := ha
 obtain ⟨sb, rfl, ⟨q, capq, rfl, -, -⟩, -, -, -⟩ := hb
 obtain ⟨W0, hW0⟩ : ∃ W0, (w.alloc (.cells #[.int .i64 N, .slice p a.length cap] 24)).alloc (.cells #[.int .i64 K, .slice q b.length capq] 24) = W0 := ⟨_, rfl⟩
 have hBa : Blk W0 w.heap.size 24 #[.int .i64 N, .slice p a.length cap] := by rw [<- hW0]; exact (Blk.new _ _ rfl).up (Up.alloc _ _)
 have hBb : Blk W0 (w.heap.size + 1) 24 #[.int .i64 K, .slice q b.length capq] := by rw [<- hW0]; exact Blk.new _ _ (by simp)
 have hU : Up w W0 := by rw [<- hW0]; exact (Up.alloc _ _).trans (Up.alloc _ _)
 cases hRa : rt N a with
 | false =>
   rw [hRa] at HRa
   rw [show beV N a K b = false from by unfold beV; rw [hRa, Bool.false_and]]
   clear hRa
   go_enter Tryz.func18, Tryz.ntmps18
   go_wp2_with (first
    | ((with_reducible apply ldM_P); exact rfl; exact rfl; exact hBa; exact rfl)
    | (go_at_call 22; (with_reducible refine (HRa.out _ hU).mono ?_); rintro r w1 ⟨rfl, hu1⟩))
   go_ret
   exact ⟨rfl, hU.trans hu1⟩
 | true =>
   rw [hRa] at HRa
   cases hRb : rt K b with
   | false =>
     rw [hRb] at HRb
     rw [show beV N a K b = false from by unfold beV; rw [hRb, Bool.false_and, Bool.and_false]]
     clear hRa hRb
     go_enter Tryz.func18, Tryz.ntmps18
     go_wp2_with (first
      | ((with_reducible apply ldM_P); exact rfl; exact rfl; (first | exact hBa | exact hBb | exact hBb1); exact rfl)
      | (go_at_call 22; first
         | ((with_reducible refine (HRa.out _ hU).mono ?_); rintro r w1 ⟨rfl, hu1⟩; have hBb1 := hBb.up hu1; have hU1 := hU.trans hu1)
         | ((with_reducible refine (HRb.out _ hU1).mono ?_); rintro r w2 ⟨rfl, hu2⟩)))
     go_ret
     exact ⟨rfl, hU1.trans hu2⟩
   | true =>
     rw [hRb] at HRb
     by_cases hNK : N = K
     ·subst hNK
      obtain ⟨n, rfl, n8⟩ := rt_ofN hRa
      obtain ⟨D, hD⟩ : ∃ D, beV n a n b = D := ⟨_, rfl⟩
      have hD2 : dfB n (beM n a b) = D := by rw [<- hD]; unfold beV; rw [hRa, hRb, Bool.true_and, Bool.true_and, decide_eq_true rfl, Bool.true_and]; rfl
      have HTa := hid (fun w' (hu : Up w w') => tri_call (HSa.out.up hu) hRa)
      have HTb := hid (fun w' (hu : Up w w') => tri_call (HSb.out.up hu) hRb)
      have HO := hid (fun w => one_call n8 i64_one w)
      have HL1 := hid (fun w' va vb (h1 : Rz w' va (triE n (AM n a))) (h2 : Rz w' vb (triE n (unitM 1))) => less_call h1 h2 n8 (AM_bp14 hRa) (unit_bp14 i64_one))
      have HL2 := hid (fun w' va vb (h1 : Rz w' va (triE n (AM n b))) (h2 : Rz w' vb (triE n fun i j => AM n a i j - unitM 1 i j)) => less_call h1 h2 n8 (AM_bp14 hRb) (less_bp14 hRa i64_one))
      have HD := hid (fun w' vr (h : Rz w' vr (triE n (beM n a b))) => def_call h n8 (beM_abs hRa hRb) (beM_symm n a b) hD2)
      rw [hD]
      clear hRa hRb HSa HSb hD hD2
      go_enter Tryz.func18, Tryz.ntmps18
      go_wp2_with (first
       | ((with_reducible apply ldM_P); exact rfl; exact rfl; (first | exact hBa | exact hBb1 | exact hBb2); exact rfl)
       | (go_at_call 22; first
          | ((with_reducible refine (HRa.out _ hU).mono ?_); rintro r w1 ⟨rfl, hu1⟩; have hBb1 := hBb.up hu1; have hBa1 := hBa.up hu1; have hU1 := hU.trans hu1)
          | ((with_reducible refine (HRb.out _ hU1).mono ?_); rintro r w2 ⟨rfl, hu2⟩; have hBb2 := hBb1.up hu2; have hBa2 := hBa1.up hu2; have hU2 := hU1.trans hu2; have hc0 := hBa2.cell 0 rfl; have hc1 := hBb2.cell 0 rfl)))
      try simp only [Act.put]
      obtain ⟨b0, hb0⟩ : ∃ y, w.heap.size = y := ⟨_, rfl⟩
      rw [hb0] at hBa2 hBb2 ⊢
      clear hb0 hW0 hBa hBb hBb1 hBa1 hU hU1 hu1 hu2 hc0 hc1
      refine wp_region_sp (n := 30) 11 [20, 21, 22, 23, 24, 25, 26, 27, 28, 29, 4] [SP.is (.agg #[.int .i64 (n : Int), .slice q b.length capq]), SP.of (fun v w1 => Rz w1 v (triE n (AM n b))) (fun _ _ _ h hu => Rz.up hu h), SP.is (.agg #[.int .i64 (n : Int), .slice p a.length cap]), SP.of (fun v w1 => Rz w1 v (triE n (AM n a))) (fun _ _ _ h hu => Rz.up hu h), SP.is (.pointer (some ⟨b0, 0, none⟩)), SP.is (.int .i64 (n : Nat)), SP.of (fun v w1 => Rz w1 v (triE n (unitM 1))) (fun _ _ _ h hu => Rz.up hu h), SP.of (fun v w1 => Rz w1 v (triE n fun i j => AM n a i j - unitM 1 i j)) (fun _ _ _ h hu => Rz.up hu h), SP.of (fun v w1 => Rz w1 v (triE n (beM n a b))) (fun _ _ _ h hu => Rz.up hu h), SP.is (.bool D), SP.is (.bool D)] (fun wq => Blk wq b0 24 #[.int .i64 (n : Int), .slice p a.length cap] /\ Blk wq (b0 + 1) 24 #[.int .i64 (n : Int), .slice q b.length capq] /\ Up w wq /\ Below w.heap.size w wq) (by kernel_rfl) (by rfl) (by kernel_rfl) (by kernel_rfl) (fun _ _ h hu => ⟨(h.1).up hu, (h.2.1).up hu, (h.2.2.1).trans hu, below_up (h.2.2.2) hu⟩) ⟨(by first | assumption | exact gBlk), (by first | assumption | exact gBlk), (by first | exact Up.refl _ | assumption), gUp⟩ (fun ev w9 hS9 i o hne hi hev => ?_) (fun gR wE hq hSE huE => ?_)
      ·have ⟨hS1, hS2, hS3, hSB⟩ := hS9
       have hcC := hev.const
       have hcF := hev.func
       have hcG := hev.global
       rcases i with _ | _ | _ | _ | _ | _ | _ | _ | _ | _ | _ | i
       ·obtain rfl := oI hi
        have e3 := hev.other 3 (by kernel_rfl)
        simp [Act.eval] at e3
        exact leavesR_value (run_ldME rfl (by go_simp) hS2 rfl) rfl
       ·obtain rfl := oI hi
        have e20 : ev (.tmp 20) = (.agg #[.int .i64 (n : Int), .slice q b.length capq]) := hev.dep 0 20 (by kernel_rfl)
        refine leavesR_call ?_ (HTb.out _ hS3)
        go_simp
       ·obtain rfl := oI hi
        have e2 := hev.other 2 (by kernel_rfl)
        simp [Act.eval] at e2
        exact leavesR_value (run_ldME rfl (by go_simp) hS1 rfl) rfl
       ·obtain rfl := oI hi
        have e22 : ev (.tmp 22) = (.agg #[.int .i64 (n : Int), .slice p a.length cap]) := hev.dep 2 22 (by kernel_rfl)
        refine leavesR_call ?_ (HTa.out _ hS3)
        go_simp
       ·obtain rfl := oI hi
        have e2 := hev.other 2 (by kernel_rfl)
        simp [Act.eval] at e2
        exact lV (.pointer (some ⟨b0, 0, none⟩))
       ·obtain rfl := oI hi
        have e24 : ev (.tmp 24) = (.pointer (some ⟨b0, 0, none⟩)) := hev.dep 4 24 (by kernel_rfl)
        have hcx := hS1.cell 0 rfl; exact leavesR_value (u := .int .i64 (n : Nat)) (by go_simp) rfl
       ·obtain rfl := oI hi
        have e25 : ev (.tmp 25) = (.int .i64 (n : Nat)) := hev.dep 5 25 (by kernel_rfl)
        refine leavesR_call ?_ (HO.out _)
        go_simp
       ·obtain rfl := oI hi
        have e23 : (fun v w1 => Rz w1 v (triE n (AM n a))) (ev (.tmp 23)) w9 := hev.dep 3 23 (by kernel_rfl)
        dsimp only at e23
        obtain ⟨v23, hv23⟩ : ∃ v, ev (.tmp 23) = v := ⟨_, rfl⟩
        rw [hv23] at e23
        have e26 : (fun v w1 => Rz w1 v (triE n (unitM 1))) (ev (.tmp 26)) w9 := hev.dep 6 26 (by kernel_rfl)
        dsimp only at e26
        obtain ⟨v26, hv26⟩ : ∃ v, ev (.tmp 26) = v := ⟨_, rfl⟩
        rw [hv26] at e26
        refine leavesR_call ?_ (HL1.out _ _ _ e23 e26)
        go_simp
       ·obtain rfl := oI hi
        have e21 : (fun v w1 => Rz w1 v (triE n (AM n b))) (ev (.tmp 21)) w9 := hev.dep 1 21 (by kernel_rfl)
        dsimp only at e21
        obtain ⟨v21, hv21⟩ : ∃ v, ev (.tmp 21) = v := ⟨_, rfl⟩
        rw [hv21] at e21
        have e27 : (fun v w1 => Rz w1 v (triE n fun i j => AM n a i j - unitM 1 i j)) (ev (.tmp 27)) w9 := hev.dep 7 27 (by kernel_rfl)
        dsimp only at e27
        obtain ⟨v27, hv27⟩ : ∃ v, ev (.tmp 27) = v := ⟨_, rfl⟩
        rw [hv27] at e27
        refine leavesR_call ?_ (HL2.out _ _ _ e21 e27)
        go_simp
       ·obtain rfl := oI hi
        have e28 : (fun v w1 => Rz w1 v (triE n (beM n a b))) (ev (.tmp 28)) w9 := hev.dep 8 28 (by kernel_rfl)
        dsimp only at e28
        obtain ⟨v28, hv28⟩ : ∃ v, ev (.tmp 28) = v := ⟨_, rfl⟩
        rw [hv28] at e28
        refine leavesR_call ?_ (HD.out _ _ e28)
        go_simp
       ·obtain rfl := oI hi
        have e29 : ev (.tmp 29) = (.bool D) := hev.dep 9 29 (by kernel_rfl)
        exact lV (.bool D)
       ·exact absurd (show i + 11 < 11 from (Array.getElem?_eq_some_iff.1 hi).1) (by omega)
      have ⟨hS1, hS2, hS3, hSB⟩ := hSE
      have q0 : gR 20 = (.agg #[.int .i64 (n : Int), .slice q b.length capq]) := hq 0 20 (by decide) (by kernel_rfl)
      have q1 : (fun v w1 => Rz w1 v (triE n (AM n b))) (gR 21) wE := hq 1 21 (by decide) (by kernel_rfl)
      dsimp only at q1
      obtain ⟨v21, hv21⟩ : ∃ v, gR 21 = v := ⟨_, rfl⟩
      rw [hv21] at q1
      have q2 : gR 22 = (.agg #[.int .i64 (n : Int), .slice p a.length cap]) := hq 2 22 (by decide) (by kernel_rfl)
      have q3 : (fun v w1 => Rz w1 v (triE n (AM n a))) (gR 23) wE := hq 3 23 (by decide) (by kernel_rfl)
      dsimp only at q3
      obtain ⟨v23, hv23⟩ : ∃ v, gR 23 = v := ⟨_, rfl⟩
      rw [hv23] at q3
      have q4 : gR 24 = (.pointer (some ⟨b0, 0, none⟩)) := hq 4 24 (by decide) (by kernel_rfl)
      have q5 : gR 25 = (.int .i64 (n : Nat)) := hq 5 25 (by decide) (by kernel_rfl)
      have q6 : (fun v w1 => Rz w1 v (triE n (unitM 1))) (gR 26) wE := hq 6 26 (by decide) (by kernel_rfl)
      dsimp only at q6
      obtain ⟨v26, hv26⟩ : ∃ v, gR 26 = v := ⟨_, rfl⟩
      rw [hv26] at q6
      have q7 : (fun v w1 => Rz w1 v (triE n fun i j => AM n a i j - unitM 1 i j)) (gR 27) wE := hq 7 27 (by decide) (by kernel_rfl)
      dsimp only at q7
      obtain ⟨v27, hv27⟩ : ∃ v, gR 27 = v := ⟨_, rfl⟩
      rw [hv27] at q7
      have q8 : (fun v w1 => Rz w1 v (triE n (beM n a b))) (gR 28) wE := hq 8 28 (by decide) (by kernel_rfl)
      dsimp only at q8
      obtain ⟨v28, hv28⟩ : ∃ v, gR 28 = v := ⟨_, rfl⟩
      rw [hv28] at q8
      have q9 : gR 29 = (.bool D) := hq 9 29 (by decide) (by kernel_rfl)
      have q10 : gR 4 = (.bool D) := hq 10 4 (by decide) (by kernel_rfl)
      refine ⟨fun _ => ?_, fun o ho => by simp at ho⟩
      simp only [putL, List.map_cons, List.map_nil, q0, hv21, q2, hv23, q4, q5, hv26, hv27, hv28, q9, q10, Act.put, pu1, pu2, pu3]
      clear hq hSE q0 q2 q4 q5 q9 q10
      go_wp2_with fail
      go_ret
      exact ⟨rfl, hS3⟩
     ·rw [show beV N a K b = false from by unfold beV; rw [decide_eq_false hNK, Bool.false_and, Bool.and_false, Bool.and_false]]
      have hNe : (N != K) = true := by simpa using hNK
      have hd : (N == K) = false := by simpa using hNK
      clear hRa hRb
      go_enter Tryz.func18, Tryz.ntmps18
      go_wp2_with (first
       | ((with_reducible apply ldM_P); exact rfl; exact rfl; (first | exact hBa | exact hBb1); exact rfl)
       | (go_at_call 22; first
          | ((with_reducible refine (HRa.out _ hU).mono ?_); rintro r w1 ⟨rfl, hu1⟩; have hBb1 := hBb.up hu1; have hBa1 := hBa.up hu1; have hU1 := hU.trans hu1)
          | ((with_reducible refine (HRb.out _ hU1).mono ?_); rintro r w2 ⟨rfl, hu2⟩; have hc0 := (hBa1.up hu2).cell 0 rfl; have hc1 := (hBb1.up hu2).cell 0 rfl)))
      go_ret
      exact ⟨rfl, hU1.trans hu2⟩
theorem bsays_any {u : Value} {e : Int} {w : World} (h : ErrsB w u e) (hg : Glob w) :
   Calls Tryz.prog 12 #[u, .int .i64 e] w fun r w' => r = .returned (.bool true) /\ Up w w' := by
 rcases h with ⟨rfl, rfl⟩ | ⟨h0, t, x, rfl, hE⟩
 ·go_enter Tryz.func12, Tryz.ntmps12
  go_wp2_with fail
  go_ret
  exact ⟨rfl, Up.refl _⟩
 ·have d : (e == 0) = false := by simpa using h0
  have HO := hid (fun w' (hu : Up w w') => ops_any (hE.up hu) (show 1 < 1000000 by decide))
  have HC := hid (fun w' (hu : Up w w') => code_any (hE.up hu) (hg.up hu))
  have de : (e == e) = true := by simp
  have dB : (boundB.toList == [98, 111, 117, 110, 100]) = true := by rw [show boundB.toList = [98, 111, 117, 110, 100] from by rw [ByteArray.toList_eq]; rfl]; rfl
  clear hE hg h0
  go_enter Tryz.func12, Tryz.ntmps12
  go_wp2_with (first
   | (go_at_call 32; (with_reducible refine (HO.out _ (Up.refl _)).mono ?_); rintro r w1 ⟨s, rfl, hu1, hs⟩; obtain ⟨g, cap, C, rfl, hB, h0⟩ := own_one hs)
   | (go_at_call 33; (with_reducible refine (HC.out _ hu1).mono ?_); rintro r w2 ⟨rfl, hu2⟩; have hc := (hB.up hu2).cell 0 h0; have de2 : ((Er.flt boundB (.num e)).first.getD 36 == e) = true := by (show (e == e) = true; simp)))
  go_ret
  exact ⟨rfl, hu1.trans hu2⟩
theorem k_ls : lsV 1 [5] 4 = true /\ lsV 1 [5] 5 = false := by decide +kernel
theorem k_ms : msV 1 [5] 6 = true /\ msV 1 [5] 5 = false := by decide +kernel
theorem k_bt : btC 1 [5] 4 6 = 0 /\ btC 1 [5] 5 6 = 30 /\ btC 1 [5] 4 5 = 31 := by decide +kernel
theorem k_be : beV 1 [5] 1 [5] = true /\ beV 1 [5] 1 [4] = false := by decide +kernel
theorem vw_sole (w : World) (z : Int) : Vw (w.alloc (.cells #[.int .i64 z] 2)) (.slice (some ⟨w.heap.size, 0, none⟩) 1 1) [z] := by
 refine ⟨_, 1, rfl, ⟨Nat.le_refl _, fun e => by cases e⟩, fun i hi => ⟨_, rfl, ?_⟩⟩
 rcases i with _ | i
 ·simp [zth, Addr.add]
 ·simp at hi
theorem sm_sole {w : World} {v : Value} {z : Int} (hz : I64 z) (h : Vw w v [z]) : Sm w (.agg #[.int .i64 1, v]) 1 [z] :=
 ⟨_, rfl, h, by unfold I64; omega, fun i hi => by
  rcases i with _ | i
  ·exact hz
  ·simp at hi, by simp⟩
set_option maxHeartbeats 16000000 in
theorem bknown_true {w : World} (hg : Glob w) :
   Calls Tryz.prog 6 #[] w fun r w' => r = .returned (.bool true) /\ Up w w' := by
 have HG := hid (fun w' (hu : Up w w') => hg.up hu)
 have i4 : I64 4 := by unfold I64; decide
 have i5 : I64 5 := by unfold I64; decide
 have i6 : I64 6 := by unfold I64; decide
 have hW := vw_sole w 5
 obtain ⟨wA, hwA⟩ : ∃ y, w.alloc (.cells #[.int .i64 5] 2) = y := ⟨_, rfl⟩
 have hUA : Up w wA := by rw [<- hwA]; exact Up.alloc _ _
 obtain ⟨bA, hbA⟩ : ∃ y, w.heap.size = y := ⟨_, rfl⟩
 rw [hwA, hbA] at hW
 obtain ⟨wB, hwB⟩ : ∃ y, wA.alloc (.cells #[.int .i64 1, .slice (some ⟨bA, 0, none⟩) 1 1] 24) = y := ⟨_, rfl⟩
 have hB : Blk wB wA.heap.size 24 #[.int .i64 1, .slice (some ⟨bA, 0, none⟩) 1 1] := by rw [<- hwB]; exact Blk.new _ _ rfl
 have hUB : Up wA wB := by rw [<- hwB]; exact Up.alloc _ _
 obtain ⟨bB, hbB⟩ : ∃ y, wA.heap.size = y := ⟨_, rfl⟩
 rw [hbB] at hB
 have HS := hid (fun w' (hu : Up wB w') => sm_sole i5 (Vw.up (hUB.trans hu) hW))
 have HL4 := hid (fun w' (hu : Up wB w') => k_ls.1 ▸ least_any (HS.out w' hu) i4)
 have HL5 := hid (fun w' (hu : Up wB w') => k_ls.2 ▸ least_any (HS.out w' hu) i5)
 have HM6 := hid (fun w' (hu : Up wB w') => k_ms.1 ▸ most_any (HS.out w' hu) i6)
 have HM5 := hid (fun w' (hu : Up wB w') => k_ms.2 ▸ most_any (HS.out w' hu) i5)
 have HT0 := hid (fun w' (hu : Up wB w') => k_bt.1 ▸ between_any (HS.out w' hu) i4 i6)
 have HT1 := hid (fun w' (hu : Up wB w') => k_bt.2.1 ▸ between_any (HS.out w' hu) i5 i6)
 have HT2 := hid (fun w' (hu : Up wB w') => k_bt.2.2 ▸ between_any (HS.out w' hu) i4 i5)
 have HE1 := hid (fun w' (hu : Up wB w') => k_be.1 ▸ below_any (HS.out _ (hu.trans (Up.alloc w' (.cells #[.int .i64 5] 2)))) (sm_sole i5 (vw_sole w' 5)))
 have HE2 := hid (fun w' (hu : Up wB w') => k_be.2 ▸ below_any (HS.out _ (hu.trans (Up.alloc w' (.cells #[.int .i64 4] 2)))) (sm_sole i4 (vw_sole w' 4)))
 have hU := hUA.trans hUB
 clear hg hW hUA hUB i4 i5 i6 HS
 go_enter Tryz.func6, Tryz.ntmps6
 go_wp2_with (first
  | ((with_reducible apply ldM_P); exact rfl; exact rfl; (first | exact hB | exact hB.up hx1 | exact hB.up hx2 | exact hB.up hx3 | exact hB.up hx4 | exact hB.up hx5 | exact hB.up hx6 | exact hB.up hx7 | exact hB.up hx8 | exact hB.up hx9 | exact hB.up hx10); exact rfl)
  | (go_at_call 8; first
     | ((with_reducible refine (HL4.out _ (Up.refl _)).mono ?_); rintro r w1 ⟨rfl, hu1⟩; have hx1 : Up wB w1 := hu1)
     | ((with_reducible refine (HL5.out _ hx1).mono ?_); rintro r w2 ⟨rfl, hu2⟩; have hx2 : Up wB w2 := hx1.trans hu2))
  | (go_at_call 10; first
     | ((with_reducible refine (HM6.out _ hx2).mono ?_); rintro r w3 ⟨rfl, hu3⟩; have hx3 : Up wB w3 := hx2.trans hu3)
     | ((with_reducible refine (HM5.out _ hx3).mono ?_); rintro r w4 ⟨rfl, hu4⟩; have hx4 : Up wB w4 := hx3.trans hu4))
  | (go_at_call 13; first
     | ((with_reducible refine (HT0.out _ hx4).mono ?_); rintro r w5 ⟨u5, rfl, hu5, he5⟩; have hx5 : Up wB w5 := hx4.trans hu5; obtain rfl := he5.elim (fun h => h.2) (fun h => absurd rfl h.1))
     | ((with_reducible refine (HT1.out _ hx5).mono ?_); rintro r w6 ⟨u6, rfl, hu6, he6⟩; have hx6 : Up wB w6 := hx5.trans hu6)
     | ((with_reducible refine (HT2.out _ hx7).mono ?_); rintro r w8 ⟨u8, rfl, hu8, he8⟩; have hx8 : Up wB w8 := hx7.trans hu8))
  | (go_at_call 12; first
     | ((with_reducible refine (bsays_any he6 (HG.out _ (hU.trans hx6))).mono ?_); rintro r w7 ⟨rfl, hu7⟩; have hx7 : Up wB w7 := hx6.trans hu7)
     | ((with_reducible refine (bsays_any he8 (HG.out _ (hU.trans hx8))).mono ?_); rintro r w9 ⟨rfl, hu9⟩; have hx9 : Up wB w9 := hx8.trans hu9))
  | (go_at_call 18; first
     | ((with_reducible refine (HE1.out _ hx9).mono ?_); rintro r w10 ⟨rfl, hu10⟩; have hx10 : Up wB w10 := hx9.trans ((Up.alloc _ _).trans hu10))
     | ((with_reducible refine (HE2.out _ hx10).mono ?_); rintro r w11 ⟨rfl, hu11⟩; have hx11 : Up wB w11 := hx10.trans ((Up.alloc _ _).trans hu11))))
 go_ret
 exact ⟨rfl, hU.trans hx11⟩
theorem ent_fit {n : Nat} {l : List Int} (hR : rt n l = true) {i j : Nat} (hi : i < n) (hj : j < n) : (ent n l i j).natAbs <= 1073741824 := by
 obtain ⟨k, _, hk, he⟩ := idx_nat hR (show rng (n : Int) i j = true from decide_eq_true (by omega))
 have := (rt_spec hR).2.2.2 k hk
 rw [he]
 have := of_decide_eq_true this
 omega
theorem mul_bp1 {a b : Int} (ha : a.natAbs < bp 1) (hb' : b.natAbs < bp 1) : (a * b).natAbs < bp 2 := by
 rw [Int.natAbs_mul, show bp 2 = bp 1 * bp 1 from by rw [<- bp_add]]
 exact Nat.mul_lt_mul_of_lt_of_lt ha hb'
theorem undBs : Tryz.prog.underlying 61 = some (.slice 59) := by kernel_rfl
theorem infoBs : (Tryz.prog.info? 59).map (fun i => (i.zero, i.size, i.bytes)) = some (some (.agg #[.bool false, .slice none 0 0]), 2, 32) := by kernel_rfl
def BigAt (w : World) (get : Nat -> Option Value) (i : Nat) (z : Int) : Prop :=
 ∃ b a n c, get (i * 2) = some (.bool b) /\ get (i * 2 + 1) = some (.slice a n c) /\ Big w (.agg #[.bool b, .slice a n c]) z
theorem BigAt.up {w w' : World} (hu : Up w w') {get : Nat -> Option Value} {i : Nat} {z : Int} (h : BigAt w get i z) : BigAt w' get i z := by
 obtain ⟨b, a, n, c, h1, h2, h3⟩ := h
 exact ⟨b, a, n, c, h1, h2, h3.up hu⟩
def OwnB (w : World) (base : Nat) (v : Value) (l : List Int) : Prop :=
 ∃ xs : List Value, w.ownsRow base 59 2 v l.length xs /\ ∀ i, i < l.length -> BigAt w (fun k => xs[k]?) i (zth l i)
theorem OwnB.up {w w' : World} {base : Nat} {v : Value} {l : List Int} (hu : Up w w') (h : OwnB w base v l) : OwnB w' base v l := by
 obtain ⟨xs, h1, h2⟩ := h
 exact ⟨xs, World.ownsRow.up h1 hu, fun i hi => (h2 i hi).up hu⟩
theorem OwnB.nil (w : World) (base : Nat) : OwnB w base (.slice none 0 0) [] := ⟨[], World.ownsRow_nil _ _ _ _, fun _ hi => absurd hi (Nat.not_lt_zero _)⟩
def Bv (w : World) (v : Value) (l : List Int) : Prop :=
 (l = [] /\ ∃ p c, v = .slice p 0 c) \/ ∃ g cap C, v = .slice (some ⟨g, 0, none⟩) l.length cap /\ l.length <= cap /\ Blk w g 59 C /\ ∀ i, i < l.length -> BigAt w (fun k => C[k]?) i (zth l i)
theorem Bv.slice {w : World} {v : Value} {l : List Int} (h : Bv w v l) : ∃ p c, v = .slice p l.length c := by
 rcases h with ⟨rfl, p, c, rfl⟩ | ⟨g, cap, C, rfl, _⟩
 ·exact ⟨p, c, rfl⟩
 ·exact ⟨_, cap, rfl⟩
theorem Bv.open {w : World} {v : Value} {l : List Int} (h : Bv w v l) (h0 : 0 < l.length) :
   ∃ g cap C, v = .slice (some ⟨g, 0, none⟩) l.length cap /\ l.length <= cap /\ Blk w g 59 C /\ ∀ i, i < l.length -> BigAt w (fun k => C[k]?) i (zth l i) := by
 rcases h with ⟨rfl, _⟩ | h
 ·exact absurd h0 (by decide)
 ·exact h
theorem OwnB.open {w : World} {base : Nat} {v : Value} {l : List Int} (h : OwnB w base v l) (h0 : 0 < l.length) :
   ∃ g cap C, v = .slice (some ⟨g, 0, none⟩) l.length cap /\ base <= g /\ Blk w g 59 C /\ l.length <= cap /\ cap <= maxLen /\ C.size = cap * 2 /\ ∀ i, i < l.length -> BigAt w (fun k => C[k]?) i (zth l i) := by
 obtain ⟨xs, ⟨_, h1 | ⟨g, cap, cur, hv, hb, hB, hc, hm, hs, ht⟩⟩, h2⟩ := h
 ·omega
 ·refine ⟨g, cap, cur, hv, hb, hB, hc, hm, hs, fun i hi => ?_⟩
  obtain ⟨b, a, n, c, h3, h4, h5⟩ := h2 i hi
  rw [<- ht] at h3 h4
  refine ⟨b, a, n, c, ?_, ?_, h5⟩
  ·dsimp only at h3 ⊢; rw [<- h3, List.getElem?_take_of_lt (by omega), Array.getElem?_toList]
  ·dsimp only at h4 ⊢; rw [<- h4, List.getElem?_take_of_lt (by omega), Array.getElem?_toList]
theorem OwnB.bv {w : World} {base : Nat} {v : Value} {l : List Int} (h : OwnB w base v l) : Bv w v l := by
 rcases Nat.eq_zero_or_pos l.length with h0 | h0
 ·obtain ⟨xs, ⟨_, ⟨rfl, _⟩ | ⟨g, cap, cur, rfl, _⟩⟩, _⟩ := h
  ·exact .inl ⟨List.length_eq_zero_iff.1 h0, _, _, rfl⟩
  ·exact .inl ⟨List.length_eq_zero_iff.1 h0, _, _, by rw [h0]⟩
 ·obtain ⟨g, cap, C, hv, _, hB, hc, _, _, hE⟩ := h.open h0
  exact .inr ⟨g, cap, C, hv, hc, hB, hE⟩
theorem OwnB.slice {w : World} {base : Nat} {v : Value} {l : List Int} (h : OwnB w base v l) : ∃ p c, v = .slice p l.length c := h.bv.slice
section
variable {a : Act} {w : World} {g off : Nat} {vs : List Value}
theorem bigAt_range {C : Array Value} (hB : Blk w g 59 C) {i : Nat} {b : Bool} {p : Option Addr} {n c : Nat} (h1 : C[i * 2]? = some (.bool b)) (h2 : C[i * 2 + 1]? = some (.slice p n c)) : w.rangeAt g (i * 2) [.bool b, .slice p n c] := by
 intro j v hv
 rcases j with _ | _ | j
 ·simp at hv; subst hv; exact hB.cell _ h1
 ·simp at hv; subst hv; exact hB.cell _ h2
 ·simp at hv
theorem run_ldB2 {o : Oper} {ev : Operand -> Value} {x : Operand} {b : Bool} {p : Option Addr} {n c : Nat} (ho : o.op = .load 59 x) (hx : ev x = .pointer (some ⟨g, off, none⟩)) (hC : w.rangeAt g off [.bool b, .slice p n c]) :
   (execOp ev o).run Tryz.prog w = .ok (.value (.agg #[.bool b, .slice p n c])) w := by
 obtain ⟨fs, hfs⟩ := undB
 unfold execOp
 simp only [ho, hx, Instr.loadAt, Instr.sureAddr, Sem.run_bind, Sem.run_pure, Result.andThen_ok, run_loadVar_mid w g off _ _ _ hC hfs rfl (by rw [infoB]; rfl)]
theorem ldB2_P {ops : Array Oper} {rest : List Oper} {Q : Exit -> Act -> World -> Prop} {d : Option Tmp} {s : Tmp} {ty : TypeId} {pos : String} {af : Array Edge} {gd : Option (Nat × Bool)} {b : Bool} {p : Option Addr} {n c : Nat} (hw : Region.wanted { dst := d, op := .load 59 (.tmp s), type := ty, pos := pos, after := af, guard := gd } (yielded ops a.tmps) = true) (hx : a.eval (.tmp s) = .pointer (some ⟨g, off, none⟩))
   (hC : w.rangeAt g off [.bool b, .slice p n c]) (h : wpList Tryz.prog ops Q rest (a.put d (.agg #[.bool b, .slice p n c])) w) : wpList Tryz.prog ops Q ({ dst := d, op := .load 59 (.tmp s), type := ty, pos := pos, after := af, guard := gd } :: rest) a w :=
 wpList_run hw (run_ldB2 rfl hx hC) h
def splB (C : Array Value) (off : Nat) (vs : List Value) : Array Value := (C.toList.take off ++ vs ++ C.toList.drop (off + 2)).toArray
theorem run_svB {C : Array Value} {b : Bool} {p : Option Addr} {n c : Nat} (hB : Blk w g 59 C) (hl : off + 2 <= C.size) :
   (storeVar 59 ⟨g, off, none⟩ (.agg #[.bool b, .slice p n c])).run Tryz.prog w = .ok () (w.setRow g (splB C off [.bool b, .slice p n c])) := by
 have hs := run_storeCells_at Tryz.prog g off 59 [.bool b, .slice p n c] 0 C w hB (by simp; omega) (by simp [Value.oneCell'])
 rw [Nat.add_zero] at hs
 unfold splB
 have hi := infoB
 cases hq : Tryz.prog.info? 59 with
 | none => rw [hq] at hi; simp at hi
 | some i =>
   rw [hq] at hi
   have hz : i.size = 2 := by simpa using hi
   have hv : (Value.agg #[.bool b, .slice p n c]).cells.toList = [.bool b, .slice p n c] := rfl
   have hn : (Value.agg #[.bool b, .slice p n c]).cells.size = 2 := rfl
   have hl2 : ([Value.bool b, .slice p n c]).length = 2 := rfl
   rw [hl2] at hs
   simp [storeVar, sizeOf, typeInfo, hq, hz, hv, hn, hs]
theorem wp_stB2 {C : Array Value} {b : Bool} {p : Option Addr} {n c : Nat} {K : Act -> World -> Prop} {Q : Exit -> Act -> World -> Prop} {o : Oper} (x y : Operand) (ho : o.op = .store 59 x y) (hx : a.eval x = .pointer (some ⟨g, off, none⟩)) (hy : a.eval y = .agg #[.bool b, .slice p n c]) (hB : Blk w g 59 C) (hl : off + 2 <= C.size)
   (h : K (a.put o.dst undef) (w.setRow g (splB C off [.bool b, .slice p n c]))) : o.wp Tryz.prog a w K Q := by
 unfold Oper.wp execOp
 simp only [ho, hx, hy, Instr.storeAt, Instr.sureAddr, Sem.run_bind, Sem.run_pure, Result.andThen_ok, run_svB hB hl]
 exact h
end
theorem splB_size {C : Array Value} {off : Nat} {x y : Value} (hl : off + 2 <= C.size) : (splB C off [x, y]).size = C.size := by
 unfold splB; simp; omega
theorem splB_get {C : Array Value} {off k : Nat} {x y : Value} (hl : off + 2 <= C.size) : (splB C off [x, y])[k]? = if k = off then some x else if k = off + 1 then some y else C[k]? := by
 unfold splB
 have h1 : (C.toList.take off).length = off := by rw [List.length_take, Array.length_toList]; omega
 rw [List.getElem?_toArray]
 rcases Nat.lt_trichotomy k off with h | h | h
 ·rw [if_neg (by omega), if_neg (by omega), List.append_assoc, List.getElem?_append_left (by omega), List.getElem?_take_of_lt h, Array.getElem?_toList]
 ·subst h
  rw [if_pos rfl, List.append_assoc, List.getElem?_append_right (by omega), h1, Nat.sub_self]
  rfl
 ·rw [if_neg (by omega), List.append_assoc, List.getElem?_append_right (by omega), h1]
  by_cases h2 : k = off + 1
  ·rw [if_pos h2, h2, show off + 1 - off = 1 by omega]; rfl
  ·obtain ⟨d, rfl⟩ : ∃ d, k = off + 2 + d := ⟨k - (off + 2), by omega⟩
   rw [if_neg h2, show off + 2 + d - off = d + 2 by omega]
   show (C.toList.drop (off + 2))[d]? = _
   rw [List.getElem?_drop, Array.getElem?_toList]
theorem Big.grown {w w' : World} {row : Option Nat} {v : Value} {z : Int} (h : Big w v z) (hg : w.grownBy w' row) (hr : ∀ k, row = some k -> ∃ C, Blk w k 59 C) : Big w' v z := by
 obtain ⟨a, c, h1, a2, c2, h2, h3, h4⟩ := h
 refine ⟨a, c, h1, a2, c2, h2, h3, fun h0 => ?_⟩
 obtain ⟨b, E, h5, h6, h7⟩ := h4 h0
 refine ⟨b, E, h5, ?_, h7⟩
 unfold Blk
 rw [hg.block b h6.lt ?_]
 ·exact h6
 ·intro e
  obtain ⟨C, hC⟩ := hr b e.symm
  unfold Blk at hC h6
  rw [hC] at h6
  simp at h6
theorem appB {ops : Array Oper} {rest : List Oper} {Q : Exit -> Act -> World -> Prop} {a : Act} {w : World} {d : Option Tmp} {s u : Operand} {ty : TypeId} {pos : String} {af : Array Edge} {base g c : Nat} {v : Value} {l : List Int} {b : Bool} {p : Option Addr} {m n : Nat} {z : Int}
   (hs : a.eval s = v) (hu : a.eval u = .slice (some ⟨g, 0, none⟩) 1 c) (hown : OwnB w base v l) (hV : w.rangeAt g 0 [.bool b, .slice p m n]) (hb : Big w (.agg #[.bool b, .slice p m n]) z) (hbase : base <= w.heap.size) (hl : l.length < 1000000)
   (h : ∀ v' w', OwnB w' base v' (l ++ [z]) -> w.grownBy w' v.ownBlock -> Below base w w' -> wpList Tryz.prog ops Q rest (a.put d v') w') :
   wpList Tryz.prog ops Q ({ dst := d, op := .call { callee := .builtin .append, args := #[s, u], argTypes := #[61, 61] }, type := ty, pos := pos, after := af, guard := none } :: rest) a w := by
 obtain ⟨i0, hi0, he⟩ := Option.map_eq_some_iff.1 infoBs
 simp only [Prod.mk.injEq] at he
 obtain ⟨xs, hx, hE⟩ := hown
 have hlt := World.ownsRow.lt hx
 have hrow : ∀ k, v.ownBlock = some k -> ∃ C, Blk w k 59 C := by
  intro k hk
  obtain ⟨_, ⟨rfl, _⟩ | ⟨g', cap, cur, rfl, _, hB, _⟩⟩ := hx
  ·simp [Value.ownBlock] at hk
  ·simp [Value.ownBlock] at hk; subst hk; exact ⟨cur, hB⟩
 have hxl : xs.length = l.length * 2 := hx.1
 refine wpList_append_own w rfl s u 61 rfl base 59 i0 _ 2 32 undBs hi0 he.1 he.2.1 he.2.2 rfl (by decide) v l.length xs hs hx ⟨g, 0, none⟩ 1 c [.bool b, .slice p m n] hu rfl (fun j y hy => by rw [Addr.add_mid]; exact hV j y hy) (by simp [Value.oneCell']) (by unfold maxLen; omega) (by omega) hbase ?_
 intro v' w' h1 h2 _
 refine h v' w' ⟨xs ++ [.bool b, .slice p m n], by rw [List.length_append]; exact h1, fun i hi => ?_⟩ h2 ⟨h2.os, h2.tape, h2.output, h2.size, fun k hk => h2.block k (by omega) fun e => ?_⟩
 ·rw [List.length_append, List.length_singleton] at hi
  by_cases e : i < l.length
  ·obtain ⟨b', a', n', c', h3, h4, h5⟩ := hE i e
   have ez : zth (l ++ [z]) i = zth l i := by unfold zth; rw [List.getD_eq_getElem?_getD, List.getD_eq_getElem?_getD, List.getElem?_append_left e]
   rw [ez]
   exact ⟨b', a', n', c', by dsimp only at h3 ⊢; rw [List.getElem?_append_left (by omega)]; exact h3, by dsimp only at h4 ⊢; rw [List.getElem?_append_left (by omega)]; exact h4, h5.grown h2 hrow⟩
  ·obtain rfl : i = l.length := by omega
   have ez : zth (l ++ [z]) l.length = z := by unfold zth; rw [List.getD_eq_getElem?_getD, List.getElem?_append_right (Nat.le_refl _), Nat.sub_self]; rfl
   rw [ez]
   exact ⟨b, p, m, n, by dsimp only; rw [List.getElem?_append_right (by omega), hxl, Nat.sub_self]; rfl, by dsimp only; rw [List.getElem?_append_right (by omega), hxl, show l.length * 2 + 1 - l.length * 2 = 1 by omega]; rfl, hb.grown h2 hrow⟩
 ·have := hlt k e.symm
  omega
theorem undRbs : Tryz.prog.underlying 55 = some (.slice 61) := by kernel_rfl
theorem infoRbs : (Tryz.prog.info? 61).map (fun i => (i.zero, i.size, i.bytes)) = some (some (.slice none 0 0), 1, 24) := by kernel_rfl
def RowB (w : World) (g : Nat) (l : List Int) : Prop := ∃ C, Blk w g 59 C /\ l.length * 2 <= C.size /\ ∀ j, j < l.length -> BigAt w (fun k => C[k]?) j (zth l j)
theorem RowB.up {w w' : World} (hu : Up w w') {g : Nat} {l : List Int} (h : RowB w g l) : RowB w' g l := by
 obtain ⟨C, h1, h2, h3⟩ := h
 exact ⟨C, h1.up hu, h2, fun j hj => (h3 j hj).up hu⟩
theorem RowB.lt {w : World} {g : Nat} {l : List Int} (h : RowB w g l) : g < w.heap.size := by
 obtain ⟨C, h1, _⟩ := h
 exact h1.lt
theorem Big.grownR {w w' : World} {row : Option Nat} {v : Value} {z : Int} (h : Big w v z) (hg : w.grownBy w' row) (hr : ∀ k, row = some k -> ∃ C, Blk w k 61 C) : Big w' v z := by
 obtain ⟨a, c, h1, a2, c2, h2, h3, h4⟩ := h
 refine ⟨a, c, h1, a2, c2, h2, h3, fun h0 => ?_⟩
 obtain ⟨b, E, h5, h6, h7⟩ := h4 h0
 refine ⟨b, E, h5, ?_, h7⟩
 unfold Blk
 rw [hg.block b h6.lt ?_]
 ·exact h6
 ·intro e
  obtain ⟨C, hC⟩ := hr b e.symm
  unfold Blk at hC h6
  rw [hC] at h6
  simp at h6
theorem OwnB.rowB {w : World} {base g n c : Nat} {l : List Int} (h : OwnB w base (.slice (some ⟨g, 0, none⟩) n c) l) (h0 : 0 < l.length) : RowB w g l /\ base <= g := by
 obtain ⟨g', cap, C, hv, hb, hB, hc, _, hs, hE⟩ := h.open h0
 injection hv with e1
 injection e1 with e1
 injection e1 with e1
 subst e1
 exact ⟨⟨C, hB, by omega, hE⟩, hb⟩
def OwnM (w : World) (base : Nat) (v : Value) (n m : Nat) (G : Nat -> Nat) (V : Nat -> Nat -> Int) : Prop :=
 ∃ xs : List Value, w.ownsRow base 61 1 v n xs /\ (∀ i, i < n -> ∃ c, xs[i]? = some (.slice (some ⟨G i, 0, none⟩) m c)) /\ (∀ i, i < n -> base <= G i /\ RowB w (G i) (mk m (V i))) /\ ∀ i j, i < n -> j < n -> G i = G j -> i = j
theorem OwnM.up {w w' : World} (hu : Up w w') {base n m : Nat} {v : Value} {G : Nat -> Nat} {V : Nat -> Nat -> Int} (h : OwnM w base v n m G V) : OwnM w' base v n m G V := by
 obtain ⟨xs, h1, h2, h3, h4⟩ := h
 exact ⟨xs, World.ownsRow.up h1 hu, h2, fun i hi => ⟨(h3 i hi).1, (h3 i hi).2.up hu⟩, h4⟩
theorem OwnM.congr {w : World} {base n m : Nat} {v : Value} {G : Nat -> Nat} {V K : Nat -> Nat -> Int} (h : OwnM w base v n m G V) (hVK : ∀ i j, i < n -> j < m -> V i j = K i j) : OwnM w base v n m G K := by
 obtain ⟨xs, h1, h2, h3, h4⟩ := h
 refine ⟨xs, h1, h2, fun i hi => ?_, h4⟩
 have e : mk m (V i) = mk m (K i) := zth_ext (by rw [mk_len, mk_len]) fun j hj => by rw [mk_len] at hj; rw [mk_at hj, mk_at hj, hVK i j hi hj]
 rw [<- e]
 exact h3 i hi
theorem OwnM.open {w : World} {base n m : Nat} {v : Value} {G : Nat -> Nat} {V : Nat -> Nat -> Int} (h : OwnM w base v n m G V) (h0 : 0 < n) :
   ∃ g cap C, v = .slice (some ⟨g, 0, none⟩) n cap /\ base <= g /\ n <= cap /\ Blk w g 61 C /\ ∀ i, i < n -> ∃ c, C[i]? = some (.slice (some ⟨G i, 0, none⟩) m c) := by
 obtain ⟨xs, ⟨_, h1 | ⟨g, cap, cur, hv, hb, hB, hc, _, _, ht⟩⟩, h2, _⟩ := h
 ·omega
 ·refine ⟨g, cap, cur, hv, hb, hc, hB, fun i hi => ?_⟩
  obtain ⟨c, h3⟩ := h2 i hi
  rw [<- ht, List.getElem?_take_of_lt (by omega), Array.getElem?_toList] at h3
  exact ⟨c, h3⟩
theorem OwnM.slice {w : World} {base n m : Nat} {v : Value} {G : Nat -> Nat} {V : Nat -> Nat -> Int} (h : OwnM w base v n m G V) : ∃ p c, v = .slice p n c := by
 obtain ⟨xs, ⟨_, ⟨rfl, h1⟩ | ⟨g, cap, cur, hv, _⟩⟩, _⟩ := h
 ·exact ⟨none, 0, by rw [h1]⟩
 ·exact ⟨_, cap, hv⟩
theorem OwnM.entry {w : World} {base n m : Nat} {v : Value} {G : Nat -> Nat} {V : Nat -> Nat -> Int} (h : OwnM w base v n m G V) {i j : Nat} (hi : i < n) (hj : j < m) :
   ∃ C b a k c, Blk w (G i) 59 C /\ m * 2 <= C.size /\ C[j * 2]? = some (.bool b) /\ C[j * 2 + 1]? = some (.slice a k c) /\ Big w (.agg #[.bool b, .slice a k c]) (V i j) := by
 obtain ⟨xs, _, _, h3, _⟩ := h
 obtain ⟨_, C, h4, h5, h6⟩ := h3 i hi
 rw [mk_len] at h5 h6
 obtain ⟨b, a, k, c, h7, h8, h9⟩ := h6 j hj
 rw [mk_at hj] at h9
 exact ⟨C, b, a, k, c, h4, h5, h7, h8, h9⟩
def upd2 (V : Nat -> Nat -> Int) (a b : Nat) (z : Int) : Nat -> Nat -> Int := fun i j => if i = a /\ j = b then z else V i j
theorem RowB.other {w : World} {g p : Nat} {C : Array Value} {l : List Int} (h : RowB w g l) (hC : Blk w p 59 C) (D : Array Value) (hne : g ≠ p) : RowB (w.setRow p D) g l := by
 obtain ⟨E, h1, h2, h3⟩ := h
 refine ⟨E, h1.row_other D hne, h2, fun j hj => ?_⟩
 obtain ⟨b, a, n, c, h4, h5, h6⟩ := h3 j hj
 exact ⟨b, a, n, c, h4, h5, h6.setRow hC⟩
theorem OwnM.set {w : World} {base n m : Nat} {v : Value} {G : Nat -> Nat} {V : Nat -> Nat -> Int} (h : OwnM w base v n m G V) {i j : Nat} (hi : i < n) (hj : j < m) {C : Array Value} (hC : Blk w (G i) 59 C)
   {b : Bool} {p : Option Addr} {k c : Nat} {z : Int} (hz : Big w (.agg #[.bool b, .slice p k c]) z) :
   OwnM (w.setRow (G i) (splB C (j * 2) [.bool b, .slice p k c])) base v n m G (upd2 V i j z) /\ j * 2 + 2 <= C.size := by
 obtain ⟨xs, ⟨h0, h1⟩, h2, h3, h4⟩ := h
 obtain ⟨_, C', h5, h6, h7⟩ := h3 i hi
 have hCC : C' = C := by
  unfold Blk at hC h5
  rw [hC] at h5
  simp at h5
  exact h5.symm
 subst hCC
 rw [mk_len] at h6 h7
 have hl : j * 2 + 2 <= C'.size := by omega
 refine ⟨⟨xs, ⟨h0, ?_⟩, h2, fun i' hi' => ⟨(h3 i' hi').1, ?_⟩, h4⟩, hl⟩
 ·rcases h1 with h1 | ⟨g, cap, cur, hv, hb, hB, hr⟩
  ·exact .inl h1
  ·refine .inr ⟨g, cap, cur, hv, hb, Blk.row_other (w := w) hB _ fun e => ?_, hr⟩
   subst e
   unfold Blk at hC
   rw [hC] at hB
   simp at hB
 ·by_cases e : i' = i
  ·subst e
   refine ⟨splB C' (j * 2) [.bool b, .slice p k c], hC.setRow _, by rw [mk_len, splB_size hl]; exact h6, fun q hq => ?_⟩
   rw [mk_len] at hq
   rw [mk_at hq]
   by_cases eq : q = j
   ·subst eq
    refine ⟨b, p, k, c, by dsimp only; rw [splB_get hl, if_pos rfl], by dsimp only; rw [splB_get hl, if_neg (by omega), if_pos rfl], ?_⟩
    unfold upd2
    rw [if_pos ⟨rfl, rfl⟩]
    exact hz.setRow hC
   ·obtain ⟨b', a', n', c', e1, e2, e3⟩ := h7 q hq
    rw [mk_at hq] at e3
    refine ⟨b', a', n', c', by dsimp only; rw [splB_get hl, if_neg (by omega), if_neg (by omega)]; exact e1, by dsimp only; rw [splB_get hl, if_neg (by omega), if_neg (by omega)]; exact e2, ?_⟩
    unfold upd2
    rw [if_neg (fun x => eq x.2)]
    exact e3.setRow hC
  ·have e2 : mk m (upd2 V i j z i') = mk m (V i') := zth_ext (by rw [mk_len, mk_len]) fun q hq => by
    rw [mk_len] at hq
    rw [mk_at hq, mk_at hq]
    unfold upd2
    rw [if_neg (fun x => e x.1)]
   rw [e2]
   exact (h3 i' hi').2.other hC _ (fun x => e (h4 i' i hi' hi x))
theorem OwnB.mono {w : World} {b b' : Nat} {v : Value} {l : List Int} (h : OwnB w b v l) (hb : b' <= b) : OwnB w b' v l := by
 obtain ⟨xs, ⟨h0, h1⟩, h2⟩ := h
 refine ⟨xs, ⟨h0, ?_⟩, h2⟩
 rcases h1 with h1 | ⟨g, cap, cur, hv, hg, hr⟩
 ·exact .inl h1
 ·exact .inr ⟨g, cap, cur, hv, by omega, hr⟩
theorem BigAt.grownR {w w' : World} {row : Option Nat} {get : Nat -> Option Value} {i : Nat} {z : Int} (h : BigAt w get i z) (hg : w.grownBy w' row) (hr : ∀ k, row = some k -> ∃ C, Blk w k 61 C) : BigAt w' get i z := by
 obtain ⟨b, a, n, c, h1, h2, h3⟩ := h
 exact ⟨b, a, n, c, h1, h2, h3.grownR hg hr⟩
theorem OwnB.grownR {w w' : World} {row : Option Nat} {b : Nat} {v : Value} {l : List Int} (h : OwnB w b v l) (hg : w.grownBy w' row) (hr : ∀ k, row = some k -> ∃ C, Blk w k 61 C) : OwnB w' b v l := by
 obtain ⟨xs, ⟨h0, h1⟩, h2⟩ := h
 refine ⟨xs, ⟨h0, ?_⟩, fun i hi => (h2 i hi).grownR hg hr⟩
 rcases h1 with h1 | ⟨g, cap, cur, hv, hb, hB, hq⟩
 ·exact .inl h1
 ·refine .inr ⟨g, cap, cur, hv, hb, ?_, hq⟩
  show Blk w' g _ _
  unfold Blk
  rw [hg.block g (show Blk w g _ _ from hB).lt ?_]
  ·exact hB
  ·intro e
   obtain ⟨C, hC⟩ := hr g e.symm
   unfold Blk at hC
   rw [hC] at hB
   simp at hB
def OwnG (w : World) (base : Nat) (v : Value) (n : Nat) (mf G : Nat -> Nat) (V : Nat -> Nat -> Int) : Prop :=
 ∃ (xs : List Value) (Cp : Nat -> Nat), w.ownsRow base 61 1 v n xs /\ (∀ i, i < n -> xs[i]? = some (.slice (some ⟨G i, 0, none⟩) (mf i) (Cp i))) /\ (∀ i, i < n -> base <= G i /\ 0 < mf i /\ OwnB w base (.slice (some ⟨G i, 0, none⟩) (mf i) (Cp i)) (mk (mf i) (V i))) /\ ∀ i j, i < n -> j < n -> G i = G j -> i = j
theorem OwnG.up {w w' : World} (hu : Up w w') {base n : Nat} {v : Value} {mf G : Nat -> Nat} {V : Nat -> Nat -> Int} (h : OwnG w base v n mf G V) : OwnG w' base v n mf G V := by
 obtain ⟨xs, Cp, h1, h2, h3, h4⟩ := h
 exact ⟨xs, Cp, World.ownsRow.up h1 hu, h2, fun i hi => ⟨(h3 i hi).1, (h3 i hi).2.1, (h3 i hi).2.2.up hu⟩, h4⟩
theorem OwnG.nil (w : World) (base : Nat) (mf G : Nat -> Nat) (V : Nat -> Nat -> Int) : OwnG w base (.slice none 0 0) 0 mf G V :=
 ⟨[], fun _ => 0, World.ownsRow_nil _ _ _ _, fun _ hi => absurd hi (Nat.not_lt_zero _), fun _ hi => absurd hi (Nat.not_lt_zero _), fun _ _ hi => absurd hi (Nat.not_lt_zero _)⟩
theorem OwnG.slice {w : World} {base n : Nat} {v : Value} {mf G : Nat -> Nat} {V : Nat -> Nat -> Int} (h : OwnG w base v n mf G V) : ∃ p c, v = .slice p n c := by
 obtain ⟨xs, Cp, ⟨_, ⟨rfl, h1⟩ | ⟨g, cap, cur, hv, _⟩⟩, _⟩ := h
 ·exact ⟨none, 0, by rw [h1]⟩
 ·exact ⟨_, cap, hv⟩
theorem OwnG.rowB {w : World} {base n : Nat} {v : Value} {mf G : Nat -> Nat} {V : Nat -> Nat -> Int} (h : OwnG w base v n mf G V) {i : Nat} (hi : i < n) : RowB w (G i) (mk (mf i) (V i)) := by
 obtain ⟨xs, Cp, _, _, h3, _⟩ := h
 obtain ⟨_, h0, h4⟩ := h3 i hi
 exact (h4.rowB (by rw [mk_len]; exact h0)).1
theorem OwnG.m {w : World} {base n m : Nat} {v : Value} {mf G : Nat -> Nat} {V : Nat -> Nat -> Int} (h : OwnG w base v n mf G V) (hm : ∀ i, i < n -> mf i = m) : OwnM w base v n m G V := by
 have hR := fun i hi => h.rowB (i := i) hi
 obtain ⟨xs, Cp, h1, h2, h3, h4⟩ := h
 exact ⟨xs, h1, fun i hi => ⟨Cp i, by rw [<- hm i hi]; exact h2 i hi⟩, fun i hi => ⟨(h3 i hi).1, by rw [<- hm i hi]; exact hR i hi⟩, h4⟩
theorem appG {ops : Array Oper} {rest : List Oper} {Q : Exit -> Act -> World -> Prop} {a : Act} {w : World} {d : Option Tmp} {s u : Operand} {ty : TypeId} {pos : String} {af : Array Edge} {base b g c r n m cr : Nat} {v : Value} {G : Nat -> Nat} {V : Nat -> Nat -> Int}
   (hs : a.eval s = v) (hu : a.eval u = .slice (some ⟨g, 0, none⟩) 1 c) (hown : OwnG w base v n (fun _ => m) G V) (hV : w.cell? ⟨g, 0, none⟩ = some (.slice (some ⟨r, 0, none⟩) m cr)) (hx : OwnB w b (.slice (some ⟨r, 0, none⟩) m cr) (mk m (V n))) (h0 : 0 < m) (hG : ∀ i, i < n -> G i < b) (hbr : base <= b) (hbase : base <= w.heap.size) (hl : n < 1000000)
   (h : ∀ v' w', OwnG w' base v' (n + 1) (fun _ => m) (fun i => if i = n then r else G i) V -> Below base w w' -> (∀ i, i < n + 1 -> (if i = n then r else G i) < w'.heap.size) -> wpList Tryz.prog ops Q rest (a.put d v') w') :
   wpList Tryz.prog ops Q ({ dst := d, op := .call { callee := .builtin .append, args := #[s, u], argTypes := #[55, 55] }, type := ty, pos := pos, after := af, guard := none } :: rest) a w := by
 obtain ⟨i0, hi0, he⟩ := Option.map_eq_some_iff.1 infoRbs
 simp only [Prod.mk.injEq] at he
 have hRB := fun i hi => hown.rowB (i := i) hi
 obtain ⟨xs, Cp, hxs, hE, hRw, hInj⟩ := hown
 have hlt := World.ownsRow.lt hxs
 have hrow : ∀ k, v.ownBlock = some k -> ∃ C, Blk w k 61 C := by
  intro k hk
  obtain ⟨_, ⟨rfl, _⟩ | ⟨g', cap, cur, rfl, _, hB, _⟩⟩ := hxs
  ·simp [Value.ownBlock] at hk
  ·simp [Value.ownBlock] at hk; subst hk; exact ⟨cur, hB⟩
 have hxl : xs.length = n := by have := hxs.1; omega
 obtain ⟨hrb, hr⟩ := hx.rowB (by rw [mk_len]; exact h0)
 refine wpList_append_own w rfl s u 55 rfl base 61 i0 _ 1 24 undRbs hi0 he.1 he.2.1 he.2.2 rfl (by decide) v n xs hs hxs ⟨g, 0, none⟩ 1 c [.slice (some ⟨r, 0, none⟩) m cr] hu rfl (fun j y hy => by
  rcases j with _ | j
  ·simp at hy; subst hy; rw [Addr.add_mid]; exact hV
  ·simp at hy) (by simp [Value.oneCell']) (by unfold maxLen; omega) (by omega) hbase ?_
 intro v' w' h1 h2 _
 refine h v' w' ⟨xs ++ [.slice (some ⟨r, 0, none⟩) m cr], fun i => if i = n then cr else Cp i, h1, fun i hi => ?_, fun i hi => ?_, fun i j hi hj e => ?_⟩ ⟨h2.os, h2.tape, h2.output, h2.size, fun k hk => h2.block k (by omega) fun e => ?_⟩ (fun i hi => ?_)
 ·by_cases e : i < n
  ·dsimp only
   rw [List.getElem?_append_left (by omega), if_neg (by omega), if_neg (by omega)]
   exact hE i e
  ·obtain rfl : i = n := by omega
   dsimp only
   rw [List.getElem?_append_right (by omega), hxl, Nat.sub_self, if_pos rfl, if_pos rfl]
   rfl
 ·by_cases e : i < n
  ·dsimp only
   rw [if_neg (by omega), if_neg (by omega)]
   exact ⟨(hRw i e).1, h0, (hRw i e).2.2.grownR h2 hrow⟩
  ·obtain rfl : i = n := by omega
   dsimp only
   rw [if_pos rfl, if_pos rfl]
   exact ⟨by omega, h0, (hx.mono hbr).grownR h2 hrow⟩
 ·by_cases e1 : i = n <;> by_cases e2 : j = n
  ·omega
  ·dsimp only at e
   rw [if_pos e1, if_neg e2] at e
   have := hG j (by omega); omega
  ·dsimp only at e
   rw [if_neg e1, if_pos e2] at e
   have := hG i (by omega); omega
  ·dsimp only at e
   rw [if_neg e1, if_neg e2] at e
   exact hInj i j (by omega) (by omega) e
 ·have := hlt k e.symm
  omega
 ·have hsz := h2.size
  by_cases e : i = n
  ·rw [if_pos e]; have := hrb.lt; omega
  ·rw [if_neg e]; have := (hRB i (by omega)).lt; omega
theorem fill_oneB (b : Bool) (p : Option Addr) (m n : Nat) (z : Array Value) : Instr.fill (fun i => some (i * 2, 2)) ((Array.range (1 * 2)).map (z[· % z.size]!)) [(0, .agg #[.bool b, .slice p m n])] = some #[.bool b, .slice p m n] := by
 kernel_rfl
theorem bsB_P {ops : Array Oper} {rest : List Oper} {Q : Exit -> Act -> World -> Prop} {a : Act} {w : World} {d : Option Tmp} {s : Tmp} {ty : TypeId} {pos : String} {af : Array Edge} {b : Bool} {p : Option Addr} {m n : Nat} (hs : a.eval (.tmp s) = .agg #[.bool b, .slice p m n])
   (h : wpList Tryz.prog ops Q rest (a.put d (.slice (some ⟨w.heap.size, 0, none⟩) 1 1)) (w.alloc (.cells #[.bool b, .slice p m n] 59))) :
   wpList Tryz.prog ops Q ({ dst := d, op := .buildSlice 61 1 #[(0, .tmp s)], type := ty, pos := pos, after := af, guard := none } :: rest) a w := by
 obtain ⟨i0, hi0, he⟩ := Option.map_eq_some_iff.1 infoBs
 simp only [Prod.mk.injEq] at he
 refine wpList_buildSlice rfl 61 59 1 _ rfl #[.bool b, .slice p m n] i0 _ undBs hi0 he.1 (by rw [he.2.1]; decide) (by rw [he.2.1]; decide) ?_ h
 simp only [List.map_toArray, List.map_cons, List.map_nil, hs, he.2.1]
 exact fill_oneB _ _ _ _ _
theorem bigAt_range0 {w : World} {g : Nat} {b : Bool} {p : Option Addr} {m n : Nat} (hB : Blk w g 59 #[.bool b, .slice p m n]) : w.rangeAt g 0 [.bool b, .slice p m n] := by
 have h := bigAt_range hB (i := 0) (b := b) (p := p) (n := m) (c := n) rfl rfl
 rwa [Nat.zero_mul] at h
theorem run_ldBR {o : Oper} {ev : Operand -> Value} {x : Operand} {w : World} {g : Nat} {C : Array Value} (ho : o.op = .load 59 x) (hx : ev x = .pointer (some ⟨g, 0, none⟩)) (hC : Blk w g 59 C) (h2 : C.size = 2) : (execOp ev o).run Tryz.prog w = .ok (.value (.agg C)) w := by
 obtain ⟨fs, hu⟩ := undB
 unfold execOp
 simp only [ho, hx, Instr.loadAt, Instr.sureAddr, Sem.run_bind, Sem.run_pure, Result.andThen_ok, run_loadVar_row w g _ 59 C (0, 0) _ hC hu rfl (by rw [infoB, h2])]
theorem mk_succ (m : Nat) (f : Nat -> Int) : mk (m + 1) f = mk m f ++ [f m] := by unfold mk; rw [List.range_succ, List.map_append]; rfl
def RE (n : Nat) (l : List Int) (s k : Int) (i j : Nat) : Int := s * ent n l i j + if i = j then k else 0
def RowsPost (w : World) (n : Nat) (V : Nat -> Nat -> Int) (r : Ending) (w' : World) : Prop := ∃ z b G, r = .returned z /\ Up w w' /\ w.heap.size <= b /\ b <= w'.heap.size /\ OwnM w' b z n n G V
def RowsG (w : World) (n : Nat) (V : Nat -> Nat -> Int) (r : Ending) (w' : World) : Prop := ∃ z b G, r = .returned z /\ Up w w' /\ w.heap.size <= b /\ b <= w'.heap.size /\ OwnG w' b z n (fun _ => n) G V
set_option maxHeartbeats 16000000 in
theorem rowsG_any {v : Value} {n : Nat} {l : List Int} {w : World} (hm : Sm w v n l) (hR : rt n l = true) {s k : Int} (hs : I64 s) (hk : I64 k) :
   Calls Tryz.prog 28 #[v, .int .i64 s, .int .i64 k] w (RowsG w n (RE n l s k)) := by
 have n8 : n <= 8 := by have := (rt_spec hR).2.1; omega
 have HAT := hid (fun (i j : Nat) (hi : i < n) (hj : j < n) w' (hu : Up w w') => rat_ent (i : Int) (j : Int) (hm.up hu) hR (show rng (n : Int) i j = true from decide_eq_true (by omega)))
 have HEB := hid (fun (i j : Nat) (hi : i < n) (hj : j < n) => show I64 (ent n l i j) from by have := ent_fit hR hi hj; unfold I64; omega)
 have HOs := hid (fun w => of_big s hs.1 hs.2 w)
 have HOk := hid (fun w => of_big k hk.1 hk.2 w)
 have hsb := i64_bp hs
 have hkb := i64_bp hk
 have HSB := hid hsb
 have HKB := hid hkb
 obtain ⟨s0, rfl, ⟨p, cap, rfl, -, -⟩, -, -, -⟩ := hm
 obtain ⟨W0, hW0⟩ : ∃ W0, w.alloc (.cells #[.int .i64 (n : Int), .slice p l.length cap] 24) = W0 := ⟨_, rfl⟩
 have hB : Blk W0 w.heap.size 24 #[.int .i64 (n : Int), .slice p l.length cap] := by rw [<- hW0]; exact Blk.new _ _ rfl
 have hU : Up w W0 := by rw [<- hW0]; exact Up.alloc _ _
 have HRE := hid (fun i j => show RE n l s k i j = s * ent n l i j + (if i = j then k else 0) from rfl)
 have hc0 := hB.cell 0 rfl
 obtain ⟨V, hV⟩ : ∃ V, RE n l s k = V := ⟨_, rfl⟩
 rw [hV] at HRE ⊢
 clear hV hs hk hsb hkb hR
 unfold RowsG
 go_enter Tryz.func28, Tryz.ntmps28
 go_wp2_with fail
 obtain ⟨wS, hwS⟩ : ∃ y, W0 = y := ⟨_, rfl⟩
 rw [hwS] at hB hU hc0 ⊢
 clear hW0 hwS hc0
 go_loopg [7, 8] n (fun g tr ti wr => ∃ (i : Nat) (G : Nat -> Nat), i <= n /\ n - i <= g /\ ti = .int .i64 (i : Nat) /\ OwnG wr wS.heap.size tr i (fun _ => n) G V /\ (∀ q, q < i -> G q < wr.heap.size) /\ Up wS wr)
 case atStart => exact ⟨0, fun _ => 0, Nat.zero_le _, by omega, rfl, OwnG.nil _ _ _ _ _, fun _ hq => absurd hq (Nat.not_lt_zero _), Up.refl _⟩
 case round =>
  obtain ⟨i, G, hi, hig, rfl, hO, hGs, hu⟩ := hrel
  have HGs := hid hGs
  have hc0 := (hB.up hu).cell 0 rfl
  clear hGs
  by_cases hlt : i < n
  ·have e1 : IntKind.i64.wrap ((i : Int) + 1) = (i : Int) + 1 := IntWalk.i64_in _ (by omega)
   go_wp2_with fail
   obtain ⟨wO, hwO⟩ : ∃ y, wr = y := ⟨_, rfl⟩
   rw [hwO] at hO hu hc0 HGs ⊢
   clear hwO
   go_loopg [9, 10] n (fun g te tj wr => ∃ j : Nat, j <= n /\ n - j <= g /\ tj = .int .i64 (j : Nat) /\ OwnB wr wO.heap.size te (mk j (V i)) /\ Up wO wr)
   case atStart => exact ⟨0, Nat.zero_le _, by omega, rfl, OwnB.nil _ _, Up.refl _⟩
   case round =>
    clear hc0
    obtain ⟨j, hj, hjg, rfl, hE, huj⟩ := hrel
    have hBj := hB.up (hu.trans huj)
    have hc0 := hBj.cell 0 rfl
    by_cases hjlt : j < n
    ·have e2 : IntKind.i64.wrap ((j : Int) + 1) = (j : Int) + 1 := IntWalk.i64_in _ (by omega)
     have HA := hid (fun w' (hu' : Up wr w') => HAT.out i j hlt hjlt w' (hU.trans ((hu.trans huj).trans hu')))
     have hei := HEB.out i j hlt hjlt
     have hpb : (s * ent n l i j).natAbs < bp 2 := mul_bp1 HSB.out (i64_bp hei)
     have HO1 := hid (fun w => of_big (ent n l i j) hei.1 hei.2 w)
     have HM := hid (fun (va vb : Value) (w : World) (ha : Big w va s) (hb : Big w vb (ent n l i j)) => mul_big ha hb (nl_bp (k := 1) (by omega) HSB.out) (nl_bp (k := 1) (by omega) (i64_bp hei)))
     have HAd := hid (fun (va vb : Value) (w : World) (ha : Big w va (s * ent n l i j)) (hb : Big w vb k) => add_big ha hb (nl_bp (k := 2) (by omega) hpb) (nl_bp (k := 1) (by omega) HKB.out))
     have HV := hid (HRE.out i j)
     have HT9 := hid (mk_succ j (V i))
     have HTk : Hid ((mk j (V i)).length < 1000000) := hid (by rw [mk_len]; omega)
     have hszj := huj.size
     clear hei hpb
     obtain ⟨eij, heij⟩ : ∃ y, ent n l i j = y := ⟨_, rfl⟩
     rw [heij] at HA HO1 HM HAd HV
     clear heij
     obtain ⟨pr, hpr⟩ : ∃ y, s * eij = y := ⟨_, rfl⟩
     rw [hpr] at HM HAd HV
     clear hpr
     go_wp2_with fail
     refine wp_region_sp (n := 48) 9 [24, 25, 26, 27, 28, 29, 30, 31, 11] [SP.is (.int .i64 s), SP.of (fun v w1 => Big w1 v s) (fun _ _ _ h hu => h.up hu), SP.is (.agg #[.int .i64 (n : Nat), .slice p l.length cap]), SP.is (.int .i64 (i : Nat)), SP.is (.int .i64 (j : Nat)), SP.is (.int .i64 eij), SP.of (fun v w1 => Big w1 v eij) (fun _ _ _ h hu => h.up hu), SP.of (fun v w1 => Big w1 v pr) (fun _ _ _ h hu => h.up hu), SP.of (fun v w1 => ∃ b, v = .pointer (some ⟨b, 0, none⟩) /\ wr.heap.size <= b /\ Blk w1 b 59 #[.bool false, .slice none 0 0]) (fun _ _ _ h hu => h.imp fun _ k => ⟨k.1, k.2.1, k.2.2.up hu⟩), SP.any] (fun wq => Blk wq w.heap.size 24 #[.int .i64 (n : Int), .slice p l.length cap] /\ Up wr wq /\ Below w.heap.size w wq) (by kernel_rfl) (by rfl) (by kernel_rfl) (by kernel_rfl) (fun _ _ h hu => ⟨(h.1).up hu, (h.2.1).trans hu, below_up (h.2.2) hu⟩) ⟨(by first | assumption | exact gBlk), (by first | exact Up.refl _ | assumption), gUp⟩ (fun ev w9 hS9 i o hne hi hev => ?_) (fun gR wE hq hSE huE => ?_)
     ·have ⟨hS1, hS2, hSB⟩ := hS9
      have hcC := hev.const
      have hcF := hev.func
      have hcG := hev.global
      rcases i with _ | _ | _ | _ | _ | _ | _ | _ | _ | _ | i
      ·obtain rfl := oI hi
       have e1 := hev.other 1 (by kernel_rfl)
       simp [Act.eval] at e1
       exact lV (.int .i64 s)
      ·obtain rfl := oI hi
       have e24 : ev (.tmp 24) = (.int .i64 s) := hev.dep 0 24 (by kernel_rfl)
       refine leavesR_call ?_ (HOs.out _)
       go_simp
      ·obtain rfl := oI hi
       have e3 := hev.other 3 (by kernel_rfl)
       simp [Act.eval] at e3
       exact leavesR_value (run_ldME rfl (by go_simp) hS1 rfl) rfl
      ·obtain rfl := oI hi
       have e8 := hev.other 8 (by kernel_rfl)
       simp [Act.eval] at e8
       exact lV (.int .i64 (i : Nat))
      ·obtain rfl := oI hi
       have e10 := hev.other 10 (by kernel_rfl)
       simp [Act.eval] at e10
       exact lV (.int .i64 (j : Nat))
      ·obtain rfl := oI hi
       have e26 : ev (.tmp 26) = (.agg #[.int .i64 (n : Nat), .slice p l.length cap]) := hev.dep 2 26 (by kernel_rfl)
       have e27 : ev (.tmp 27) = (.int .i64 (i : Nat)) := hev.dep 3 27 (by kernel_rfl)
       have e28 : ev (.tmp 28) = (.int .i64 (j : Nat)) := hev.dep 4 28 (by kernel_rfl)
       refine leavesR_call ?_ ((HA.out _ hS2).mono fun _ _ h => ⟨h.2, _, h.1, rfl⟩)
       go_simp
      ·obtain rfl := oI hi
       have e29 : ev (.tmp 29) = (.int .i64 eij) := hev.dep 5 29 (by kernel_rfl)
       refine leavesR_call ?_ (HO1.out _)
       go_simp
      ·obtain rfl := oI hi
       have e25 : (fun v w1 => Big w1 v s) (ev (.tmp 25)) w9 := hev.dep 1 25 (by kernel_rfl)
       dsimp only at e25
       obtain ⟨v25, hv25⟩ : ∃ v, ev (.tmp 25) = v := ⟨_, rfl⟩
       rw [hv25] at e25
       have e30 : (fun v w1 => Big w1 v eij) (ev (.tmp 30)) w9 := hev.dep 6 30 (by kernel_rfl)
       dsimp only at e30
       obtain ⟨v30, hv30⟩ : ∃ v, ev (.tmp 30) = v := ⟨_, rfl⟩
       rw [hv30] at e30
       refine leavesR_call ?_ (HM.out _ _ _ e25 e30)
       go_simp
      ·obtain rfl := oI hi
       exact leavesR_up (u := .pointer (some ⟨w9.heap.size, 0, none⟩)) (w' := w9.alloc (.cells #[.bool false, .slice none 0 0] 59)) (by go_simp) (Up.alloc _ _) ⟨_, rfl, hS2.size, Blk.new _ _ rfl⟩
      ·exact absurd rfl hne
      ·exact absurd (show i + 10 < 10 from (Array.getElem?_eq_some_iff.1 hi).1) (by omega)
     have ⟨hS1, hS2, hSB⟩ := hSE
     have q0 : gR 24 = (.int .i64 s) := hq 0 24 (by decide) (by kernel_rfl)
     have q1 : (fun v w1 => Big w1 v s) (gR 25) wE := hq 1 25 (by decide) (by kernel_rfl)
     dsimp only at q1
     obtain ⟨v25, hv25⟩ : ∃ v, gR 25 = v := ⟨_, rfl⟩
     rw [hv25] at q1
     have q2 : gR 26 = (.agg #[.int .i64 (n : Nat), .slice p l.length cap]) := hq 2 26 (by decide) (by kernel_rfl)
     have q3 : gR 27 = (.int .i64 (i : Nat)) := hq 3 27 (by decide) (by kernel_rfl)
     have q4 : gR 28 = (.int .i64 (j : Nat)) := hq 4 28 (by decide) (by kernel_rfl)
     have q5 : gR 29 = (.int .i64 eij) := hq 5 29 (by decide) (by kernel_rfl)
     have q6 : (fun v w1 => Big w1 v eij) (gR 30) wE := hq 6 30 (by decide) (by kernel_rfl)
     dsimp only at q6
     obtain ⟨v30, hv30⟩ : ∃ v, gR 30 = v := ⟨_, rfl⟩
     rw [hv30] at q6
     have q7 : (fun v w1 => Big w1 v pr) (gR 31) wE := hq 7 31 (by decide) (by kernel_rfl)
     dsimp only at q7
     obtain ⟨v31, hv31⟩ : ∃ v, gR 31 = v := ⟨_, rfl⟩
     rw [hv31] at q7
     have q8 : (fun v w1 => ∃ b, v = .pointer (some ⟨b, 0, none⟩) /\ wr.heap.size <= b /\ Blk w1 b 59 #[.bool false, .slice none 0 0]) (gR 11) wE := hq 8 11 (by decide) (by kernel_rfl)
     dsimp only at q8
     obtain ⟨v11, hv11⟩ : ∃ v, gR 11 = v := ⟨_, rfl⟩
     rw [hv11] at q8
     refine ⟨fun h => absurd h (by decide), fun o ho => ?_⟩
     obtain rfl := oI ho
     simp only [putL, List.map_cons, List.map_nil, q0, hv25, q2, q3, q4, q5, hv30, hv31, hv11, Act.put, pu1, pu2, pu3]
     clear hq hSE q0 q2 q3 q4 q5
     obtain ⟨b7, rfl, hb7, hBz⟩ := q8
     obtain ⟨bb, ba, bn, bc, rfl⟩ := q7.shape
     refine wp_stB rfl rfl rfl rfl hBz rfl rfl (one2 _ _ _ _) ?_
     have gB := hBz.setRow #[.bool bb, .slice ba bn bc]
     have gG := big_set (D := #[.bool bb, .slice ba bn bc]) hBz q7
     have gU : Up wr _ := below_setRow hS2 hb7 #[.bool bb, .slice ba bn bc]
     obtain ⟨wK, hwK⟩ : ∃ wK, wE.setRow b7 #[.bool bb, .slice ba bn bc] = wK := ⟨_, rfl⟩
     rw [hwK] at gB gG gU ⊢
     clear hwK hBz q1 q6 q7 hS1 hS2 hSB huE hc0 hBj
     have gs := gU.size
     by_cases hij : i = j
     ·have HV2 : Hid (V i j = pr + k) := hid (by rw [HV.out, if_pos hij])
      subst hij
      go_wp2_with fail
      refine wp_region_sp (n := 48) 4 [35, 36, 37, 38] [SP.is (.agg #[.bool bb, .slice ba bn bc]), SP.is (.int .i64 k), SP.of (fun v w1 => Big w1 v k) (fun _ _ _ h hu => h.up hu), SP.of (fun v w1 => Big w1 v (pr + k)) (fun _ _ _ h hu => h.up hu), SP.any] (fun wq => Blk wq b7 59 #[.bool bb, .slice ba bn bc] /\ Up wK wq /\ Below w.heap.size w wq) (by kernel_rfl) (by rfl) (by kernel_rfl) (by kernel_rfl) (fun _ _ h hu => ⟨(h.1).up hu, (h.2.1).trans hu, below_up (h.2.2) hu⟩) ⟨(by first | assumption | exact gBlk), (by first | exact Up.refl _ | assumption), gUp⟩ (fun ev w9 hS9 i o hne hi hev => ?_) (fun gR wE hq hSE huE => ?_)
      ·have ⟨hS1, hS2, hSB⟩ := hS9
       have hcC := hev.const
       have hcF := hev.func
       have hcG := hev.global
       rcases i with _ | _ | _ | _ | _ | i
       ·obtain rfl := oI hi
        have e11 := hev.other 11 (by kernel_rfl)
        simp [Act.eval] at e11
        exact leavesR_value (run_ldBR rfl (by go_simp) hS1 rfl) rfl
       ·obtain rfl := oI hi
        have e2 := hev.other 2 (by kernel_rfl)
        simp [Act.eval] at e2
        exact lV (.int .i64 k)
       ·obtain rfl := oI hi
        have e36 : ev (.tmp 36) = (.int .i64 k) := hev.dep 1 36 (by kernel_rfl)
        refine leavesR_call ?_ (HOk.out _)
        go_simp
       ·obtain rfl := oI hi
        have e35 : ev (.tmp 35) = (.agg #[.bool bb, .slice ba bn bc]) := hev.dep 0 35 (by kernel_rfl)
        have e37 : (fun v w1 => Big w1 v k) (ev (.tmp 37)) w9 := hev.dep 2 37 (by kernel_rfl)
        dsimp only at e37
        obtain ⟨v37, hv37⟩ : ∃ v, ev (.tmp 37) = v := ⟨_, rfl⟩
        rw [hv37] at e37
        refine leavesR_call ?_ (HAd.out _ _ _ (e35 ▸ gG.up hS2) e37)
        go_simp
       ·exact absurd rfl hne
       ·exact absurd (show i + 5 < 5 from (Array.getElem?_eq_some_iff.1 hi).1) (by omega)
      have ⟨hS1, hS2, hSB⟩ := hSE
      have q0 : gR 35 = (.agg #[.bool bb, .slice ba bn bc]) := hq 0 35 (by decide) (by kernel_rfl)
      have q1 : gR 36 = (.int .i64 k) := hq 1 36 (by decide) (by kernel_rfl)
      have q2 : (fun v w1 => Big w1 v k) (gR 37) wE := hq 2 37 (by decide) (by kernel_rfl)
      dsimp only at q2
      obtain ⟨v37, hv37⟩ : ∃ v, gR 37 = v := ⟨_, rfl⟩
      rw [hv37] at q2
      have q3 : (fun v w1 => Big w1 v (pr + k)) (gR 38) wE := hq 3 38 (by decide) (by kernel_rfl)
      dsimp only at q3
      obtain ⟨v38, hv38⟩ : ∃ v, gR 38 = v := ⟨_, rfl⟩
      rw [hv38] at q3
      refine ⟨fun h => absurd h (by decide), fun o ho => ?_⟩
      obtain rfl := oI ho
      simp only [putL, List.map_cons, List.map_nil, q0, q1, hv37, hv38, Act.put, pu1, pu2, pu3]
      clear hq hSE q0 q1
      obtain ⟨cb, ca, cn, cc, rfl⟩ := q3.shape
      refine wp_stB rfl rfl rfl rfl hS1 rfl rfl (one2 _ _ _ _) ?_
      have kB := hS1.setRow #[.bool cb, .slice ca cn cc]
      have kG := big_set (D := #[.bool cb, .slice ca cn cc]) hS1 q3
      have kU : Up wr _ := below_setRow (gU.trans hS2) hb7 #[.bool cb, .slice ca cn cc]
      obtain ⟨wL, hwL⟩ : ∃ wL, wE.setRow b7 #[.bool cb, .slice ca cn cc] = wL := ⟨_, rfl⟩
      rw [hwL] at kB kG kU ⊢
      clear hwL q2 q3 hS1 hS2 hSB huE gB gG
      have ks := kU.size
      go_wp2_with (first
       | ((with_reducible apply ldB_P); exact rfl; exact rfl; exact kB; exact rfl)
       | ((with_reducible apply bsB_P); exact rfl)
       | ((with_reducible apply appB (l := mk i (V i)) (z := pr + k)); exact rfl; exact rfl; exact OwnB.up (kU.trans (Up.alloc _ _)) hE; exact bigAt_range0 (Blk.new _ _ rfl); exact kG.up (Up.alloc _ _); (focus (simp; omega)); exact HTk.out; rintro v6 w6 hO6 - hb6))
      go_roundg (n - (i + 1))
      case measure => omega
      case rel => exact ⟨i + 1, hjlt, Nat.le_refl _, rfl, by rw [HT9.out, HV2.out]; exact hO6, Below.trans (huj.trans (kU.trans (Up.alloc _ _))) hb6⟩
     ·have HV2 : Hid (V i j = pr) := hid (by rw [HV.out, if_neg hij, Int.add_zero])
      go_wp2_with (first
       | ((with_reducible apply ldB_P); exact rfl; exact rfl; exact gB; exact rfl)
       | ((with_reducible apply bsB_P); exact rfl)
       | ((with_reducible apply appB (l := mk j (V i)) (z := pr)); exact rfl; exact rfl; exact OwnB.up (gU.trans (Up.alloc _ _)) hE; exact bigAt_range0 (Blk.new _ _ rfl); exact gG.up (Up.alloc _ _); (focus (simp; omega)); exact HTk.out; rintro v6 w6 hO6 - hb6))
      go_roundg (n - (j + 1))
      case measure => omega
      case rel => exact ⟨j + 1, hjlt, Nat.le_refl _, rfl, by rw [HT9.out, HV2.out]; exact hO6, Below.trans (huj.trans (gU.trans (Up.alloc _ _))) hb6⟩
    ·obtain rfl : j = n := by omega
     obtain ⟨pe, ce, rfl⟩ := hE.slice
     obtain ⟨ge, cge, Ce, hve, hbe, -⟩ := hE.open (by rw [mk_len]; omega)
     rw [mk_len] at hve
     injection hve with x1 x2 x3
     subst x1 x3
     have HEo := hid (show OwnB wr wO.heap.size (.slice (some ⟨ge, 0, none⟩) j ce) (mk j (V i)) from by have h := hE; rw [mk_len] at h; exact h)
     have hszj := huj.size
     have hszu := hu.size
     rw [mk_len]
     go_wp2_with (first
      | ((with_reducible apply appG (b := wO.heap.size) (r := ge) (m := j) (n := i) (V := V) (G := G)); exact rfl; exact rfl; exact OwnG.up (huj.trans (Up.alloc _ _)) hO; exact (Blk.new _ _ rfl).cell 0 rfl; exact OwnB.up (Up.alloc _ _) HEo.out; (focus omega); exact HGs.out; exact hszu; (focus (simp; omega)); (focus omega); rintro v6 w6 hO6 hb6 hG6))
     go_roundg (j - (i + 1))
     case measure => omega
     case rel => exact ⟨i + 1, _, hlt, Nat.le_refl _, rfl, hO6, hG6, Below.trans ((hu.trans huj).trans (Up.alloc _ _)) hb6⟩
  ·obtain rfl : i = n := by omega
   go_wp2_with fail
   go_ret
   exact ⟨_, _, G, rfl, hU.trans hu, hU.size, hu.size, hO⟩
theorem rows_any {v : Value} {n : Nat} {l : List Int} {w : World} (hm : Sm w v n l) (hR : rt n l = true) {s k : Int} (hs : I64 s) (hk : I64 k) :
   Calls Tryz.prog 28 #[v, .int .i64 s, .int .i64 k] w (RowsPost w n (RE n l s k)) :=
 (rowsG_any hm hR hs hk).mono fun _ _ ⟨z, b, G, h1, h2, h3, h4, h5⟩ => ⟨z, b, G, h1, h2, h3, h4, h5.m fun _ _ => rfl⟩
theorem over_step {x Q y r b L X q r' : Nat} (h : x = Q * y + r * (b * 18446744073709551616) + (L + X * b)) (hq : y * q + r' = 18446744073709551616 * r + X) : x = (Q + q * b) * y + r' * b + L := by
 have h2 : (y * q + r') * b = (18446744073709551616 * r + X) * b := by rw [hq]
 have h3 : (Q + q * b) * y + r' * b = Q * y + (y * q + r') * b := by grind
 have h4 : (18446744073709551616 * r + X) * b = r * (b * 18446744073709551616) + X * b := by grind
 rw [h, h3, h2, h4]
 omega
set_option maxHeartbeats 2000000 in
theorem over_am {x y : Nat} {va vb : Value} {w : World} (ha : Am w va x) (hb : Am w vb y) (hx : nl x < 100000) (hy : nl y = 1) :
   Calls Tryz.prog 92 #[va, vb] w fun e w' => Up w w' /\ ∃ a n c b m d, e = .returned (.tuple #[.slice a n c, .slice b m d]) /\ Am w' (.slice a n c) (x / y) /\ Am w' (.slice b m d) (x % y) := by
 obtain ⟨a, ca, rfl, hca1, hca0⟩ := ha.open
 obtain ⟨b, cb, rfl, hcb1, hcb0⟩ := hb.open
 obtain ⟨hy64, hy0, hyl⟩ := nl_one hy
 have HC := hid (fun w' (h : Up w w') => cmp_am (ha.up h) (hb.up h) (by omega) (by omega))
 by_cases hlt : x < y
 ·have hA := hid ha
  have e1 : x / y = 0 := Nat.div_eq_of_lt hlt
  have e2 : x % y = x := Nat.mod_eq_of_lt hlt
  have d1 : decide (ordZ x y < 0) = true := by unfold ordZ; rw [if_pos hlt]; rfl
  rw [e1, e2]
  rw [hy] at HC hcb1 ⊢
  clear ha hb e1 e2 hca0 hcb0 hy
  go_enter Tryz.func92, Tryz.ntmps92
  go_wp2_with (first | (go_at_call 58; (with_reducible refine (HC.out _ gUp).mono ?_); rintro e wC ⟨rfl, huC⟩))
  go_ret2
  exact ⟨gUp, _, _, _, _, _, _, rfl, am_nil _, hA.out.up huC⟩
 ·have d1 : decide (ordZ x y < 0) = false := by
   unfold ordZ
   rw [if_neg hlt]
   split <;> simp
  obtain ⟨bb, rfl, hbb, hcb⟩ := hcb0 0 (by omega)
  rw [hyl] at hcb
  rw [hy] at HC hcb1 ⊢
  have hsx := sum_nl x
  have hn0 : 0 < nl x := nl_pos (by omega)
  have HSX := hid hsx
  have HXA := hid (nl_le (x := x) (k := nl x) (lt_bp_nl x))
  clear ha hb hsx hcb0 HXA hy
  generalize nl x = n at *
  go_enter Tryz.func92, Tryz.ntmps92
  go_wp2_with (first | (go_at_call 58; (with_reducible refine (HC.out _ gUp).mono ?_); rintro e wC ⟨rfl, huC⟩) | ((with_reducible apply mkP (n := n)); exact rfl; (first | rfl | omega); omega))
  have hsC := huC.size
  go_loopw [8, 9] (fun tr ti wr => ∃ (m r : Nat) (S : Nat -> Nat), m <= n /\ ti = .int .i64 ((m : Int) - 1) /\ tr = .int .u64 (r : Nat) /\ r < y /\ (∀ j, j < n -> S j < 18446744073709551616) /\ (∀ j, j < m -> S j = 0) /\ x = sumL S n * y + r * bp m + sumL (limb x) m /\
     Row wr wC.heap.size 76 n S /\ Below w.heap.size w wr)
   (fun _ ti _ => (intOf ti + 1).toNat)
  case atStart => exact ⟨n, 0, fun _ => 0, Nat.le_refl _, rfl, rfl, hy0, fun _ _ => by simp, fun _ _ => rfl, by rw [sumL_zeros, HSX.out]; omega, gRow, gUp⟩
  case round =>
   obtain ⟨m, r, S, hm, rfl, rfl, hr, hSb, hz, hsum, hS, hB⟩ := hrel
   have HSb := hid hSb
   have Hz := hid hz
   have Hsum := hid hsum
   clear hSb hz hsum
   by_cases hlt : 0 < m
   ·obtain ⟨k, rfl⟩ : ∃ k, m = k + 1 := ⟨m - 1, by omega⟩
    have e : (((k + 1 : Nat) : Int) - 1) = (k : Int) := by omega
    rw [e]
    clear e
    obtain ⟨ba, rfl, hba, hca⟩ := hca0 k (by omega)
    have hcx := hca _ hB
    have hcy := hcb _ hB
    have hlx := limb_lt x k
    have hkn : k < n := by omega
    obtain ⟨q, eq⟩ : ∃ q, q = (18446744073709551616 * r + limb x k) / y := ⟨_, rfl⟩
    obtain ⟨r', er⟩ : ∃ r', r' = (18446744073709551616 * r + limb x k) % y := ⟨_, rfl⟩
    have hD := div64_any r (limb x k) y hy64 hlx hr
    rw [<- eq, <- er] at hD
    have HD := hid hD
    have hq : q < 18446744073709551616 := by rw [eq]; exact short_q hr hlx
    have hr' : r' < y := by rw [er]; exact Nat.mod_lt _ hy0
    have HQR : Hid (y * q + r' = 18446744073709551616 * r + limb x k) := hid (by rw [eq, er]; exact Nat.div_add_mod _ _)
    clear eq er hD
    go_wp2
    refine opU (S := (fun wq => Row wq wC.heap.size 76 n S /\ wq.cell? ⟨ba, k, none⟩ = some (.int .u64 (limb x k : Nat)) /\ wq.cell? ⟨bb, 0, none⟩ = some (.int .u64 (y : Nat)) /\ Below w.heap.size w wq)) (req := (fun j => j != 15)) (fun _ _ h hu => ⟨(h.1).up hu, hu.cell (h.2.1), hu.cell (h.2.2.1), below_up (h.2.2.2) hu⟩) ⟨gRow, (by first | assumption | (apply Blk.cell; exact gBlk; exact rfl)), (by first | assumption | (apply Blk.cell; exact gBlk; exact rfl)), gUp⟩ (fun wS hSS hSu => ?_)
    have ⟨hS1, hS2, hS3, hSB⟩ := hSS
    clear hcx hcy hS hB
    refine tkP 0 (some 44) hSu ?_
    refine tkP 1 (some 45) hSu ?_
    refine tkP 2 (some 46) hSu ?_
    refine tkP 3 (some 47) hSu ?_
    refine tkP 4 (some 48) hSu ?_
    refine tkP 5 (some 49) hSu ?_
    refine tkT 6 (some 50) rfl hSu hSS ?_ (hy := fun w' hSw => by ((try dsimp only at hSw); (try obtain ⟨_, _, _, _⟩ := hSw); go_simp; (try exact rfl)))
    refine tkP 7 (some 51) hSu ?_
    refine tkP 8 (some 52) hSu ?_
    refine tkT 9 (some 53) rfl hSu hSS ?_ (hy := fun w' hSw => by ((try dsimp only at hSw); (try obtain ⟨_, _, _, _⟩ := hSw); go_simp; (try exact rfl)))
    refine tkC 10 (some 54) rfl hSu hSS ?_ (hy := fun w' hSw => (HD.out _))
    refine tkP 11 (some 43) hSu ?_
    refine tkP 12 (some 55) hSu ?_
    refine tkP 13 (some 56) hSu ?_
    refine tkP 14 (some 57) hSu ?_
    refine wpAnyU_one (i := 15) rfl (by kernel_rfl) (by rfl) fun w1 hw1 => ?_
    have hcW := (hS1.up hw1).cell k (by omega)
    have hfW := (hS1.up hw1).frozen k
    go_simp
    clear hcW hfW
    refine tkP 16 (some 8) hSu ?_
    refine wpAnyU_done (by kernel_rfl) (fun wF huE => ?_) _
    have gS := ((hS1.up hw1).set k q).up huE
    have gB := below_up ((below_up hSB hw1).setCell (p := ⟨wC.heap.size, k, none⟩) (show w.heap.size <= wC.heap.size by omega) (.int .u64 (q : Nat))) huE
    clear hS1 hS2 hS3 hSB hSS hw1 huE
    go_wp2
    go_roundw
    case rel =>
     refine ⟨k, r', upd S k q, by omega, by go_num, rfl, hr', upd_lt HSb.out hq, fun j hj => by rw [upd_other _ _ _ (by omega)]; exact Hz.out j (by omega), ?_, gS, gB⟩
     have h1 := sumL_upd S q (show k < n by omega)
     rw [Hz.out k (by omega), Nat.zero_mul, Nat.add_zero] at h1
     have h2 := Hsum.out
     rw [bp_succ, sumL_succ (limb x) k] at h2
     rw [h1]
     exact over_step h2 HQR.out
    case measure => simp [intOf] <;> omega
   ·obtain rfl : m = 0 := by omega
    have hfin := Hsum.out
    rw [bp_zero, sumL_zero, Nat.mul_one, Nat.add_zero] at hfin
    have e1 : x / y = sumL S n := by rw [hfin, Nat.mul_comm, Nat.mul_add_div hy0, Nat.div_eq_of_lt hr, Nat.add_zero]
    have e2 : x % y = r := by rw [hfin, Nat.mul_comm, Nat.mul_add_mod, Nat.mod_eq_of_lt hr]
    have ht := fun w' (h : Row w' wC.heap.size 76 n S) => trim_row wC.heap.size n n n S w' h (Nat.le_refl _) (Nat.le_refl _) (by omega)
    have hres := am_row (c := n) hS (Nat.le_refl _) (Nat.le_refl _) HSb.out
    rw [<- e1] at hres
    have hr64 : ∀ i, i < 1 -> (fun _ => r) i < 18446744073709551616 := fun _ _ => by show r < 18446744073709551616; omega
    have eR : sumL (fun _ => r) 1 = r := by rw [sumL_succ, sumL_zero, bp_zero]; omega
    have ht2 := fun w' b (h : Row w' b 76 1 (fun _ => r)) => trim_row b 1 1 1 (fun _ => r) w' h (Nat.le_refl _) (Nat.le_refl _) (by decide)
    have hres2 : ∀ w' b, Row w' b 76 1 (fun _ => r) -> Am w' (.slice (some ⟨b, 0, none⟩) (lenL (fun _ => r) 1) 1) (x % y) := fun w' b h => by
     have := am_row (c := 1) h (Nat.le_refl _) (Nat.le_refl _) hr64
     rw [eR] at this
     rw [e2]
     exact this
    have HT := hid ht
    have HT2 := hid ht2
    have HA := hid hres
    have HA2 := hid hres2
    clear ht hres hfin e1 e2 HSb Hsum Hz ht2 hres2 hr64 eR
    go_wp2_with (first | (go_at_call 50; (first | ((with_reducible refine (HT.out _ gRow).mono ?_); rintro e wT ⟨rfl, huT⟩) | ((with_reducible refine (HT2.out _ _ (row_one (by simp))).mono ?_); rintro e wV ⟨rfl, huV⟩))))
    go_ret2
    exact ⟨below_up (bl_alloc (below_up hB huT).size (below_up hB huT)) huV, _, _, _, _, _, _, rfl, ((HA.out.up huT).up (Up.alloc _ _)).up huV, (HA2.out _ _ (row_one rfl)).up huV⟩
theorem resBB {fn : Func} {p q : Tmp} (h : fn.results = #[.cell p 59, .cell q 59]) {tmps : Array Value} {w : World} {g k : Nat} {C D : Array Value} (hp : tmps.getD p undef = .pointer (some ⟨g, 0, none⟩)) (hq : tmps.getD q undef = .pointer (some ⟨k, 0, none⟩))
   (hC : Blk w g 59 C) (hD : Blk w k 59 D) (h2 : C.size = 2) (h3 : D.size = 2) : (results fn tmps).run Tryz.prog w = .ok (.tuple #[.agg C, .agg D]) w := by
 obtain ⟨fs, hu⟩ := undB
 have hp' : tmps[p]?.getD undef = .pointer (some ⟨g, 0, none⟩) := by simpa using hp
 have hq' : tmps[q]?.getD undef = .pointer (some ⟨k, 0, none⟩) := by simpa using hq
 simp [results, h, hp', hq', asAddr, run_loadVar_row w g _ 59 C (0, 0) _ hC hu rfl (by rw [infoB, h2]), run_loadVar_row w k _ 59 D (0, 0) _ hD hu rfl (by rw [infoB, h3])]
theorem pm_quo (p q : Bool) (X Y : Nat) : (pm p X).tdiv (pm q Y) = pm (p != q) (X / Y) := by
 cases p <;> cases q <;> simp [pm, Int.neg_tdiv, Int.tdiv_neg]
theorem pm_rest (p q : Bool) (X Y : Nat) : (pm p X).tmod (pm q Y) = pm p (X % Y) := by
 cases p <;> cases q <;> simp [pm, Int.neg_tmod, Int.tmod_neg] <;> exact Int.tmod_eq_emod_of_nonneg (by omega)
def Guess3 (a b c v u g : Nat) : Prop := ∀ q, q < 18446744073709551616 -> q * (v * 18446744073709551616 + u) <= (a * 18446744073709551616 + b) * 18446744073709551616 + c -> q <= g
theorem guess3_first {a b c v u : Nat} (hv : 0 < v) (hc : c < 18446744073709551616) : Guess3 a b c v u ((18446744073709551616 * a + b) / v) := by
 intro q _ h
 rw [Nat.le_div_iff_mul_le hv]
 have h1 : q * v * 18446744073709551616 <= q * (v * 18446744073709551616 + u) := by
  rw [Nat.mul_add, Nat.mul_assoc]
  exact Nat.le_add_right _ _
 generalize q * v = k at *
 generalize q * (v * 18446744073709551616 + u) = l at *
 omega
theorem guess3_less {a b c v u t r : Nat} (hG : Guess3 a b c v u t) (h : t * v + r = a * 18446744073709551616 + b) (hlt : r * 18446744073709551616 + c < t * u) : 1 <= t /\ Guess3 a b c v u (t - 1) := by
 have h1 : 1 <= t := by
  rcases Nat.eq_zero_or_pos t with h0 | h0
  ·subst h0; rw [Nat.zero_mul] at hlt; omega
  ·exact h0
 refine ⟨h1, fun q hq hle => ?_⟩
 have h2 := hG q hq hle
 rcases Nat.lt_or_ge q t with h3 | h3
 ·omega
 ·have e : q = t := by omega
  subst e
  rw [<- h] at hle
  have e2 : q * (v * 18446744073709551616 + u) = q * v * 18446744073709551616 + q * u := by rw [Nat.mul_add, Nat.mul_assoc]
  rw [e2, Nat.add_mul] at hle
  omega
set_option maxHeartbeats 2000000 in
theorem guess3_any (a b c v u : Nat) (ha : a < 18446744073709551616) (hb : b < 18446744073709551616) (hc : c < 18446744073709551616) (hv : v < 18446744073709551616) (hu : u < 18446744073709551616) (w : World) :
   Calls Tryz.prog 102 #[.int .u64 (a : Nat), .int .u64 (b : Nat), .int .u64 (c : Nat), .int .u64 (v : Nat), .int .u64 (u : Nat)] w fun e w' => Up w w' /\ ∃ x, e = .returned x /\ ∃ g : Nat, x = .int .u64 (g : Nat) /\ g < 18446744073709551616 /\ Guess3 a b c v u g := by
 by_cases h : v <= a
 ·go_enter Tryz.func102, Tryz.ntmps102
  go_wp2
  go_ret
  exact ⟨gUp, _, rfl, 18446744073709551615, rfl, by omega, fun q hq _ => by omega⟩
 ·have hD := fun w => div64_any a b v hv hb (by omega) w
  have hG := guess3_first (a := a) (b := b) (u := u) (show 0 < v by omega) hc
  have hq := short_q (show a < v by omega) hb
  have hr := Nat.mod_lt (18446744073709551616 * a + b) (show 0 < v by omega)
  have hdm := Nat.div_add_mod (18446744073709551616 * a + b) v
  generalize (18446744073709551616 * a + b) / v = t0 at *
  generalize (18446744073709551616 * a + b) % v = r0 at *
  have HD := hid hD
  have HG := hid hG
  have HE := hid (show t0 * v + r0 = a * 18446744073709551616 + b by rw [Nat.mul_comm t0, hdm]; omega)
  clear hD hG hdm
  go_enter Tryz.func102, Tryz.ntmps102
  go_wp2_with (go_at_call 99; (with_reducible refine (HD.out _).mono ?_); rintro e w' ⟨rfl, hu1⟩)
  go_loopw [11, 12, 13] (fun tt tr ti wr => ∃ (t r i : Nat), tt = .int .u64 (t : Nat) /\ tr = .int .u64 (r : Nat) /\ ti = .int .i64 (i : Nat) /\ i <= 2 /\ t < 18446744073709551616 /\ r < 18446744073709551616 /\ t * v + r = a * 18446744073709551616 + b /\ Guess3 a b c v u t /\ Up w wr)
   (fun _ _ ti _ => 2 - (intOf ti).toNat)
  case atStart => exact ⟨t0, r0, 0, rfl, rfl, rfl, by omega, hq, by omega, HE.out, HG.out, gUp⟩
  case round =>
   obtain ⟨t, r, i, rfl, rfl, rfl, hi, ht, hr1, he, hg, hup⟩ := hrel
   have He := hid he
   have Hg := hid hg
   clear he hg HE HG
   by_cases hi2 : i < 2
   ·obtain ⟨hi1, lo1, hm, eh, el⟩ : ∃ h l : Nat, Hid (∀ w, Calls Tryz.prog 79 #[.int .u64 t, .int .u64 u] w fun e w' => e = .returned (.tuple #[.int .u64 (h : Nat), .int .u64 (l : Nat)]) /\ w' = w) /\
     h = t * u / 18446744073709551616 /\ l = t * u % 18446744073709551616 := ⟨_, _, hid (Tryz.bits_Mul64 t u ht hu), rfl, rfl⟩
    have hml : t * u = hi1 * 18446744073709551616 + lo1 := by omega
    have hlo : lo1 < 18446744073709551616 := by omega
    have hhi : hi1 < 18446744073709551616 := by
     have : t * u <= 18446744073709551615 * 18446744073709551615 := Nat.mul_le_mul (by omega) (by omega)
     omega
    have HML := hid hml
    clear eh el hml
    by_cases hle : hi1 < r \/ (hi1 = r /\ lo1 <= c)
    ·rcases hle with hlt | ⟨hee, hll⟩
     ·go_wp2_with (first | go_skip | (go_at_call 79; (with_reducible refine (hm.out _).mono ?_); rintro e w' ⟨rfl, rfl⟩))
      go_ret
      exact ⟨gUp, _, rfl, t, rfl, ht, Hg.out⟩
     ·subst hee
      go_wp2_with (first | go_skip | (go_at_call 79; (with_reducible refine (hm.out _).mono ?_); rintro e w' ⟨rfl, rfl⟩))
      go_ret
      exact ⟨gUp, _, rfl, t, rfl, ht, Hg.out⟩
    ·by_cases hee : hi1 = r
     ·have hll : ¬ lo1 <= c := fun h2 => hle (.inr ⟨hee, h2⟩)
      subst hee
      clear hle
      obtain ⟨h1t, hG2⟩ := guess3_less Hg.out He.out (by have := HML.out; omega)
      obtain ⟨T, hT⟩ : ∃ T, t - 1 = T := ⟨_, rfl⟩
      rw [hT] at hG2
      have eg : IntKind.u64.wrap ((t : Int) - 1) = (T : Nat) := by rw [IntKind.wrap_u64]; omega
      have HG2 := hid hG2
      have HT := hid (show t = T + 1 by omega)
      obtain ⟨s, x, hadd, hs, hsl, hx1⟩ : ∃ s x : Nat, (∀ w, (callFunc 77 #[.int .u64 (hi1 : Nat), .int .u64 (v : Nat), .int .u64 0]).run Tryz.prog w = .ok (.value (.tuple #[.int .u64 (s : Nat), .int .u64 (x : Nat)])) w) /\ Hid (s + x * 18446744073709551616 = hi1 + v) /\ s < 18446744073709551616 /\ x <= 1 := by
       have h := run_add hi1 v 0 (by omega)
       simp only [show ((0 : Nat) : Int) = 0 from rfl] at h
       exact ⟨_, _, h, hid (by omega), Nat.mod_lt _ (by decide), by omega⟩
      clear hG2 hT h1t
      rcases (show x = 0 \/ x = 1 by omega) with rfl | rfl
      ·go_wp2_with (first | go_skip | (go_at_call 79; (with_reducible refine (hm.out _).mono ?_); rintro e w' ⟨rfl, rfl⟩))
       go_roundw
       case rel =>
        refine ⟨T, s, i + 1, rfl, rfl, by go_num, by omega, by have := HT.out; omega, hsl, ?_, HG2.out, gUp⟩
        have h1 := He.out
        have h2 := hs.out
        rw [HT.out, Nat.add_mul] at h1
        omega
       case measure => simp [intOf] <;> omega
      ·go_wp2_with (first | go_skip | (go_at_call 79; (with_reducible refine (hm.out _).mono ?_); rintro e w' ⟨rfl, rfl⟩))
       go_ret
       exact ⟨gUp, _, rfl, T, rfl, by have := HT.out; omega, HG2.out⟩
     ·have hn : ¬ hi1 < r := fun h2 => hle (.inl h2)
      have hb1 : ((hi1 : Int) == (r : Int)) = false := by simp; omega
      clear hle
      obtain ⟨h1t, hG2⟩ := guess3_less Hg.out He.out (by have := HML.out; omega)
      obtain ⟨T, hT⟩ : ∃ T, t - 1 = T := ⟨_, rfl⟩
      rw [hT] at hG2
      have eg : IntKind.u64.wrap ((t : Int) - 1) = (T : Nat) := by rw [IntKind.wrap_u64]; omega
      have HG2 := hid hG2
      have HT := hid (show t = T + 1 by omega)
      obtain ⟨s, x, hadd, hs, hsl, hx1⟩ : ∃ s x : Nat, (∀ w, (callFunc 77 #[.int .u64 (r : Nat), .int .u64 (v : Nat), .int .u64 0]).run Tryz.prog w = .ok (.value (.tuple #[.int .u64 (s : Nat), .int .u64 (x : Nat)])) w) /\ Hid (s + x * 18446744073709551616 = r + v) /\ s < 18446744073709551616 /\ x <= 1 := by
       have h := run_add r v 0 (by omega)
       simp only [show ((0 : Nat) : Int) = 0 from rfl] at h
       exact ⟨_, _, h, hid (by omega), Nat.mod_lt _ (by decide), by omega⟩
      clear hG2 hT h1t
      rcases (show x = 0 \/ x = 1 by omega) with rfl | rfl
      ·go_wp2_with (first | go_skip | (go_at_call 79; (with_reducible refine (hm.out _).mono ?_); rintro e w' ⟨rfl, rfl⟩))
       go_roundw
       case rel =>
        refine ⟨T, s, i + 1, rfl, rfl, by go_num, by omega, by have := HT.out; omega, hsl, ?_, HG2.out, gUp⟩
        have h1 := He.out
        have h2 := hs.out
        rw [HT.out, Nat.add_mul] at h1
        omega
       case measure => simp [intOf] <;> omega
      ·go_wp2_with (first | go_skip | (go_at_call 79; (with_reducible refine (hm.out _).mono ?_); rintro e w' ⟨rfl, rfl⟩))
       go_ret
       exact ⟨gUp, _, rfl, T, rfl, by have := HT.out; omega, HG2.out⟩
   ·go_wp2
    go_ret
    exact ⟨hup, _, rfl, t, rfl, ht, Hg.out⟩
theorem op_shrI {P : Program} {o : Oper} {a : Act} {x y : Operand} {t u : TypeId} (ho : o.op = .binOp .shr t x y u) {X s : Nat} (hx : a.eval x = .int .u64 (X : Nat)) (hy : a.eval y = .int .i64 (s : Nat)) (hs : s <= 64) (w : World) :
   (execOp a.eval o).run P w = .ok (.value (.int .u64 ((X / 2 ^ s : Nat) : Int))) w := by
 unfold execOp
 simp only [ho, hx, hy, eqGuard, binOp, shift_shr .u64 .i64 (X : Int) (s : Int) (by omega) (show (s : Int) <= 64 by omega)]
 simp
theorem shrIP {P : Program} {t u : TypeId} {ops : Array Oper} {rest : List Oper} {Q : Exit -> Act -> World -> Prop} {a : Act} {w : World} {d : Option Tmp} {p q : Tmp} {ty : TypeId} {pos : String} {af : Array Edge} {gd : Option (Nat × Bool)} {X Y : Nat}
   (hw : Region.wanted { dst := d, op := .binOp .shr t (.tmp p) (.tmp q) u, type := ty, pos := pos, after := af, guard := gd } (yielded ops a.tmps) = true) (hx : a.eval (.tmp p) = .int .u64 (X : Nat)) (hy : a.eval (.tmp q) = .int .i64 (Y : Nat)) (hs : Y <= 64)
   (h : wpList P ops Q rest (a.put d (.int .u64 ((X / 2 ^ Y : Nat) : Int))) w) : wpList P ops Q ({ dst := d, op := .binOp .shr t (.tmp p) (.tmp q) u, type := ty, pos := pos, after := af, guard := gd } :: rest) a w := wpList_run hw (op_shrI rfl hx hy hs w) h
theorem op_shlI {P : Program} {o : Oper} {a : Act} {x y : Operand} {t u : TypeId} (ho : o.op = .binOp .shl t x y u) {X s : Nat} (hx : a.eval x = .int .u64 (X : Nat)) (hy : a.eval y = .int .i64 (s : Nat)) (hs : s <= 64) (w : World) :
   (execOp a.eval o).run P w = .ok (.value (.int .u64 ((X * 2 ^ s % 18446744073709551616 : Nat) : Int))) w := by
 have e : IntKind.u64.wrap ((X : Int) * 2 ^ s) = ((X * 2 ^ s % 18446744073709551616 : Nat) : Int) := by
  rw [IntKind.wrap_u64, show (2 : Int) ^ s = ((2 ^ s : Nat) : Int) by simp, <- Int.natCast_mul]
  generalize X * 2 ^ s = q
  omega
 unfold execOp
 simp only [ho, hx, hy, eqGuard, binOp, shift_shl .u64 .i64 (X : Int) (s : Int) (by omega) (show (s : Int) <= 64 by omega)]
 simpa using e
def rsf (x s i : Nat) : Nat -> Nat := fun j => if j < i then rsh (limb x) s j else 0
theorem rsf_next (x s i : Nat) : upd (rsf x s i) i (rsh (limb x) s i) = rsf x s (i + 1) := by
 funext j
 unfold upd rsf
 by_cases e : j = i
 ·subst e; simp
 ·rw [if_neg e]
  by_cases h : j < i
  ·rw [if_pos h, if_pos (by omega)]
  ·rw [if_neg h, if_neg (by omega)]
theorem rsh_last {x s i : Nat} (h : limb x (i + 1) = 0 \/ s = 0) : rsh (limb x) s i = limb x i / 2 ^ s := by
 unfold rsh
 rcases h with h | h
 ·rw [h]; simp
 ·subst h; simp [Nat.mod_one]
theorem rsh_all {x s : Nat} (hs : s < 64) : sumL (rsh (limb x) s) (nl x) = x / 2 ^ s := by
 rw [rsh_num (by omega) (fun i _ => limb_lt x i), sumL_limb, Nat.mod_eq_of_lt (Nat.lt_of_lt_of_le (lt_bp_nl x) (bp_mono (by omega)))]
 exact Nat.mod_eq_of_lt (Nat.lt_of_le_of_lt (Nat.div_le_self _ _) (lt_bp_nl x))
set_option maxHeartbeats 2000000 in
theorem right_am {x s : Nat} {va : Value} {w : World} (ha : Am w va x) (hx : nl x < 100000) (hs : s < 64) :
   Calls Tryz.prog 103 #[va, .int .i64 (s : Nat)] w fun e w' => Up w w' /\ ∃ v, e = .returned v /\ Am w' v (x / 2 ^ s) := by
 obtain ⟨a, ca, rfl, hca1, hca0⟩ := ha.open
 obtain ⟨n, hn⟩ : ∃ n, nl x = n := ⟨_, rfl⟩
 have hz : ∀ j, n <= j -> limb x j = 0 := fun j hj => limb_nl (by omega)
 have hA := rsh_all (x := x) hs
 rw [hn] at hca1 hca0 hx hA ⊢
 have HZ := hid hz
 have HA := hid hA
 clear ha hn hz hA
 have hs2 : s <= 64 := by omega
 go_enter Tryz.func103, Tryz.ntmps103
 go_wp2_with (first | ((with_reducible apply mkP (n := n)); exact rfl; (first | rfl | omega); omega))
 go_loopw [6] (fun ti wr => ∃ (i : Nat), i <= n /\ ti = .int .i64 (i : Nat) /\ Row wr w.heap.size 76 n (rsf x s i) /\ Below w.heap.size w wr)
  (fun ti _ => n - (intOf ti).toNat)
 case atStart => exact ⟨0, by omega, rfl, by rw [show rsf x s 0 = fun _ => 0 by funext j; simp [rsf]]; exact row_newc _ _ _ rfl, gUp⟩
 case round =>
  obtain ⟨i, hi, rfl, hS, hB⟩ := hrel
  by_cases hlt : i < n
  ·obtain ⟨ba, rfl, hba, hca⟩ := hca0 i hlt
   have hcx := hca wr hB
   have hcs := hS.cell i hlt
   have hfs := hS.frozen i
   have hla := limb_lt x i
   obtain ⟨r, hr⟩ : ∃ r, limb x i / 2 ^ s = r := ⟨_, rfl⟩
   have gS := hS.set i r
   have gB := hB.setCell (p := ⟨w.heap.size, i, none⟩) (Nat.le_refl _) (.int .u64 (r : Nat))
   have HR := hid hr
   by_cases hmore : 0 < s /\ i + 1 < n
   ·obtain ⟨h0, h1⟩ := hmore
    obtain ⟨bb, he, hbb, hcb⟩ := hca0 (i + 1) h1
    obtain rfl : ba = bb := by simpa using he
    have d1 : decide ((0 : Int) < (s : Nat)) = true := decide_eq_true (by omega)
    have e1 : IntKind.i64.wrap ((i : Int) + 1) = (i : Int) + 1 := IntWalk.i64_in _ (by omega)
    have d2 : decide ((i : Int) + 1 < (n : Nat)) = true := decide_eq_true (by omega)
    have d3 : ((i : Int) + 1).toNat = i + 1 := by omega
    have d4 : (0 : Int) <= (i : Int) + 1 := by omega
    have d5 : (i : Int) + 1 < (n : Nat) := by omega
    have e2 : IntKind.i64.wrap (64 - (s : Int)) = ((64 - s : Nat) : Int) := by rw [IntWalk.i64_in _ (by omega)]; omega
    have hor := rsh_or (x := limb x i) (y := limb x (i + 1)) (show s <= 64 by omega) hla
    rw [hr] at hor
    have hc2 := hcb _ gB
    have hc3 := gS.cell i hlt
    rw [upd_same] at hc3
    have hrl : r < 18446744073709551616 := by rw [<- hr]; exact Nat.lt_of_le_of_lt (Nat.div_le_self _ _) hla
    obtain ⟨z, hz⟩ : ∃ z, 64 - s = z := ⟨_, rfl⟩
    rw [hz] at e2 hor
    have hz64 : z <= 64 := by omega
    have Hor := hid hor
    have Hz := hid hz
    clear hS hB hr hor he hz
    go_upto_region 7 with (first | go_skip | ((with_reducible apply shrIP); exact rfl; exact rfl; exact rfl; exact hs2; rw [HR.out]))
    refine opU (S := (fun wq => Row wq w.heap.size 76 n (upd (rsf x s i) i r) /\ wq.cell? ⟨w.heap.size, i, none⟩ = some (.int .u64 (r : Nat)) /\ wq.cell? ⟨ba, i + 1, none⟩ = some (.int .u64 (limb x (i + 1) : Nat)) /\ Below w.heap.size w wq)) (req := (fun j => j != 14)) (fun _ _ h hu => ⟨(h.1).up hu, hu.cell (h.2.1), hu.cell (h.2.2.1), below_up (h.2.2.2) hu⟩) ⟨gRow, (by first | assumption | (apply Blk.cell; exact gBlk; exact rfl)), (by first | assumption | (apply Blk.cell; exact gBlk; exact rfl)), gUp⟩ (fun wS hSS hSu => ?_)
    have ⟨hS1, hS2, hS3, hSB⟩ := hSS
    clear hc2 hc3 gS gB
    refine tkP 0 (some 34) hSu ?_
    refine tkP 1 (some 35) hSu ?_
    refine tkP 2 (some 36) hSu ?_
    refine tkT 3 (some 37) rfl hSu hSS ?_ (hy := fun w' hSw => by ((try dsimp only at hSw); (try obtain ⟨_, _, _, _⟩ := hSw); go_simp; (try exact rfl)))
    refine tkP 4 (some 38) hSu ?_
    refine tkP 5 (some 39) hSu ?_
    refine tkP 6 (some 40) hSu ?_
    refine tkP 7 (some 41) hSu ?_
    refine tkT 8 (some 42) rfl hSu hSS ?_ (hy := fun w' hSw => by ((try dsimp only at hSw); (try obtain ⟨_, _, _, _⟩ := hSw); go_simp; (try exact rfl)))
    refine tkP 9 (some 43) hSu ?_
    refine tkP 10 (some 44) hSu ?_
    refine tkO 11 (some 45) rfl hSu ?_ (hy := fun w' => op_shlI rfl rfl rfl hz64 _)
    refine tkO 12 (some 46) rfl hSu ?_ (hy := fun w' => op_or rfl rfl rfl hrl (Nat.mod_lt _ (by decide)) _)
    refine tkP 13 (some 47) hSu ?_
    obtain ⟨v, hv⟩ : ∃ v, r ||| limb x (i + 1) * 2 ^ z % 18446744073709551616 = v := ⟨_, rfl⟩
    rw [hv]
    have hvr : v = rsh (limb x) s i := by
     rw [<- hv, Hor.out]
     unfold rsh
     rw [Hz.out, HR.out]
    have HV := hid hvr
    clear hv hvr
    refine wpAnyU_one (i := 14) rfl (by kernel_rfl) (by rfl) fun w1 hw1 => ?_
    have hcW := (hS1.up hw1).cell i (by omega)
    have hfW := (hS1.up hw1).frozen i
    go_simp
    clear hcW hfW
    refine wpAnyU_done (by kernel_rfl) (fun wF huE => ?_) _
    have gS : Row wF w.heap.size 76 n (rsf x s (i + 1)) := by
     have h := ((hS1.up hw1).set i v).up huE
     rw [show upd (upd (rsf x s i) i r) i v = rsf x s (i + 1) by rw [<- rsf_next, <- HV.out]; funext j; unfold upd; split <;> rfl] at h
     exact h
    have gB := below_up ((below_up hSB hw1).setCell (p := ⟨w.heap.size, i, none⟩) (Nat.le_refl _) (.int .u64 (v : Nat))) huE
    clear hS1 hS2 hS3 hSB hSS hw1 huE
    go_wp2
    go_roundw
    case rel => exact ⟨i + 1, by omega, by go_num, gS, gB⟩
    case measure => simp [intOf] <;> omega
   ·have hlast : rsh (limb x) s i = r := by
     rw [<- hr]
     refine rsh_last ?_
     by_cases h0 : s = 0
     ·exact .inr h0
     ·exact .inl (HZ.out _ (by omega))
    rw [show upd (rsf x s i) i r = rsf x s (i + 1) by rw [<- rsf_next, hlast]] at gS
    clear hS hB hr hlast
    by_cases h0 : 0 < s
    ·have h1 : ¬ i + 1 < n := fun h => hmore ⟨h0, h⟩
     have d1 : decide ((0 : Int) < (s : Nat)) = true := decide_eq_true (by omega)
     have e1 : IntKind.i64.wrap ((i : Int) + 1) = (i : Int) + 1 := IntWalk.i64_in _ (by omega)
     have d2 : decide ((i : Int) + 1 < (n : Nat)) = false := decide_eq_false (by omega)
     clear hmore
     go_wp2_with (first | go_skip | ((with_reducible apply shrIP); exact rfl; exact rfl; exact rfl; exact hs2; rw [HR.out]))
     go_roundw
     case rel => exact ⟨i + 1, by omega, by go_num, gS, gB⟩
     case measure => simp [intOf] <;> omega
    ·have d1 : decide ((0 : Int) < (s : Nat)) = false := decide_eq_false (by omega)
     clear hmore
     go_wp2_with (first | go_skip | ((with_reducible apply shrIP); exact rfl; exact rfl; exact rfl; exact hs2; rw [HR.out]))
     go_roundw
     case rel => exact ⟨i + 1, by omega, by go_num, gS, gB⟩
     case measure => simp [intOf] <;> omega
  ·obtain rfl : i = n := by omega
   have hlt2 : ∀ j, j < i -> rsf x s i j < 18446744073709551616 := fun j hj => by
    unfold rsf
    rw [if_pos hj]
    exact rsh_lt (by omega) (limb_lt x j)
   have he : sumL (rsf x s i) i = x / 2 ^ s := by
    rw [<- HA.out]
    exact sumL_congr fun j hj => by unfold rsf; rw [if_pos hj]
   have ht := trim_row w.heap.size i i i (rsf x s i) wr hS (Nat.le_refl _) (Nat.le_refl _) (by omega)
   have hres := am_row (c := i) hS (Nat.le_refl _) (Nat.le_refl _) hlt2
   rw [he] at hres
   have HT := hid ht
   have HRS := hid hres
   clear ht hres he hS
   go_wp2_with (first | (go_at_call 50; (with_reducible refine HT.out.mono ?_); rintro e wT ⟨rfl, huT⟩))
   go_ret
   exact ⟨gUp, _, rfl, HRS.out.up huT⟩
set_option maxHeartbeats 4000000 in
theorem left_row {x s : Nat} {va : Value} {w : World} (ha : Am w va x) (hx : nl x < 100000) (h0 : 0 < x) (hs : s < 64) :
   Calls Tryz.prog 101 #[va, .int .i64 (s : Nat)] w fun e w' => Up w w' /\ ∃ v, e = .returned v /\ ∃ S : Nat -> Nat, v = .slice (some ⟨w.heap.size, 0, none⟩) (nl (x * 2 ^ s)) (nl x + 1) /\ (∀ j, j < nl x + 1 -> S j = limb (x * 2 ^ s) j) /\ Row w' w.heap.size 76 (nl x + 1) S := by
 obtain ⟨a, ca, rfl, hca1, hca0⟩ := ha.open
 obtain ⟨n, hn⟩ : ∃ n, nl x = n := ⟨_, rfl⟩
 have hA : sumL (limb x) n = x := by rw [<- hn]; exact sum_nl x
 have hn0 : 0 < n := by rw [<- hn]; exact nl_pos h0
 rw [hn] at hca1 hca0 hx ⊢
 have HA := hid hA
 clear ha hn hA
 have hs2 : s <= 64 := by omega
 have eq0 : (s : Int).tdiv 64 = 0 := by
  rw [show (64 : Int) = ((64 : Nat) : Int) from rfl, <- Int.ofNat_tdiv, Nat.div_eq_of_lt hs]; rfl
 have eq1 : s / 64 = 0 := Nat.div_eq_of_lt hs
 have er0 : (s : Int).tmod 64 = (s : Nat) := by
  rw [show (64 : Int) = ((64 : Nat) : Int) from rfl, <- Int.ofNat_tmod, Nat.mod_eq_of_lt hs]
 have en0 : ((n : Int) == 0) = false := by simp; omega
 have en1 : IntKind.i64.wrap (n : Int) = (n : Nat) := IntWalk.i64_in _ (by omega)
 have en2 : IntKind.i64.wrap ((n : Int) + 1) = (n : Int) + 1 := IntWalk.i64_in _ (by omega)
 go_enter Tryz.func101, Tryz.ntmps101
 go_wp2_with (first | ((with_reducible apply mkP (n := n + 1)); exact rfl; (first | rfl | omega | (simp; done)); omega))
 go_loopw [7] (fun ti wr => ∃ (i : Nat) (S : Nat -> Nat), i <= n /\ ti = .int .i64 (i : Nat) /\ (∀ j, j < n + 1 -> S j < 18446744073709551616) /\ sumL S (i + 1) = sumL (limb x) i * 2 ^ s /\ S i < 2 ^ s /\ (∀ j, i < j -> j < n + 1 -> S j = 0) /\ Row wr w.heap.size 76 (n + 1) S /\ Below w.heap.size w wr)
  (fun ti _ => n - (intOf ti).toNat)
 case atStart => exact ⟨0, fun _ => 0, by omega, rfl, fun _ _ => by simp, by simp [sumL_succ, sumL_zero], Nat.two_pow_pos s, fun _ _ _ => rfl, row_newc _ _ _ rfl, gUp⟩
 case round =>
  obtain ⟨i, S, hi, rfl, hSb, hsum, hSi, hS0, hS, hB⟩ := hrel
  have HSb := hid hSb
  have Hsum := hid hsum
  have HS0 := hid hS0
  clear hSb hsum hS0
  by_cases hlt : i < n
  ·obtain ⟨ba, rfl, hba, hca⟩ := hca0 i hlt
   have ew0 : IntKind.i64.wrap 0 = 0 := by rw [IntKind.wrap_i64]; rfl
   have ei1 : IntKind.i64.wrap (i : Int) = (i : Nat) := IntWalk.i64_in _ (by omega)
   have ei2 : IntKind.i64.wrap ((i : Int) + 1) = (i : Int) + 1 := IntWalk.i64_in _ (by omega)
   have ei3 : ((i : Int) + 1).toNat = i + 1 := by omega
   have ei4 : (0 : Int) <= (i : Int) + 1 := by omega
   have ei5 : (i : Int) < (n : Int) + 1 := by omega
   have ei6 : (i : Int) + 1 < (n : Int) + 1 := by omega
   have hcx := hca wr hB
   have hcs := hS.cell i (by omega)
   have hSi64 := HSb.out i (by omega)
   obtain ⟨r1, e1⟩ : ∃ r1, r1 = S i ||| limb x i * 2 ^ s % 18446744073709551616 := ⟨_, rfl⟩
   obtain ⟨r2, e2⟩ : ∃ r2, r2 = limb x i / 2 ^ (64 - s) := ⟨_, rfl⟩
   have hst := lsh_step hs (limb_lt x i) hSi
   rw [<- e1, <- e2] at hst
   obtain ⟨hst1, hst2, hst3⟩ := hst
   have He1 := hid e1.symm
   have He2 := hid e2.symm
   have Hst1 := hid hst1
   clear e1 e2 hst1
   go_wp2
   refine opU (S := (fun wq => Row wq w.heap.size 76 (n + 1) S /\ wq.cell? ⟨w.heap.size, i, none⟩ = some (.int .u64 (S i : Nat)) /\ wq.cell? ⟨ba, i, none⟩ = some (.int .u64 (limb x i : Nat)) /\ Below w.heap.size w wq)) (req := (fun j => j != 15)) (fun _ _ h hu => ⟨(h.1).up hu, hu.cell (h.2.1), hu.cell (h.2.2.1), below_up (h.2.2.2) hu⟩) ⟨gRow, (by first | assumption | (apply Blk.cell; exact gBlk; exact rfl)), (by first | assumption | (apply Blk.cell; exact gBlk; exact rfl)), gUp⟩ (fun wS hSS hSu => ?_)
   have ⟨hS1, hS2, hS3, hSB⟩ := hSS
   clear hcx hcs hS hB
   refine tkP 0 (some 26) hSu ?_
   refine tkP 1 (some 27) hSu ?_
   refine tkP 2 (some 28) hSu ?_
   refine tkP 3 (some 29) hSu ?_
   refine tkP 4 (some 30) hSu ?_
   refine tkP 5 (some 31) hSu ?_
   refine tkT 6 (some 32) rfl hSu hSS ?_ (hy := fun w' hSw => by ((try dsimp only at hSw); (try obtain ⟨_, _, _, _⟩ := hSw); go_simp; (try exact rfl)))
   refine tkP 7 (some 33) hSu ?_
   refine tkP 8 (some 34) hSu ?_
   refine tkP 9 (some 35) hSu ?_
   refine tkT 10 (some 36) rfl hSu hSS ?_ (hy := fun w' hSw => by ((try dsimp only at hSw); (try obtain ⟨_, _, _, _⟩ := hSw); go_simp; (try exact rfl)))
   refine tkP 11 (some 37) hSu ?_
   refine tkO 12 (some 38) rfl hSu ?_ (hy := fun w' => op_shlI rfl rfl rfl hs2 _)
   refine tkO 13 (some 39) rfl hSu ?_ (hy := fun w' => op_or rfl rfl rfl hSi64 (Nat.mod_lt _ (by decide)) _)
   rw [He1.out]
   refine tkP 14 (some 40) hSu ?_
   refine wpAnyU_one (i := 15) rfl (by kernel_rfl) (by rfl) fun w1 hw1 => ?_
   have hcW := (hS1.up hw1).cell i (by omega)
   have hfW := (hS1.up hw1).frozen i
   go_simp
   clear hcW hfW
   refine wpAnyU_done (by kernel_rfl) (fun wF huE => ?_) _
   have gM := ((hS1.up hw1).set i r1).up huE
   have gB := below_up ((below_up hSB hw1).setCell (p := ⟨w.heap.size, i, none⟩) (Nat.le_refl _) (.int .u64 (r1 : Nat))) huE
   clear hS1 hS2 hS3 hSB hSS hw1 huE
   have hr2 : r2 < 18446744073709551616 := by rw [<- He2.out]; exact Nat.lt_of_le_of_lt (Nat.div_le_self _ _) (limb_lt x i)
   by_cases hs0 : 0 < s
   ·have d1 : decide ((0 : Int) < (s : Nat)) = true := decide_eq_true (by omega)
    have ez : IntKind.i64.wrap (64 - (s : Int)) = ((64 - s : Nat) : Int) := by rw [IntWalk.i64_in _ (by omega)]; omega
    obtain ⟨z, hz⟩ : ∃ z, 64 - s = z := ⟨_, rfl⟩
    rw [hz] at ez
    have he2 := He2.out
    rw [hz] at he2
    have He3 := hid he2
    have hz64 : z <= 64 := by omega
    clear hz he2
    have hcx := hca wF gB
    have hcs := gM.cell (i + 1) (by omega)
    rw [upd_other _ _ _ (by omega), HS0.out (i + 1) (by omega) (by omega)] at hcs
    go_wp2_with fail
    refine opU (S := (fun wq => Row wq w.heap.size 76 (n + 1) (upd S i r1) /\ wq.cell? ⟨w.heap.size, i + 1, none⟩ = some (.int .u64 (0 : Nat)) /\ wq.cell? ⟨ba, i, none⟩ = some (.int .u64 (limb x i : Nat)) /\ Below w.heap.size w wq)) (req := (fun j => j != 17)) (fun _ _ h hu => ⟨(h.1).up hu, hu.cell (h.2.1), hu.cell (h.2.2.1), below_up (h.2.2.2) hu⟩) ⟨gRow, (by first | assumption | (apply Blk.cell; exact gBlk; exact rfl)), (by first | assumption | (apply Blk.cell; exact gBlk; exact rfl)), gUp⟩ (fun wS hSS hSu => ?_)
    have ⟨hS1, hS2, hS3, hSB⟩ := hSS
    clear hcx hcs gM gB
    refine tkP 0 (some 43) hSu ?_
    refine tkP 1 (some 44) hSu ?_
    refine tkP 2 (some 45) hSu ?_
    refine tkP 3 (some 46) hSu ?_
    refine tkP 4 (some 47) hSu ?_
    refine tkP 5 (some 48) hSu ?_
    refine tkP 6 (some 49) hSu ?_
    refine tkT 7 (some 50) rfl hSu hSS ?_ (hy := fun w' hSw => by ((try dsimp only at hSw); (try obtain ⟨_, _, _, _⟩ := hSw); go_simp; (try exact rfl)))
    refine tkP 8 (some 51) hSu ?_
    refine tkP 9 (some 52) hSu ?_
    refine tkP 10 (some 53) hSu ?_
    refine tkT 11 (some 54) rfl hSu hSS ?_ (hy := fun w' hSw => by ((try dsimp only at hSw); (try obtain ⟨_, _, _, _⟩ := hSw); go_simp; (try exact rfl)))
    refine tkP 12 (some 55) hSu ?_
    refine tkP 13 (some 56) hSu ?_
    refine tkO 14 (some 57) rfl hSu ?_ (hy := fun w' => op_shrI rfl rfl rfl hz64 _)
    rw [He3.out]
    refine tkO 15 (some 58) rfl hSu ?_ (hy := fun w' => op_or (X := 0) rfl rfl rfl (by decide) hr2 _)
    rw [Nat.zero_or]
    refine tkP 16 (some 59) hSu ?_
    refine wpAnyU_one (i := 17) rfl (by kernel_rfl) (by rfl) fun w1 hw1 => ?_
    have hcW := (hS1.up hw1).cell (i+1) (by omega)
    have hfW := (hS1.up hw1).frozen (i+1)
    go_simp
    clear hcW hfW
    refine wpAnyU_done (by kernel_rfl) (fun wF huE => ?_) _
    have gM := ((hS1.up hw1).set (i + 1) r2).up huE
    have gB := below_up ((below_up hSB hw1).setCell (p := ⟨w.heap.size, i + 1, none⟩) (Nat.le_refl _) (.int .u64 (r2 : Nat))) huE
    clear hS1 hS2 hS3 hSB hSS hw1 huE
    go_wp2
    go_roundw
    case rel =>
     refine ⟨i + 1, upd (upd S i r1) (i + 1) r2, by omega, by go_num, upd_lt (upd_lt HSb.out hst3) hr2, ?_, by rw [upd_same]; exact hst2, fun j h1 h2 => by rw [upd_other _ _ _ (by omega), upd_other _ _ _ (by omega)]; exact HS0.out j (by omega) h2, gM, gB⟩
     have h1 := Hsum.out
     have h2 := Hst1.out
     rw [sumL_succ] at h1
     rw [sumL_upd_succ, sumL_upd_succ, sumL_succ, Nat.add_mul, <- h1, bp_succ]
     have h3 : (r1 + r2 * 18446744073709551616) * bp i = (S i + limb x i * 2 ^ s) * bp i := by rw [h2]
     clear h1 h2 Hsum Hst1 He1 He2 hst2
     generalize limb x i = xk at *
     generalize S i = gk at *
     generalize bp i = b at *
     generalize 2 ^ s = p at *
     generalize sumL S i = T at *
     grind
    case measure => simp [intOf] <;> omega
   ·have d1 : decide ((0 : Int) < (s : Nat)) = false := decide_eq_false (by omega)
    have hz2 : r2 = 0 := by
     rw [<- He2.out, show 64 - s = 64 by omega]
     exact Nat.div_eq_of_lt (limb_lt x i)
    have gM2 : Row wF w.heap.size 76 (n + 1) (upd (upd S i r1) (i + 1) r2) := by
     refine gM.congr fun j hj => ?_
     by_cases e : j = i + 1
     ·rw [e, upd_same, upd_other _ _ _ (by omega), HS0.out (i + 1) (by omega) (by omega), hz2]
     ·rw [upd_other _ _ _ e]
    clear gM hz2
    have gM := hid gM2
    clear gM2
    go_wp2
    go_roundw
    case rel =>
     refine ⟨i + 1, upd (upd S i r1) (i + 1) r2, by omega, by go_num, upd_lt (upd_lt HSb.out hst3) hr2, ?_, by rw [upd_same]; exact hst2, fun j h1 h2 => by rw [upd_other _ _ _ (by omega), upd_other _ _ _ (by omega)]; exact HS0.out j (by omega) h2, gM.out, gB⟩
     have h1 := Hsum.out
     have h2 := Hst1.out
     rw [sumL_succ] at h1
     rw [sumL_upd_succ, sumL_upd_succ, sumL_succ, Nat.add_mul, <- h1, bp_succ]
     have h3 : (r1 + r2 * 18446744073709551616) * bp i = (S i + limb x i * 2 ^ s) * bp i := by rw [h2]
     clear h1 h2 Hsum Hst1 He1 He2 hst2
     generalize limb x i = xk at *
     generalize S i = gk at *
     generalize bp i = b at *
     generalize 2 ^ s = p at *
     generalize sumL S i = T at *
     grind
    case measure => simp [intOf] <;> omega
  ·obtain rfl : i = n := by omega
   have he := Hsum.out
   rw [HA.out] at he
   have ht := trim_row w.heap.size (i + 1) (i + 1) (i + 1) S wr hS (Nat.le_refl _) (Nat.le_refl _) (by omega)
   have hcl : ∀ j, j < i + 1 -> S j = limb (x * 2 ^ s) j := fun j hj => by rw [<- he]; exact (limb_sumL HSb.out hj).symm
   have hnl : lenL S (i + 1) = nl (x * 2 ^ s) := by rw [<- he, nl_sum HSb.out]
   rw [hnl] at ht
   have HCL := hid hcl
   have HSr := hid hS
   have HT := hid ht
   clear ht hcl hnl he hS
   go_wp2_with (first | (go_at_call 50; (with_reducible refine HT.out.mono ?_); rintro e wT ⟨rfl, huT⟩))
   go_ret
   exact ⟨gUp, _, rfl, S, rfl, HCL.out, HSr.out.up huT⟩
theorem guess3_ge {F V : Nat -> Nat} {m P W g : Nat} (hF : ∀ j, j < m + 3 -> F j < 18446744073709551616) (hW : sumL F (m + 3) = W) (hP : sumL V (m + 2) = P) (h0 : 0 < P) (hlt : W < P * 18446744073709551616) (hg : Guess3 (F (m + 2)) (F (m + 1)) (F m) (V (m + 1)) (V m) g) : W / P <= g := by
 refine hg (W / P) (by rw [Nat.div_lt_iff_lt_mul h0, Nat.mul_comm]; exact hlt) ?_
 have h1 := sumL_lt (f := F) (k := m) fun j hj => hF j (by omega)
 rw [sumL_succ, sumL_succ, sumL_succ, show bp (m + 2) = bp m * 18446744073709551616 * 18446744073709551616 by rw [bp_succ (m + 1), bp_succ m], bp_succ m] at hW
 rw [sumL_succ, sumL_succ, bp_succ] at hP
 have h2 := Nat.div_mul_le_self W P
 generalize W / P = q at *
 have h3 : q * ((V (m + 1) * 18446744073709551616 + V m) * bp m) <= q * P := by
  refine Nat.mul_le_mul_left _ ?_
  have e : (V (m + 1) * 18446744073709551616 + V m) * bp m = V m * bp m + V (m + 1) * (bp m * 18446744073709551616) := by grind
  omega
 have h4 : q * (V (m + 1) * 18446744073709551616 + V m) * bp m < ((F (m + 2) * 18446744073709551616 + F (m + 1)) * 18446744073709551616 + F m + 1) * bp m := by
  have e : ((F (m + 2) * 18446744073709551616 + F (m + 1)) * 18446744073709551616 + F m + 1) * bp m = F m * bp m + F (m + 1) * (bp m * 18446744073709551616) + F (m + 2) * (bp m * 18446744073709551616 * 18446744073709551616) + bp m := by grind
  rw [e, Nat.mul_assoc]
  omega
 have h5 := Nat.lt_of_mul_lt_mul_right h4
 omega
theorem nl_left {x s : Nat} (h0 : 0 < x) (hs : s < 64) : nl x <= nl (x * 2 ^ s) /\ nl (x * 2 ^ s) <= nl x + 1 := by
 have h1 := lt_bp_nl x
 have h2 := bp_le_nl (nl_pos h0)
 have hp := Nat.two_pow_pos s
 have h3 : 2 ^ s <= 18446744073709551616 := Nat.pow_le_pow_right (n := 2) (by decide) (show s <= 64 by omega)
 constructor
 ·rcases Nat.lt_or_ge (nl (x * 2 ^ s)) (nl x) with h | h
  ·have h4 := lt_bp_nl (x * 2 ^ s)
   have h5 := bp_mono (show nl (x * 2 ^ s) <= nl x - 1 by omega)
   have h6 : x * 1 <= x * 2 ^ s := Nat.mul_le_mul_left _ hp
   omega
  ·exact h
 ·refine nl_le ?_
  rw [bp_succ]
  exact Nat.mul_lt_mul_of_lt_of_le h1 h3 (by decide)
theorem mul_step {t v c hi lo l2 c2 : Nat} (ht : t < 18446744073709551616) (hv : v < 18446744073709551616) (hc : c < 18446744073709551616) (eh : hi = t * v / 18446744073709551616) (el : lo = t * v % 18446744073709551616) (e1 : l2 = (lo + c + 0) % 18446744073709551616) (e2 : c2 = (lo + c + 0) / 18446744073709551616) :
   hi + c2 < 18446744073709551616 /\ l2 + (hi + c2) * 18446744073709551616 = t * v + c /\ l2 < 18446744073709551616 /\ hi < 18446744073709551616 /\ lo < 18446744073709551616 /\ c2 <= 1 := by
 have h1 : t * v <= 18446744073709551615 * 18446744073709551615 := Nat.mul_le_mul (by omega) (by omega)
 generalize t * v = p at *
 omega
theorem over_more {S S' T : Nat -> Nat} {N K i m P W W1 g X : Nat} (hm : i + m < N) (hi : i < K) (hS : ∀ j, j < N -> S j < 18446744073709551616) (hX : X = sumL T K * P + sumL S N) (hT : T i = 0) (hR : sumL S N < bp (i + m + 1))
   (hW : sumL (fun j => S (i + j)) (m + 1) = W) (hW1 : sumL (fun j => S' (i + j)) (m + 1) = W1) (ho : ∀ j, j < i \/ i + m < j -> S' j = S j) (he : W1 + g * P = W) (hlt : W1 < P) :
   X = sumL (upd T i g) K * P + sumL S' N /\ sumL S' N < P * bp i := by
 have hz := zero_above hR
 have e1 : sumL S N = sumL S i + W * bp i := by
  rw [sum_cut (show i + (m + 1) <= N by omega) (fun j h1 h2 => hz j (by omega) h2), sumL_split, hW]
 have e2 : sumL S' N = sumL S i + W1 * bp i := by
  rw [sum_cut (show i + (m + 1) <= N by omega) (fun j h1 h2 => by rw [ho j (by omega)]; exact hz j (by omega) h2), sumL_split, hW1, sumL_congr fun j hj => ho j (.inl hj)]
 have e3 := sumL_upd T g hi
 rw [hT, Nat.zero_mul, Nat.add_zero] at e3
 have h1 := sumL_lt (f := S) (k := i) fun j hj => hS j (by omega)
 constructor
 ·rw [e2, e3, hX, e1, <- he]
  grind
 ·rw [e2]
  have h2 : (W1 + 1) * bp i <= P * bp i := Nat.mul_le_mul_right _ hlt
  rw [Nat.add_mul] at h2
  omega
theorem over_start {x y n m s : Nat} (hx : x < bp n) (hm : 0 < m) (hmn : m <= n) (hs : s < 64) (hP : 9223372036854775808 * bp (m - 1) <= y * 2 ^ s) : x * 2 ^ s < bp (n + 1) /\ x * 2 ^ s < y * 2 ^ s * bp (n - m + 1) := by
 have h5 : 2 ^ s <= 9223372036854775808 := Nat.pow_le_pow_right (n := 2) (by decide) (show s <= 63 by omega)
 have h6 : x * 2 ^ s < bp n * 9223372036854775808 := Nat.mul_lt_mul_of_lt_of_le hx h5 (by decide)
 have h8 : 9223372036854775808 * bp (m - 1) * bp (n - m + 1) <= y * 2 ^ s * bp (n - m + 1) := Nat.mul_le_mul_right _ hP
 rw [Nat.mul_assoc, <- bp_add, show m - 1 + (n - m + 1) = n by omega] at h8
 rw [bp_succ]
 omega
theorem over_guess {S V : Nat -> Nat} {n m m1 m2 i P W g : Nat} (hm : m = m1 + 1) (hm2 : m1 = m2 + 1) (him : i + m < n + 1) (hS : ∀ j, j < n + 1 -> S j < 18446744073709551616) (hP : sumL V m = P) (h0 : 0 < P) (hR : sumL S (n + 1) < P * bp (i + 1))
   (hW : sumL (fun j => S (i + j)) (m + 1) = W) (hG : Guess3 (S (i + m)) (S (i + m1)) (S (i + m2)) (V m1) (V m2) g) : W / P <= g := by
 subst hm2
 subst hm
 have h3 : W < P * 18446744073709551616 := by
  have h4 : W * bp i <= sumL S (n + 1) := by
   obtain ⟨d, hd⟩ : ∃ d, n + 1 = i + (m2 + 1 + 1 + 1) + d := ⟨n + 1 - (i + (m2 + 1 + 1 + 1)), by omega⟩
   rw [hd, sumL_split, sumL_split, hW]
   omega
  rw [bp_succ] at hR
  have h5 : W * bp i < P * 18446744073709551616 * bp i := by
   have e : P * 18446744073709551616 * bp i = P * (bp i * 18446744073709551616) := by grind
   omega
  exact Nat.lt_of_mul_lt_mul_right h5
 exact guess3_ge (F := fun j => S (i + j)) (V := V) (m := m2) (fun j hj => hS _ (by omega)) hW hP h0 h3 hG
theorem wrap_room {c n : Nat} {f : Nat -> Nat} (hn : n < c) (h0 : f n = 0) :
   ((cells c f).toList.take (n * 1) ++ [Value.int .u64 0] ++ (cells c f).toList.drop (n * 1 + 1)).toArray = cells c f := by
 apply Array.ext'
 apply List.ext_getElem?
 intro i
 simp only [Nat.mul_one]
 have hl : (cells c f).toList.length = c := by simp [cells_size]
 have hl2 : (List.take n (cells c f).toList).length = n := by rw [List.length_take, hl]; omega
 by_cases h1 : i < n
 ·rw [List.append_assoc, List.getElem?_append_left (by omega), List.getElem?_take_of_lt h1]
 ·by_cases h2 : i = n
  ·subst h2
   rw [List.append_assoc, List.getElem?_append_right (by omega), hl2, Nat.sub_self]
   simp only [List.cons_append, List.getElem?_cons_zero]
   rw [Array.getElem?_toList, cells_get c f i hn, h0]
   rfl
  ·rw [List.append_assoc, List.getElem?_append_right (by omega), hl2, List.getElem?_append_right (by simp; omega), List.getElem?_drop]
   simp only [List.length_cons, List.length_nil]
   congr 1
   omega
theorem app0P {ops : Array Oper} {rest : List Oper} {Q : Exit -> Act -> World -> Prop} {a : Act} {w : World} {d : Option Tmp} {s u : Tmp} {ty : TypeId} {pos : String} {af : Array Edge} {g b n c : Nat} {f : Nat -> Nat}
   (hs : a.eval (.tmp s) = .slice (some ⟨g, 0, none⟩) n c) (hu : a.eval (.tmp u) = .slice (some ⟨b, 0, none⟩) 1 1) (hR : Row w g 76 c f) (hB : w.cell? ⟨b, 0, none⟩ = some (.int .u64 0)) (hn : n < c) (h0 : f n = 0)
   (h : wpList Tryz.prog ops Q rest (a.put d (.slice (some ⟨g, 0, none⟩) (n + 1) c)) (w.setRow g (cells c f))) :
   wpList Tryz.prog ops Q ({ dst := d, op := .call { callee := .builtin .append, args := #[.tmp s, .tmp u], argTypes := #[57, 57] }, type := ty, pos := pos, after := af, guard := none } :: rest) a w := by
 obtain ⟨i0, hi, hz0, hz1, hz2⟩ := info_parts infoU
 refine wpList_plain rfl fun _ hK => ?_
 have hr := run_append_room (P := Tryz.prog) w 57 ty 76 i0 undS hi g n c (cells c f) hR ⟨b, 0, none⟩ 1 1 [.int .u64 0] (by rw [hz1]; rfl)
  (fun j v hj => by
   cases j with
   | zero => simp only [List.getElem?_cons_zero, Option.some.injEq] at hj; subst hj; exact hB
   | succ j => simp at hj)
  (fun v hv => by simp at hv; subst hv; rfl) (by omega) (by rw [hz1]; simp [cells_size]; omega)
 rw [hz1, show ([Value.int .u64 0] : List Value).length = 1 from rfl, wrap_room hn h0] at hr
 unfold Oper.wp execOp
 simp only [resolve, invoke, builtin, Sem.run_bind, Sem.run_pure, Result.andThen_ok, List.map_toArray, List.map_cons, List.map_nil, hs, hu, hr]
 exact hK _ _ h
set_option maxHeartbeats 16000000 in
theorem over_long {x y : Nat} {va vb : Value} {w : World} (ha : Am w va x) (hb : Am w vb y) (hx : nl x < 50000) (hxy : y <= x) (hy : 2 <= nl y) :
   Calls Tryz.prog 92 #[va, vb] w fun e w' => Up w w' /\ ∃ a n c b m d, e = .returned (.tuple #[.slice a n c, .slice b m d]) /\ Am w' (.slice a n c) (x / y) /\ Am w' (.slice b m d) (x % y) := by
 obtain ⟨a, ca, rfl, hca1, hca0⟩ := ha.open
 obtain ⟨b, cb, rfl, hcb1, hcb0⟩ := hb.open
 have hxn := lt_bp_nl x
 have hyn := lt_bp_nl y
 have htop : limb y (nl y - 1) ≠ 0 := lenL_top (limb y) y (show 0 < nl y by omega)
 have hmn : nl y <= nl x := nl_le (Nat.lt_of_le_of_lt hxy hxn)
 have hy0 : 0 < y := nl_pos_iff.1 (by omega)
 obtain ⟨s, hs⟩ : ∃ s, s = 64 - Lib.bitLen (limb y (nl y - 1)) := ⟨_, rfl⟩
 obtain ⟨hP1, hP2, hs64⟩ := norm_part hyn (by omega) htop hs
 have hlz := fun w => Tryz.bits_LeadingZeros64 (limb y (nl y - 1) : Nat) w (by omega) (by have := limb_lt y (nl y - 1); omega)
 have hbl := (bitLen_spec (limb_lt y (nl y - 1)) htop).2.2.2
 rw [Int.toNat_natCast, show (64 : Int) - (Lib.bitLen (limb y (nl y - 1)) : Int) = (s : Nat) by omega] at hlz
 obtain ⟨hX1, hX2⟩ := over_start hxn (show 0 < nl y by omega) hmn hs64 hP2
 have HC := hid (fun w' (h : Up w w') => cmp_am (ha.up h) (hb.up h) (by omega) (by omega))
 have hL1 := fun w' (h : Up w w') => left_row (hb.up h) (by omega) hy0 hs64
 have hL2 := fun w' (h : Up w w') => left_row (ha.up h) (by omega) (by omega) hs64
 have hnP : nl (y * 2 ^ s) = nl y := by
  have h1 := nl_left hy0 hs64
  have h2 := nl_le hP1
  omega
 have hnX := nl_left (x := x) (by omega) hs64
 obtain ⟨bb, rfl, hbb, hcb⟩ := hcb0 (nl y - 1) (by omega)
 rw [hnP] at hL1
 have hlx := limb_lt y (nl y - 1)
 clear hcb0 hca0 hxn hyn htop hbl hs hnP
 obtain ⟨L, hL⟩ : ∃ L, nl (x * 2 ^ s) = L := ⟨_, rfl⟩
 rw [hL] at hL2 hnX
 obtain ⟨n, hn⟩ : ∃ n, nl x = n := ⟨_, rfl⟩
 obtain ⟨m, hm⟩ : ∃ m, nl y = m := ⟨_, rfl⟩
 rw [hn] at hL2 hnX hX1 hX2 hmn hx hca1 HC ⊢
 rw [hm] at hL1 hP1 hP2 hX2 hmn hy hlz hcb hlx hcb1 HC ⊢
 have HLn := hid hL
 clear hn hm hL
 obtain ⟨m1, hm1⟩ : ∃ m1, m = m1 + 1 := ⟨m - 1, by omega⟩
 obtain ⟨m2, hm2⟩ : ∃ m2, m1 = m2 + 1 := ⟨m1 - 1, by omega⟩
 rw [show m - 1 = m1 by omega] at hlz hcb hlx hP2
 obtain ⟨P, hP⟩ : ∃ P, y * 2 ^ s = P := ⟨_, rfl⟩
 obtain ⟨X2, hX2e⟩ : ∃ X2, x * 2 ^ s = X2 := ⟨_, rfl⟩
 rw [hP] at hL1 hP1 hP2 hX2
 rw [hX2e] at hL2 hX1 hX2
 have HP := hid hP
 have HX2 := hid hX2e
 have HX1 := hid hX1
 have HXK := hid hX2
 have HP1 := hid hP1
 have HP2 := hid hP2
 have HL1 := hid hL1
 have HL2 := hid hL2
 have HLZ := hid hlz
 have HCB := hid hcb
 have Hy0 := hid hy0
 have d1 : decide (ordZ x y < 0) = false := by
  unfold ordZ
  rw [if_neg (by omega)]
  split <;> simp
 have d2 : ((m : Int) == 1) = false := by simp; omega
 have em1 : IntKind.i64.wrap ((m : Int) - 1) = (m1 : Nat) := by rw [IntWalk.i64_in _ (by omega)]; omega
 have b1 : (m1 : Int) < (m : Nat) := by omega
 have b2 : m1 < m := by omega
 have Hm1 := hid hm1
 have Hm2 := hid hm2
 clear hL1 hL2 hlz hP hX2e hX1 hX2 hP1 hP2 hcb ha hb hxy hy0 hm1 hm2
 generalize limb y m1 = top at *
 go_enter Tryz.func92, Tryz.ntmps92
 go_wp2_with (first | (go_at_call 58; (with_reducible refine (HC.out _ gUp).mono ?_); rintro e wC ⟨rfl, huC⟩; have hct := HCB.out _ huC) | (go_at_call 100; (with_reducible refine (HLZ.out _).mono ?_); rintro e wC ⟨rfl, rfl⟩) | (go_at_call 101; (first | ((with_reducible refine (HL1.out _ gUp).mono ?_); rintro e wV ⟨huV, v, rfl, V, rfl, hV, gV⟩) | ((with_reducible refine (HL2.out _ gUp).mono ?_); rintro e wU ⟨huU, u, rfl, U, rfl, hU, gU⟩))))
 have l0 := huC.size
 have l1 := gV.lt
 have l2 := gU.lt
 have gQ := (gV.up huU).congr hV
 have gP := gU.congr hU
 have gB : Below w.heap.size w wU := gUp
 have Hs64 := hid hs64
 clear hct hV gV hU gU huC huV huU HL1 HL2 HC HLZ HCB d1 d2 b1 b2 hlx hs64 hbb em1
 generalize wC.heap.size = q at *
 generalize wV.heap.size = p at *
 have HnX := hid hnX
 have Hmn := hid hmn
 clear hnX hmn
 have hz0 : n = L -> limb X2 n = 0 := fun h => limb_nl (by rw [<- HX2.out, HLn.out, h]; exact Nat.le_refl _)
 have Hz0 := hid hz0
 clear hz0 HLn
 go_loopw [12] (fun tu wr => ∃ (L : Nat), n <= L /\ L <= n + 1 /\ tu = .slice (some ⟨p, 0, none⟩) L (n + 1) /\ (n = L -> limb X2 n = 0) /\ Row wr q 76 (m + 1) (limb P) /\ Row wr p 76 (n + 1) (limb X2) /\ Below w.heap.size w wr)
  (fun tu _ => n + 1 - slen tu)
 case atStart => exact ⟨L, HnX.out.1, HnX.out.2, rfl, Hz0.out, gQ, gP, gB⟩
 case round =>
  clear gQ gP gB l2 Hz0 HnX
  obtain ⟨L, hl1, hl2, rfl, hz0, gQ, gP, gB⟩ := hrel
  have en1 : IntKind.i64.wrap ((n : Int) + 1) = (n : Int) + 1 := IntWalk.i64_in _ (by omega)
  have lP := gP.lt
  rcases (show n = L \/ n + 1 = L by omega) with rfl | rfl
  ·have hz := hz0 rfl
   clear hz0
   go_wp2_with (first | ((with_reducible apply app0P (f := limb X2)); exact rfl; exact rfl; exact gP.up (Up.alloc _ _); simp; omega; exact hz))
   go_roundw
   case rel => exact ⟨n + 1, by omega, by omega, rfl, fun h => by omega, (gQ.up (Up.alloc _ _)).row_other _ (by omega), (gP.up (Up.alloc _ _)).setRow _, below_setRow (below_up gB (Up.alloc _ _)) (by omega) _⟩
   case measure => show n + 1 - (n + 1) < n + 1 - n; omega
  ·clear hz0 hl1 hl2
   have hmn := Hmn.out
   obtain ⟨K, hK⟩ : ∃ K, n - m + 1 = K := ⟨_, rfl⟩
   have eK1 : IntKind.i64.wrap ((n : Int) - (m : Int)) = (K : Int) - 1 := by rw [IntWalk.i64_in _ (by omega)]; omega
   have eK2 : IntKind.i64.wrap (K : Int) = (K : Nat) := IntWalk.i64_in _ (by omega)
   have hxk := HXK.out
   rw [hK] at hxk
   have HXK := hid hxk
   have HK := hid hK
   clear hmn hxk hK
   go_wp2_with (first | ((with_reducible apply mkP (n := K)); exact rfl; (first | rfl | omega); (have := HK.out; omega)))
   have gT : Row (wr.alloc (.cells (cells K (fun _ => 0)) 76)) wr.heap.size 76 K (fun _ => 0) := row_newc _ _ _ rfl
   refine wp_worldD (fun wd => Row wd q 76 (m + 1) (limb P) /\ Row wd p 76 (n + 1) (limb X2) /\ Row wd wr.heap.size 76 K (fun _ => 0) /\ Below w.heap.size w wd) ⟨gQ.up (Up.alloc _ _), gP.up (Up.alloc _ _), gT, below_up gB (Up.alloc _ _)⟩ (fun w0 hD => ?_)
   clear gQ gP gT gB
   obtain ⟨gQ, gP, gT, gB⟩ := hD
   generalize wr.heap.size = t at *
   have hPm : sumL (limb P) m = P := by rw [sumL_limb, Nat.mod_eq_of_lt HP1.out]
   have HPm := hid hPm
   have hP0 : 0 < P := by have := HP2.out; have := bp_pos m1; omega
   have HP0 := hid hP0
   clear hPm hP0 eK1 eK2 en1
   go_loopw [14] (fun ti wr => ∃ (k : Nat) (S T : Nat -> Nat), k <= K /\ ti = .int .i64 ((k : Int) - 1) /\ (∀ j, j < n + 1 -> S j < 18446744073709551616) /\ (∀ j, j < K -> T j < 18446744073709551616) /\ (∀ j, j < k -> T j = 0) /\ X2 = sumL T K * P + sumL S (n + 1) /\ sumL S (n + 1) < P * bp k /\
      Row wr q 76 (m + 1) (limb P) /\ Row wr p 76 (n + 1) S /\ Row wr t 76 K T /\ Below w.heap.size w wr)
    (fun ti _ => (intOf ti + 1).toNat)
   case atStart =>
    refine ⟨K, limb X2, fun _ => 0, Nat.le_refl _, rfl, fun j _ => limb_lt _ j, fun _ _ => by simp, fun _ _ => rfl, ?_, ?_, gQ, gP, gT, gB⟩
    ·rw [sumL_zeros, sumL_limb, Nat.mod_eq_of_lt HX1.out]; omega
    ·rw [sumL_limb, Nat.mod_eq_of_lt HX1.out]; exact HXK.out
   case round =>
    clear gQ gP gT gB
    obtain ⟨k, S, T, hk, rfl, hS, hT, hT0, hX, hR, gQ, gP, gT, gB⟩ := hrel
    have HS := hid hS
    have HT := hid hT
    have HT0 := hid hT0
    have HX := hid hX
    have HR := hid hR
    clear hS hT hT0 hX hR
    rcases Nat.eq_zero_or_pos k with hk0 | hk0
    ·subst hk0
     have hE : sumL T K = x / y /\ sumL S (n + 1) / 2 ^ s = x % y := by
      have h1 := HX.out
      have h2 := HR.out
      rw [bp_zero, Nat.mul_one] at h2
      rw [<- HX2.out, <- HP.out] at h1
      rw [<- HP.out] at h2
      exact long_end Hy0.out h1 h2
     have hS2 : sumL S (n + 1) = sumL S m := by
      have h2 := HR.out
      rw [bp_zero, Nat.mul_one] at h2
      have hmn := Hmn.out
      exact sum_cut (by omega) (zero_above (k := m) (Nat.lt_trans h2 HP1.out))
     rw [hS2] at hE
     have HT1 := hid (fun w' (h : Row w' t 76 K T) => trim_row t K K K T w' h (Nat.le_refl _) (Nat.le_refl _) (by have := HK.out; omega))
     have hmn := Hmn.out
     have HT2 := hid (fun w' (h : Row w' p 76 (n + 1) S) => trim_row p m (n + 1) (n + 1) S w' h (by omega) (by omega) (by omega))
     have HA2 := hid (fun w' (h : Row w' p 76 (n + 1) S) => am_row (n := m) (c := n + 1) h (by omega) (by omega) (fun i hi => HS.out i (by omega)))
     have HA1 := hid (fun w' (h : Row w' t 76 K T) => am_row (n := K) (c := K) h (Nat.le_refl _) (Nat.le_refl _) HT.out)
     have HnS := hid (nl_sum (S := S) (n := m) fun i hi => HS.out i (by omega))
     have HE := hid hE
     have bs1 : (m : Int) <= (n : Int) + 1 := by omega
     have hs6 := Hs64.out
     clear hE hS2 hmn
     go_wp2_with fail
     refine opU (S := (fun wq => Row wq p 76 (n + 1) S /\ Row wq t 76 K T /\ Below w.heap.size w wq)) (req := (fun _ => true)) (fun _ _ h hu => ⟨(h.1).up hu, (h.2.1).up hu, below_up (h.2.2) hu⟩) ⟨gRow, gRow, gUp⟩ (fun wS hSS hSu => ?_)
     have ⟨hS1, hS2, hSB⟩ := hSS
     clear gQ gP gT gB
     refine tkP 0 (some 238) hSu ?_
     refine tkC 1 (some 239) rfl hSu hSS ?_ (hy := fun w' hSw => (HT1.out _ hSw.2.1))
     refine tkP 2 (some 240) hSu ?_
     refine tkP 3 (some 241) hSu ?_
     refine tkP 4 (some 242) hSu ?_
     refine tkC 5 (some 243) rfl hSu hSS ?_ (hy := fun w' hSw => (HT2.out _ hSw.1))
     refine tkP 6 (some 244) hSu ?_
     refine wpAnyU_callE (i := 7) (d := (some 245)) rfl rfl (by kernel_rfl) (by rfl) hSu.out (fun w' => by go_simp) (fun w' hw' => right_am (HA2.out _ (hS1.up hw')) (by rw [HnS.out]; exact Nat.lt_of_le_of_lt (lenL_le S m) (by omega)) hs6) fun vR wR hwR hRR => ?_
     try simp only [Act.put, pu1, pu2, pu3]
     obtain ⟨a1, c1, rfl⟩ := hRR.shape
     refine tkP 8 (some 4) hSu ?_
     refine tkP 9 (some 5) hSu ?_
     refine wpAnyU_done (by kernel_rfl) (fun wF huE => ?_) _
     have gA1 := HA1.out _ ((hS2.up hwR).up huE)
     have gA2 := hRR.up huE
     have gB := below_up (below_up hSB hwR) huE
     clear hS1 hS2 hSB hSS hwR hRR huE
     go_wp2_with fail
     go_ret2
     refine ⟨gB, _, _, _, _, _, _, rfl, ?_, ?_⟩
     ·rw [<- HE.out.1]; exact gA1
     ·rw [<- HE.out.2]; exact gA2
    ·obtain ⟨i, rfl⟩ : ∃ i, k = i + 1 := ⟨k - 1, by omega⟩
     rw [show ((i + 1 : Nat) : Int) - 1 = (i : Nat) by omega]
     have hmn := Hmn.out
     have hkk := HK.out
     have hm1 := Hm1.out
     have hm2 := Hm2.out
     have him : i + m < n + 1 := by omega
     have hiK : i < K := by omega
     have him1 : i + m1 < n + 1 := by omega
     have him2 : i + m2 < n + 1 := by omega
     have e1 : IntKind.i64.wrap ((i : Int) + (m : Int)) = (i : Int) + (m : Int) := IntWalk.i64_in _ (by omega)
     have e2 : IntKind.i64.wrap ((i : Int) + (m : Int) - 1) = (i : Int) + (m1 : Int) := by rw [IntWalk.i64_in _ (by omega)]; omega
     have e3 : IntKind.i64.wrap ((i : Int) + (m : Int) - 2) = (i : Int) + (m2 : Int) := by rw [IntWalk.i64_in _ (by omega)]; omega
     have e4 : IntKind.i64.wrap ((m : Int) - 1) = (m1 : Int) := by rw [IntWalk.i64_in _ (by omega)]; omega
     have e5 : IntKind.i64.wrap ((m : Int) - 2) = (m2 : Int) := by rw [IntWalk.i64_in _ (by omega)]; omega
     have f1 : ((i : Int) + (m : Int)).toNat = i + m := by omega
     have f2 : ((i : Int) + (m1 : Int)).toNat = i + m1 := by omega
     have f3 : ((i : Int) + (m2 : Int)).toNat = i + m2 := by omega
     have j1 : (i : Int) + (m : Int) < (n : Int) + 1 := by omega
     have j2 : (0 : Int) <= (i : Int) + (m : Int) := by omega
     have j3 : (i : Int) + (m1 : Int) < (n : Int) + 1 := by omega
     have j4 : (0 : Int) <= (i : Int) + (m1 : Int) := by omega
     have j5 : (i : Int) + (m2 : Int) < (n : Int) + 1 := by omega
     have j6 : (0 : Int) <= (i : Int) + (m2 : Int) := by omega
     have j7 : (m1 : Int) < (m : Int) := by omega
     have j8 : (m2 : Int) < (m : Int) := by omega
     have j9 : m1 < m := by omega
     have jA : m2 < m := by omega
     have HG3 := hid (fun w' => guess3_any (S (i + m)) (S (i + m1)) (S (i + m2)) (limb P m1) (limb P m2) (HS.out _ him) (HS.out _ him1) (HS.out _ him2) (limb_lt _ _) (limb_lt _ _) w')
     have c1 := gP.cell (i + m) him
     have c2 := gP.cell (i + m1) him1
     have c3 := gP.cell (i + m2) him2
     have c4 := gQ.cell m1 (by omega)
     have c5 := gQ.cell m2 (by omega)
     clear hmn hkk hm1 hm2
     go_wp2_with fail
     refine opU (S := (fun wq => Row wq q 76 (m + 1) (limb P) /\ Row wq p 76 (n + 1) S /\ Row wq t 76 K T /\ wq.cell? ⟨p, i + m, none⟩ = some (.int .u64 (S (i + m) : Nat)) /\ wq.cell? ⟨p, i + m1, none⟩ = some (.int .u64 (S (i + m1) : Nat)) /\ wq.cell? ⟨p, i + m2, none⟩ = some (.int .u64 (S (i + m2) : Nat)) /\ wq.cell? ⟨q, m1, none⟩ = some (.int .u64 (limb P m1 : Nat)) /\ wq.cell? ⟨q, m2, none⟩ = some (.int .u64 (limb P m2 : Nat)) /\ Below w.heap.size w wq)) (req := (fun _ => true)) (fun _ _ h hu => ⟨(h.1).up hu, (h.2.1).up hu, (h.2.2.1).up hu, hu.cell (h.2.2.2.1), hu.cell (h.2.2.2.2.1), hu.cell (h.2.2.2.2.2.1), hu.cell (h.2.2.2.2.2.2.1), hu.cell (h.2.2.2.2.2.2.2.1), below_up (h.2.2.2.2.2.2.2.2) hu⟩) ⟨gRow, gRow, gRow, (by first | assumption | (apply Blk.cell; exact gBlk; exact rfl)), (by first | assumption | (apply Blk.cell; exact gBlk; exact rfl)), (by first | assumption | (apply Blk.cell; exact gBlk; exact rfl)), (by first | assumption | (apply Blk.cell; exact gBlk; exact rfl)), (by first | assumption | (apply Blk.cell; exact gBlk; exact rfl)), gUp⟩ (fun wS hSS hSu => ?_)
     have ⟨hS1, hS2, hS3, hS4, hS5, hS6, hS7, hS8, hSB⟩ := hSS
     clear gQ gP gT gB c1 c2 c3 c4 c5
     refine tkP 0 (some 98) hSu ?_
     refine tkP 1 (some 99) hSu ?_
     refine tkP 2 (some 100) hSu ?_
     refine tkP 3 (some 101) hSu ?_
     refine tkP 4 (some 102) hSu ?_
     refine tkT 5 (some 103) rfl hSu hSS ?_ (hy := fun w' hSw => by ((try dsimp only at hSw); (try obtain ⟨_, _, _, _, _, _, _, _, _⟩ := hSw); go_simp; (try exact rfl)))
     refine tkP 6 (some 104) hSu ?_
     refine tkP 7 (some 105) hSu ?_
     refine tkP 8 (some 106) hSu ?_
     refine tkP 9 (some 107) hSu ?_
     refine tkP 10 (some 108) hSu ?_
     refine tkP 11 (some 109) hSu ?_
     refine tkT 12 (some 110) rfl hSu hSS ?_ (hy := fun w' hSw => by ((try dsimp only at hSw); (try obtain ⟨_, _, _, _, _, _, _, _, _⟩ := hSw); go_simp; (try exact rfl)))
     refine tkP 13 (some 111) hSu ?_
     refine tkP 14 (some 112) hSu ?_
     refine tkP 15 (some 113) hSu ?_
     refine tkP 16 (some 114) hSu ?_
     refine tkP 17 (some 115) hSu ?_
     refine tkP 18 (some 116) hSu ?_
     refine tkT 19 (some 117) rfl hSu hSS ?_ (hy := fun w' hSw => by ((try dsimp only at hSw); (try obtain ⟨_, _, _, _, _, _, _, _, _⟩ := hSw); go_simp; (try exact rfl)))
     refine tkP 20 (some 118) hSu ?_
     refine tkP 21 (some 119) hSu ?_
     refine tkP 22 (some 120) hSu ?_
     refine tkP 23 (some 121) hSu ?_
     refine tkT 24 (some 122) rfl hSu hSS ?_ (hy := fun w' hSw => by ((try dsimp only at hSw); (try obtain ⟨_, _, _, _, _, _, _, _, _⟩ := hSw); go_simp; (try exact rfl)))
     refine tkP 25 (some 123) hSu ?_
     refine tkP 26 (some 124) hSu ?_
     refine tkP 27 (some 125) hSu ?_
     refine tkP 28 (some 126) hSu ?_
     refine tkT 29 (some 127) rfl hSu hSS ?_ (hy := fun w' hSw => by ((try dsimp only at hSw); (try obtain ⟨_, _, _, _, _, _, _, _, _⟩ := hSw); go_simp; (try exact rfl)))
     refine wpAnyU_callE (i := 30) (d := (some 128)) rfl rfl (by kernel_rfl) (by rfl) hSu.out (fun w' => by go_simp) (fun w' hw' => (HG3.out _)) fun vG wG hwG hRG => ?_
     try simp only [Act.put, pu1, pu2, pu3]
     obtain ⟨g, rfl, hgl, hG⟩ := hRG
     refine tkP 31 (some 15) hSu ?_
     refine wpAnyU_done (by kernel_rfl) (fun wF huE => ?_) _
     have gQ := (hS1.up hwG).up huE
     have gP := (hS2.up hwG).up huE
     have gT := (hS3.up hwG).up huE
     have gB := below_up (below_up hSB hwG) huE
     have Hgl := hid hgl
     have HG := hid hG
     clear hS1 hS2 hS3 hS4 hS5 hS6 hS7 hS8 hSB hSS hwG huE hgl hG HG3 e2 e3 e4 e5 f2 f3 j3 j4 j5 j6 j7 j8
     go_wp2_with fail
     obtain ⟨W, hW⟩ : ∃ W, sumL (fun j => S (i + j)) (m + 1) = W := ⟨_, rfl⟩
     have HW := hid hW
     have hq0 : W / P <= g := over_guess Hm1.out Hm2.out him HS.out HPm.out HP0.out HR.out hW HG.out
     have Hq0 := hid hq0
     clear hW hq0 HG
     go_loopw [16, 17, 18] (fun tc tb ti wr => ∃ (k c b : Nat) (S1 : Nat -> Nat), k <= m /\ tc = .int .u64 (c : Nat) /\ tb = .int .u64 (b : Nat) /\ ti = .int .i64 (k : Nat) /\ c < 18446744073709551616 /\ b <= 1 /\
        sumL (fun j => S1 (i + j)) k + g * sumL (limb P) k = sumL (fun j => S (i + j)) k + (b + c) * bp k /\ (∀ j, j < i \/ i + k <= j -> S1 j = S j) /\ (∀ j, j < n + 1 -> S1 j < 18446744073709551616) /\
        Row wr q 76 (m + 1) (limb P) /\ Row wr p 76 (n + 1) S1 /\ Row wr t 76 K T /\ Below w.heap.size w wr)
      (fun _ _ ti _ => m - (intOf ti).toNat)
     case atStart => exact ⟨0, 0, 0, S, by omega, rfl, rfl, rfl, by omega, by omega, by simp [sumL_zero], fun _ _ => rfl, HS.out, gQ, gP, gT, gB⟩
     case round =>
      clear gQ gP gT gB
      obtain ⟨k, c, b, S1, hk2, rfl, rfl, rfl, hc, hb, hsum, ho, hl, gQ, gP, gT, gB⟩ := hrel
      have Hsum := hid hsum
      have Ho := hid ho
      have Hl := hid hl
      clear hsum ho hl
      have hgl := Hgl.out
      by_cases hlt : k < m
      ·have hVk := limb_lt P k
       have hik : i + k < n + 1 := by omega
       have e2 : IntKind.i64.wrap ((i : Int) + (k : Int)) = (i : Int) + (k : Int) := IntWalk.i64_in _ (by omega)
       have e3 : IntKind.i64.wrap ((k : Int) + 1) = (k : Int) + 1 := IntWalk.i64_in _ (by omega)
       have f2 : ((i : Int) + (k : Int)).toNat = i + k := by omega
       have j3 : (i : Int) + (k : Int) < (n : Int) + 1 := by omega
       have j4 : (0 : Int) <= (i : Int) + (k : Int) := by omega
       have hcy := gQ.cell k (by omega)
       have hcx := gP.cell (i + k) hik
       have hfx := gP.frozen (i + k)
       obtain ⟨h, eh⟩ : ∃ h, h = g * limb P k / 18446744073709551616 := ⟨_, rfl⟩
       obtain ⟨l, el⟩ : ∃ l, l = g * limb P k % 18446744073709551616 := ⟨_, rfl⟩
       have HM : Hid (∀ w, Calls Tryz.prog 79 #[.int .u64 (g : Nat), .int .u64 (limb P k : Nat)] w fun e w' => e = .returned (.tuple #[.int .u64 (h : Nat), .int .u64 (l : Nat)]) /\ w' = w) := hid (fun w => (Tryz.bits_Mul64 g (limb P k) hgl hVk w).mono (by rintro e w' ⟨rfl, rfl⟩; exact ⟨by rw [eh, el], rfl⟩))
       obtain ⟨l2, c2, HA, e6, e7⟩ : ∃ r c' : Nat, (∀ w, (callFunc 77 #[.int .u64 (l : Nat), .int .u64 (c : Nat), .int .u64 0]).run Tryz.prog w = .ok (.value (.tuple #[.int .u64 (r : Nat), .int .u64 (c' : Nat)])) w) /\
        r = (l + c + 0) % 18446744073709551616 /\ c' = (l + c + 0) / 18446744073709551616 := ⟨_, _, run_add l c 0 (by omega), rfl, rfl⟩
       obtain ⟨g1, g2, g3, g4, g5, g6⟩ := mul_step hgl hVk hc eh el e6 e7
       obtain ⟨cn, ecn⟩ : ∃ cn, cn = h + c2 := ⟨_, rfl⟩
       rw [<- ecn] at g1 g2
       have w1 : IntKind.u64.wrap ((h : Int) + c2) = (cn : Nat) := by rw [IntKind.wrap_u64]; omega
       have HG2 := hid g2
       clear eh el e6 e7 g2 ecn
       have hSk := Hl.out (i + k) hik
       obtain ⟨r, b', HSub, hr, hrl, hb1⟩ : ∃ r b' : Nat, (∀ w, (callFunc 78 #[.int .u64 (S1 (i + k) : Nat), .int .u64 (l2 : Nat), .int .u64 (b : Nat)]).run Tryz.prog w = .ok (.value (.tuple #[.int .u64 (r : Nat), .int .u64 (b' : Nat)])) w) /\
          Hid (r + l2 + b = S1 (i + k) + b' * 18446744073709551616) /\ r < 18446744073709551616 /\ b' <= 1 :=
        ⟨_, _, run_sub (S1 (i + k)) l2 b hb, hid (by split <;> omega), Nat.mod_lt _ (by decide), by split <;> omega⟩
       have gP1 := gP.set (i + k) r
       have gQ1 := gQ.other ⟨p, i + k, none⟩ (.int .u64 (r : Nat)) (show q ≠ p by omega)
       have gT1 := gT.other ⟨p, i + k, none⟩ (.int .u64 (r : Nat)) (show t ≠ p by omega)
       have gB1 := gB.setCell (p := ⟨p, i + k, none⟩) (show w.heap.size <= p by omega) (.int .u64 (r : Nat))
       go_wp2_with (first | (go_at_call 79; (with_reducible refine (HM.out _).mono ?_); rintro e wM ⟨rfl, rfl⟩))
       clear e1 f1 j1 j2 e2 e3 f2 j3 j4 w1 hcy hcx hfx HM HA HSub gQ gP gT gB
       go_roundw
       case rel =>
        refine ⟨k + 1, cn, b', upd S1 (i + k) r, by omega, rfl, rfl, by go_num, g1, hb1, ?_, fun j hj => by rw [upd_other _ _ _ (by omega)]; exact Ho.out j (by omega), upd_lt Hl.out hrl, gQ1, gP1, gT1, gB1⟩
        rw [sum_shift_upd, sumL_succ (limb P), sumL_succ (fun j => S (i + j)), bp_succ, Nat.mul_add, <- Nat.mul_assoc]
        have h2 := hr.out
        rw [Ho.out (i + k) (by omega)] at h2
        exact off_step Hsum.out HG2.out h2
       case measure => simp [intOf] <;> omega
      ·obtain rfl : m = k := by omega
       clear hlt
       have hcx := gP.cell (i + m) him
       have hfx := gP.frozen (i + m)
       have hSk := Hl.out (i + m) him
       obtain ⟨r, b', HSub, hr, hrl, hb1⟩ : ∃ r b' : Nat, (∀ w, (callFunc 78 #[.int .u64 (S1 (i + m) : Nat), .int .u64 (c : Nat), .int .u64 (b : Nat)]).run Tryz.prog w = .ok (.value (.tuple #[.int .u64 (r : Nat), .int .u64 (b' : Nat)])) w) /\
          Hid (r + c + b = S1 (i + m) + b' * 18446744073709551616) /\ r < 18446744073709551616 /\ b' <= 1 :=
        ⟨_, _, run_sub (S1 (i + m)) c b hb, hid (by split <;> omega), Nat.mod_lt _ (by decide), by split <;> omega⟩
       have gP1 := gP.set (i + m) r
       have gQ1 := gQ.other ⟨p, i + m, none⟩ (.int .u64 (r : Nat)) (show q ≠ p by omega)
       have gT1 := gT.other ⟨p, i + m, none⟩ (.int .u64 (r : Nat)) (show t ≠ p by omega)
       have gB1 := gB.setCell (p := ⟨p, i + m, none⟩) (show w.heap.size <= p by omega) (.int .u64 (r : Nat))
       have he : sumL (fun j => upd S1 (i + m) r (i + j)) (m + 1) + g * P = W + b' * bp (m + 1) := by
        have h2 := hr.out
        rw [Ho.out (i + m) (by omega)] at h2
        have h3 := off_last Hsum.out h2
        rw [HPm.out] at h3
        have h4 := HW.out
        rw [sumL_succ] at h4
        rw [sum_shift_upd, bp_succ, <- h4]
        exact h3
       have ho : ∀ j, j < i \/ i + m < j -> upd S1 (i + m) r j = S j := fun j hj => by rw [upd_other _ _ _ (by omega)]; exact Ho.out j (by omega)
       have He := hid he
       have Ho2 := hid ho
       have Hl2 := hid (upd_lt (k := i + m) Hl.out hrl)
       clear he ho gQ gP gT gB hr Hsum Ho
       go_wp2_with fail
       clear hcx hfx HSub hSk Hl
       generalize upd S1 (i + m) r = S2 at *
       go_loopw [15, 17] (fun tg tb wr => ∃ (g b : Nat) (S1 : Nat -> Nat), tg = .int .u64 (g : Nat) /\ tb = .int .u64 (b : Nat) /\ b <= 1 /\ g < 18446744073709551616 /\ W / P <= g /\ sumL (fun j => S1 (i + j)) (m + 1) + g * P = W + b * bp (m + 1) /\ (∀ j, j < i \/ i + m < j -> S1 j = S j) /\ (∀ j, j < n + 1 -> S1 j < 18446744073709551616) /\
          Row wr q 76 (m + 1) (limb P) /\ Row wr p 76 (n + 1) S1 /\ Row wr t 76 K T /\ Below w.heap.size w wr)
        (fun tg _ _ => (intOf tg).toNat)
       case atStart => exact ⟨g, b', S2, rfl, rfl, hb1, Hgl.out, Hq0.out, He.out, Ho2.out, Hl2.out, gQ1, gP1, gT1, gB1⟩
       case round =>
        clear gQ1 gP1 gT1 gB1 He Ho2 Hl2 Hgl hgl Hq0 hb1 hrl
        obtain ⟨g, b, S1, rfl, rfl, hb, hgl, hq0, he, ho, hl, gQ, gP, gT, gB⟩ := hrel
        have He := hid he
        have Ho := hid ho
        have Hl := hid hl
        have Hq0 := hid hq0
        have Hgl := hid hgl
        clear he ho hl hq0 hgl
        rcases (show b = 0 \/ b = 1 by omega) with rfl | rfl
        ·have he := He.out
         rw [Nat.zero_mul, Nat.add_zero] at he
         obtain ⟨hlt, hgq⟩ := round_end he Hq0.out HP0.out
         have hR3 : sumL S (n + 1) < bp (i + m + 1) := by
          have h0 := HR.out
          have h1 := HP1.out
          have h2 : P * bp (i + 1) <= bp m * bp (i + 1) := Nat.mul_le_mul_right _ (Nat.le_of_lt h1)
          rw [<- bp_add, show m + (i + 1) = i + m + 1 by omega] at h2
          exact Nat.lt_of_lt_of_le h0 h2
         obtain ⟨hX1, hX3⟩ := over_more him hiK HS.out HX.out (HT0.out i (by omega)) hR3 HW.out rfl Ho.out he hlt
         have HX1' := hid hX1
         have HX3 := hid hX3
         have e7 : IntKind.i64.wrap ((i : Int) - 1) = (i : Int) - 1 := IntWalk.i64_in _ (by omega)
         have hi16 : (i : Int) < (K : Int) := by omega
         have hct := gT.cell i hiK
         have hft := gT.frozen i
         have gT1 := gT.set i g
         have gP1 := gP.other ⟨t, i, none⟩ (.int .u64 (g : Nat)) (show p ≠ t by omega)
         have gQ1 := gQ.other ⟨t, i, none⟩ (.int .u64 (g : Nat)) (show q ≠ t by omega)
         have gB1 := gB.setCell (p := ⟨t, i, none⟩) (show w.heap.size <= t by omega) (.int .u64 (g : Nat))
         clear he hlt hgq hR3 hX1 hX3 gQ gP gT gB
         go_wp2_with fail
         clear e1 f1 j1 j2 e7 hi16 hct hft
         go_roundw
         case rel => exact ⟨i, S1, upd T i g, by omega, rfl, Hl.out, upd_lt HT.out Hgl.out, fun j hj => by rw [upd_other _ _ _ (by omega)]; exact HT0.out j (by omega), HX1'.out, HX3.out, gQ1, gP1, gT1, gB1⟩
         case measure => simp [intOf] <;> omega
        ·rw [show ((1 : Nat) : Int) = (1 : Int) from rfl]
         have he := He.out
         rw [Nat.one_mul] at he
         have hW1 := sumL_lt (f := fun j => S1 (i + j)) (k := m + 1) fun j hj => Hl.out _ (by omega)
         obtain ⟨hg1, hq1⟩ := round_more he hW1 HP0.out
         obtain ⟨G, hG⟩ : ∃ G, g - 1 = G := ⟨_, rfl⟩
         rw [hG] at hq1
         have HGg := hid hG
         have HGq := hid hq1
         have HG1 := hid hg1
         have hgl := Hgl.out
         have eg : IntKind.u64.wrap ((g : Int) - 1) = (G : Nat) := by rw [IntKind.wrap_u64]; omega
         have Hhe := hid he
         clear he hW1 hg1 hq1 hG hgl He
         go_wp2_with fail
         clear eg
         go_loopw [22, 23] (fun tc ti wr => ∃ (k c : Nat) (S2 : Nat -> Nat), k <= m /\ tc = .int .u64 (c : Nat) /\ ti = .int .i64 (k : Nat) /\ c <= 1 /\ sumL (fun j => S2 (i + j)) k + c * bp k = sumL (fun j => S1 (i + j)) k + sumL (limb P) k /\ (∀ j, j < i \/ i + k <= j -> S2 j = S1 j) /\ (∀ j, j < n + 1 -> S2 j < 18446744073709551616) /\
            Row wr q 76 (m + 1) (limb P) /\ Row wr p 76 (n + 1) S2 /\ Row wr t 76 K T /\ Below w.heap.size w wr)
          (fun _ ti _ => m - (intOf ti).toNat)
         case atStart => exact ⟨0, 0, S1, by omega, rfl, rfl, by omega, by simp [sumL_zero], fun _ _ => rfl, Hl.out, gQ, gP, gT, gB⟩
         case round =>
          clear gQ gP gT gB
          obtain ⟨k, c, S2, hk3, rfl, rfl, hc, hsum, ho2, hl2, gQ, gP, gT, gB⟩ := hrel
          have Hsum := hid hsum
          have Ho2 := hid ho2
          have Hl2 := hid hl2
          clear hsum ho2 hl2
          by_cases hlt : k < m
          ·have hik : i + k < n + 1 := by omega
           have e2 : IntKind.i64.wrap ((i : Int) + (k : Int)) = (i : Int) + (k : Int) := IntWalk.i64_in _ (by omega)
           have e3 : IntKind.i64.wrap ((k : Int) + 1) = (k : Int) + 1 := IntWalk.i64_in _ (by omega)
           have f2 : ((i : Int) + (k : Int)).toNat = i + k := by omega
           have j3 : (i : Int) + (k : Int) < (n : Int) + 1 := by omega
           have j4 : (0 : Int) <= (i : Int) + (k : Int) := by omega
           have j5 : (k : Int) < (m : Int) := by omega
           have hcy := gQ.cell k (by omega)
           have hcx := gP.cell (i + k) hik
           obtain ⟨r, c', hadd, hr, hrl, hc1⟩ : ∃ r c' : Nat, (∀ w, (callFunc 77 #[.int .u64 (S2 (i + k) : Nat), .int .u64 (limb P k : Nat), .int .u64 (c : Nat)]).run Tryz.prog w = .ok (.value (.tuple #[.int .u64 (r : Nat), .int .u64 (c' : Nat)])) w) /\
              Hid (r + c' * 18446744073709551616 = S2 (i + k) + limb P k + c) /\ r < 18446744073709551616 /\ c' <= 1 :=
            ⟨_, _, run_add (S2 (i + k)) (limb P k) c hc, hid (by omega), Nat.mod_lt _ (by decide), by have := Hl2.out (i + k) hik; have := limb_lt P k; omega⟩
           go_wp2_with fail
           refine opU (S := (fun wq => Row wq q 76 (m + 1) (limb P) /\ Row wq p 76 (n + 1) S2 /\ Row wq t 76 K T /\ wq.cell? ⟨p, i + k, none⟩ = some (.int .u64 (S2 (i + k) : Nat)) /\ wq.cell? ⟨q, k, none⟩ = some (.int .u64 (limb P k : Nat)) /\ Below w.heap.size w wq)) (req := (fun j => j != 20)) (fun _ _ h hu => ⟨(h.1).up hu, (h.2.1).up hu, (h.2.2.1).up hu, hu.cell (h.2.2.2.1), hu.cell (h.2.2.2.2.1), below_up (h.2.2.2.2.2) hu⟩) ⟨gRow, gRow, gRow, (by first | assumption | (apply Blk.cell; exact gBlk; exact rfl)), (by first | assumption | (apply Blk.cell; exact gBlk; exact rfl)), gUp⟩ (fun wS hSS hSu => ?_)
           have ⟨hS1, hS2, hS3, hS4, hS5, hSB⟩ := hSS
           clear hcx hcy gQ gP gT gB
           refine tkP 0 (some 196) hSu ?_
           refine tkP 1 (some 197) hSu ?_
           refine tkP 2 (some 198) hSu ?_
           refine tkP 3 (some 199) hSu ?_
           refine tkP 4 (some 200) hSu ?_
           refine tkP 5 (some 201) hSu ?_
           refine tkP 6 (some 202) hSu ?_
           refine tkP 7 (some 203) hSu ?_
           refine tkP 8 (some 204) hSu ?_
           refine tkT 9 (some 205) rfl hSu hSS ?_ (hy := fun w' hSw => by ((try dsimp only at hSw); (try obtain ⟨_, _, _, _, _, _⟩ := hSw); go_simp; (try exact rfl)))
           refine tkP 10 (some 206) hSu ?_
           refine tkP 11 (some 207) hSu ?_
           refine tkP 12 (some 208) hSu ?_
           refine tkT 13 (some 209) rfl hSu hSS ?_ (hy := fun w' hSw => by ((try dsimp only at hSw); (try obtain ⟨_, _, _, _, _, _⟩ := hSw); go_simp; (try exact rfl)))
           refine tkP 14 (some 210) hSu ?_
           refine tkP 15 (some 211) hSu ?_
           refine tkP 16 (some 195) hSu ?_
           refine tkP 17 (some 212) hSu ?_
           refine tkP 18 (some 213) hSu ?_
           refine tkP 19 (some 214) hSu ?_
           refine wpAnyU_one (i := 20) rfl (by kernel_rfl) (by rfl) fun w1 hw1 => ?_
           have hcW := (hS2.up hw1).cell (i+k) (by omega)
           have hfW := (hS2.up hw1).frozen (i+k)
           go_simp
           clear hcW hfW
           refine tkP 21 (some 22) hSu ?_
           refine wpAnyU_done (by kernel_rfl) (fun wF huE => ?_) _
           have gQ := ((hS1.up hw1).other ⟨p, i + k, none⟩ (.int .u64 (r : Nat)) (show q ≠ p by omega)).up huE
           have gP := ((hS2.up hw1).set (i + k) r).up huE
           have gT := ((hS3.up hw1).other ⟨p, i + k, none⟩ (.int .u64 (r : Nat)) (show t ≠ p by omega)).up huE
           have gB := below_up ((below_up hSB hw1).setCell (p := ⟨p, i + k, none⟩) (show w.heap.size <= p by omega) (.int .u64 (r : Nat))) huE
           clear hS1 hS2 hS3 hS4 hS5 hSB hSS hw1 huE e2 f2 j3 j4 j5 hadd
           go_wp2_with fail
           clear e3 e1 f1 j1 j2
           go_roundw
           case rel =>
            refine ⟨k + 1, c', upd S2 (i + k) r, by omega, rfl, by go_num, hc1, ?_, fun j hj => by rw [upd_other _ _ _ (by omega)]; exact Ho2.out j (by omega), upd_lt Hl2.out hrl, gQ, gP, gT, gB⟩
            rw [sum_shift_upd, sumL_succ (limb P), sumL_succ (fun j => S1 (i + j)), bp_succ]
            have h2 := hr.out
            rw [Ho2.out (i + k) (by omega)] at h2
            exact back_step Hsum.out h2
           case measure => simp [intOf] <;> omega
          ·obtain rfl : m = k := by omega
           clear hlt
           have hcx := gP.cell (i + m) him
           have hfx := gP.frozen (i + m)
           obtain ⟨r, c', hadd, hr, hrl, hc1⟩ : ∃ r c' : Nat, (∀ w, (callFunc 77 #[.int .u64 (S2 (i + m) : Nat), .int .u64 0, .int .u64 (c : Nat)]).run Tryz.prog w = .ok (.value (.tuple #[.int .u64 (r : Nat), .int .u64 (c' : Nat)])) w) /\
              Hid (r + c' * 18446744073709551616 = S2 (i + m) + 0 + c) /\ r < 18446744073709551616 /\ c' <= 1 := by
            have h := run_add (S2 (i + m)) 0 c hc
            simp only [show ((0 : Nat) : Int) = 0 from rfl] at h
            exact ⟨_, _, h, hid (by omega), Nat.mod_lt _ (by decide), by have := Hl2.out (i + m) him; omega⟩
           have gP1 := gP.set (i + m) r
           have gQ1 := gQ.other ⟨p, i + m, none⟩ (.int .u64 (r : Nat)) (show q ≠ p by omega)
           have gT1 := gT.other ⟨p, i + m, none⟩ (.int .u64 (r : Nat)) (show t ≠ p by omega)
           have gB1 := gB.setCell (p := ⟨p, i + m, none⟩) (show w.heap.size <= p by omega) (.int .u64 (r : Nat))
           have h3 : sumL (fun j => upd S2 (i + m) r (i + j)) (m + 1) + c' * bp (m + 1) = sumL (fun j => S1 (i + j)) (m + 1) + P := by
            have h2 := hr.out
            rw [Ho2.out (i + m) (by omega)] at h2
            have h4 := back_step (V := 0) Hsum.out h2
            rw [Nat.zero_mul, Nat.add_zero, HPm.out] at h4
            rw [sum_shift_upd, sumL_succ (fun j => S1 (i + j)), bp_succ]
            exact h4
           have h5 := round_next Hhe.out h3 HG1.out hc1
           rw [HGg.out] at h5
           obtain ⟨bn, hbn⟩ : ∃ bn, 1 - c' = bn := ⟨_, rfl⟩
           rw [hbn] at h5
           have ec : IntKind.u64.wrap (1 - (c' : Int)) = (bn : Nat) := by rw [IntKind.wrap_u64]; omega
           have H5 := hid h5
           have Ho3 : Hid (∀ j, j < i \/ i + m < j -> upd S2 (i + m) r j = S j) := hid fun j hj => by rw [upd_other _ _ _ (by omega), Ho2.out j (by omega)]; exact Ho.out j hj
           have Hl3 := hid (upd_lt (k := i + m) Hl2.out hrl)
           have hb3 : bn <= 1 := by omega
           clear h3 h5 hbn gQ gP gT gB hr Hsum
           go_wp2_with fail
           clear e1 f1 j1 j2 ec hcx hfx hadd
           go_roundw
           case rel => exact ⟨G, bn, upd S2 (i + m) r, rfl, rfl, hb3, by have := Hgl.out; have := HGg.out; omega, HGq.out, H5.out, Ho3.out, Hl3.out, gQ1, gP1, gT1, gB1⟩
           case measure => have := HGg.out; have := HG1.out; simp [intOf] <;> omega
theorem over_any {x y : Nat} {va vb : Value} {w : World} (ha : Am w va x) (hb : Am w vb y) (hx : nl x < 50000) (hyn : nl y < 50000) (h0 : 0 < y) :
   Calls Tryz.prog 92 #[va, vb] w fun e w' => Up w w' /\ ∃ a n c b m d, e = .returned (.tuple #[.slice a n c, .slice b m d]) /\ Am w' (.slice a n c) (x / y) /\ Am w' (.slice b m d) (x % y) := by
 rcases (show nl y = 1 \/ 2 <= nl y by have := nl_pos h0; omega) with h1 | h2
 ·exact over_am ha hb (by omega) h1
 ·by_cases hlt : x < y
  ·obtain ⟨a, ca, rfl, hca1, hca0⟩ := ha.open
   obtain ⟨b, cb, rfl, hcb1, hcb0⟩ := hb.open
   have HC := hid (fun w' (h : Up w w') => cmp_am (ha.up h) (hb.up h) (by omega) (by omega))
   have hA := hid ha
   have e1 : x / y = 0 := Nat.div_eq_of_lt hlt
   have e2 : x % y = x := Nat.mod_eq_of_lt hlt
   have d1 : decide (ordZ x y < 0) = true := by unfold ordZ; rw [if_pos hlt]; rfl
   rw [e1, e2]
   clear ha hb e1 e2 hca0 hcb0 h2
   go_enter Tryz.func92, Tryz.ntmps92
   go_wp2_with (first | (go_at_call 58; (with_reducible refine (HC.out _ gUp).mono ?_); rintro e wC ⟨rfl, huC⟩))
   go_ret2
   exact ⟨gUp, _, _, _, _, _, _, rfl, am_nil _, hA.out.up huC⟩
  ·exact over_long ha hb hx (by omega) h2
set_option maxHeartbeats 1000000 in
theorem div_pm2 (p q : Bool) (X Y : Nat) (a b : Option Addr) (ca cb : Nat) (w : World) (hA : Am w (.slice a (nl X) ca) X) (hB : Am w (.slice b (nl Y) cb) Y) (hx : nl X < 50000) (hyn : nl Y < 50000) (hy : 0 < Y) :
   Calls Tryz.prog 84 #[.agg #[.bool p, .slice a (nl X) ca], .agg #[.bool q, .slice b (nl Y) cb]] w fun e w' => Up w w' /\ ∃ b1 a1 n1 c1 b2 a2 n2 c2, e = .returned (.tuple #[.agg #[.bool b1, .slice a1 n1 c1], .agg #[.bool b2, .slice a2 n2 c2]]) /\ Big w' (.agg #[.bool b1, .slice a1 n1 c1]) ((pm p X).tdiv (pm q Y)) /\ Big w' (.agg #[.bool b2, .slice a2 n2 c2]) ((pm p X).tmod (pm q Y)) := by
 rw [pm_quo, pm_rest]
 have HO := hid (fun w' (h : Up w w') => over_any (hA.up h) (hB.up h) hx hyn hy)
 clear hy hA hB
 generalize nl X = n at *
 generalize nl Y = m at *
 go_enter Tryz.func84, Tryz.ntmps84
 go_wp2_with (first | (go_at_call 92; (with_reducible refine (HO.out _ gUp).mono ?_); rintro e wO ⟨huO, a1, n1, c1, a2, n2, c2, rfl, hQ, hR⟩))
 obtain ⟨a1', c1', he1⟩ := hQ.shape
 obtain ⟨rfl, rfl, rfl⟩ : a1 = a1' /\ n1 = nl (X / Y) /\ c1 = c1' := by simpa using he1
 obtain ⟨a2', c2', he2⟩ := hR.shape
 obtain ⟨rfl, rfl, rfl⟩ : a2 = a2' /\ n2 = nl (X % Y) /\ c2 = c2' := by simpa using he2
 clear he1 he2
 refine opU (S := (fun wq => Blk wq (w.heap.size + 1 + 1) 59 #[.bool false, .slice none 0 0] /\ Blk wq (w.heap.size + 1 + 1 + 1) 59 #[.bool false, .slice none 0 0] /\ wq.cell? ⟨w.heap.size, 0, none⟩ = some (.bool p) /\ wq.cell? ⟨w.heap.size + 1, 0, none⟩ = some (.bool q) /\ Am wq (.slice a1 (nl (X / Y)) c1) (X / Y) /\ Am wq (.slice a2 (nl (X % Y)) c2) (X % Y) /\ Below w.heap.size w wq)) (req := (fun j => j != 11 && j != 12)) (fun _ _ h hu => ⟨(h.1).up hu, (h.2.1).up hu, hu.cell (h.2.2.1), hu.cell (h.2.2.2.1), (h.2.2.2.2.1).up hu, (h.2.2.2.2.2.1).up hu, below_up (h.2.2.2.2.2.2) hu⟩) ⟨gBlk, gBlk, (by first | assumption | (apply Blk.cell; exact gBlk; exact rfl)), (by first | assumption | (apply Blk.cell; exact gBlk; exact rfl)), (by (repeat (first | assumption | ((with_reducible apply am_set); exact gBlk) | (with_reducible apply am_alloc) | ((with_reducible apply am_up); assumption))); done), (by (repeat (first | assumption | ((with_reducible apply am_set); exact gBlk) | (with_reducible apply am_alloc) | ((with_reducible apply am_up); assumption))); done), gUp⟩ (fun wS hSS hSu => ?_)
 have ⟨hS1, hS2, hS3, hS4, hS5, hS6, hSB⟩ := hSS
 refine tkP 0 (some 16) hSu ?_
 refine tkT 1 (some 17) rfl hSu hSS ?_ (hy := fun w' hSw => by ((try dsimp only at hSw); (try obtain ⟨_, _, _, _, _, _, _⟩ := hSw); go_simp; (try exact rfl)))
 refine tkP 2 (some 18) hSu ?_
 refine tkT 3 (some 19) rfl hSu hSS ?_ (hy := fun w' hSw => by ((try dsimp only at hSw); (try obtain ⟨_, _, _, _, _, _, _⟩ := hSw); go_simp; (try exact rfl)))
 refine tkP 4 (some 20) hSu ?_
 refine tkP 5 (some 21) hSu ?_
 refine tkC 6 (some 22) rfl hSu hSS ?_ (hy := fun w' hSw => (made_any (!(p == q)) a1 (nl (X / Y)) c1 w'))
 refine tkP 7 (some 23) hSu ?_
 refine tkT 8 (some 24) rfl hSu hSS ?_ (hy := fun w' hSw => by ((try dsimp only at hSw); (try obtain ⟨_, _, _, _, _, _, _⟩ := hSw); go_simp; (try exact rfl)))
 refine tkP 9 (some 25) hSu ?_
 refine tkC 10 (some 26) rfl hSu hSS ?_ (hy := fun w' hSw => (made_any p a2 (nl (X % Y)) c2 w'))
 refine wpAnyU_one (i := 11) rfl (by kernel_rfl) (by rfl) fun w2 hw2 => ?_
 have k1 := hS1.up hw2
 refine wp_stB rfl rfl rfl rfl k1 rfl rfl (one2 _ _ _ _) ?_
 refine ⟨fun h => by simp at h, ?_⟩
 try simp only [Act.put, pu1]
 refine wpAnyU_one (i := 12) rfl (by kernel_rfl) (by rfl) fun w3 hw3 => ?_
 have k2 := ((hS2.up hw2).row_other (#[.bool (!(p == q) && decide (0 < nl (X / Y))), .slice a1 (nl (X / Y)) c1]) (show w.heap.size + 1 + 1 + 1 ≠ w.heap.size + 1 + 1 by omega)).up hw3
 refine wp_stB rfl rfl rfl rfl k2 rfl rfl (one2 _ _ _ _) ?_
 refine ⟨fun h => by simp at h, ?_⟩
 try simp only [Act.put, pu1]
 refine wpAnyU_done (by kernel_rfl) (fun wF huE => ?_) _
 have j1 := ((k1.setRow (#[.bool (!(p == q) && decide (0 < nl (X / Y))), .slice a1 (nl (X / Y)) c1])).up hw3).row_other (#[.bool (p && decide (0 < nl (X % Y))), .slice a2 (nl (X % Y)) c2]) (show w.heap.size + 1 + 1 ≠ w.heap.size + 1 + 1 + 1 by omega)
 have j2 := k2.setRow (#[.bool (p && decide (0 < nl (X % Y))), .slice a2 (nl (X % Y)) c2])
 have gQ := big_made (!(p == q)) (((((hS5.up hw2).setRow (D := (#[.bool (!(p == q) && decide (0 < nl (X / Y))), .slice a1 (nl (X / Y)) c1])) k1).up hw3).setRow (D := (#[.bool (p && decide (0 < nl (X % Y))), .slice a2 (nl (X % Y)) c2])) k2).up huE)
 have gR := big_made p (((((hS6.up hw2).setRow (D := (#[.bool (!(p == q) && decide (0 < nl (X / Y))), .slice a1 (nl (X / Y)) c1])) k1).up hw3).setRow (D := (#[.bool (p && decide (0 < nl (X % Y))), .slice a2 (nl (X % Y)) c2])) k2).up huE)
 have gB := below_up (below_setRow (below_up (below_setRow (below_up hSB hw2) (show w.heap.size <= w.heap.size + 1 + 1 by omega) (#[.bool (!(p == q) && decide (0 < nl (X / Y))), .slice a1 (nl (X / Y)) c1])) hw3) (show w.heap.size <= w.heap.size + 1 + 1 + 1 by omega) (#[.bool (p && decide (0 < nl (X % Y))), .slice a2 (nl (X % Y)) c2])) huE
 have j1' := j1.up huE
 have j2' := j2.up huE
 clear k1 k2 j1 j2 hS1 hS2 hS3 hS4 hS5 hS6 hSB hSS hw2 hw3 huE hQ hR
 go_wp2
 exact bodyPost_ret (resBB rfl rfl rfl j1' j2' rfl rfl) rfl ⟨gB, _, _, _, _, _, _, _, _, rfl, gQ, gR⟩
theorem div_big2 {x y : Int} {va vb : Value} {w : World} (ha : Big w va x) (hb : Big w vb y) (hx : nl x.natAbs < 50000) (hyn : nl y.natAbs < 50000) (hy : 0 < y.natAbs) :
   Calls Tryz.prog 84 #[va, vb] w fun e w' => Up w w' /\ ∃ v, e = .returned v /\ ∃ b1 a1 n1 c1 b2 a2 n2 c2, v = .tuple #[.agg #[.bool b1, .slice a1 n1 c1], .agg #[.bool b2, .slice a2 n2 c2]] /\ Big w' (.agg #[.bool b1, .slice a1 n1 c1]) (x.tdiv y) /\ Big w' (.agg #[.bool b2, .slice a2 n2 c2]) (x.tmod y) := by
 obtain ⟨a, ca, rfl, hA⟩ := ha
 obtain ⟨b, cb, rfl, hB⟩ := hb
 have h := div_pm2 (decide (x < 0)) (decide (y < 0)) x.natAbs y.natAbs a b ca cb w hA hB hx hyn hy
 rw [<- pm_int, <- pm_int] at h
 refine h.mono ?_
 rintro e w' ⟨hu, b1, a1, n1, c1, b2, a2, n2, c2, rfl, h1, h2⟩
 exact ⟨hu, _, rfl, _, _, _, _, _, _, _, _, rfl, h1, h2⟩
end Go.Proofs.YtdpgpchcgmmklaaGreatDoor
