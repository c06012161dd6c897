import Derived.Test.YtdpgpchcgmmklaaGreatDoorPd
import Derived.DataShut
import Derived.Test.YtdpgpchcgmmklaaGreatDoorRows
import Derived.Test.YtdpgpchcgmmklaaGreatDoorTie
import Derived.ChangeSame
import Derived.ChangeVars
import Derived.JoinedOf
import Derived.RowKit
import Derived.RowKitTokens
import Derived.LaidLaws
import Derived.LaidHandle
import Derived.Stop.Joined
import Derived.ChangeMaps5
import Derived.SevenTiedAt
namespace Go.Proofs.YtdpgpchcgmmklaaGreatDoor
open Go Go.RowKit
set_option maxRecDepth 100000
theorem AM_bp14 {n : Nat} {l : List Int} (hR : rt n l = true) (i j : Nat) : (AM n l i j).natAbs < bp 14 := by
 have h1 := AM_abs hR i j
 have h2 := bp_mono (show 1 <= 14 by omega)
 rw [bp_succ 0, bp_zero] at h2
 omega
theorem unit_bp14 {k : Int} (hk : I64 k) (i j : Nat) : (unitM k i j).natAbs < bp 14 := by
 have h1 := unitM_abs hk i j
 have h2 := bp_mono (show 1 <= 14 by omega)
 rw [bp_succ 0, bp_zero] at h2
 omega
theorem less_bp14 {n : Nat} {l : List Int} {k : Int} (hR : rt n l = true) (hk : I64 k) (i j : Nat) : (AM n l i j - unitM k i j).natAbs < bp 14 := by
 have h0 := AM_abs hR i j
 have h1 := unitM_abs hk i j
 have h2 := bp_mono (show 1 <= 14 by omega)
 rw [bp_succ 0, bp_zero] at h2
 omega
theorem tri_call {v : Value} {n : Nat} {l : List Int} {w : World} (hm : Sm w v n l) (hR : rt n l = true) :
   Calls Tryz.prog 25 #[v] w (fun e w'' => Up w w'' /\ ∃ z, e = .returned z /\ (fun z w'' => Rz w'' z (triE n (AM n l))) z w'') :=
 (triangle_any hm hR).mono fun _ _ ⟨z, h1, h2, _, _, h3⟩ => ⟨h2, z, h1, h3.rz⟩
theorem one_call {n : Nat} {k : Int} (n8 : n <= 8) (hk : I64 k) (w : World) :
   Calls Tryz.prog 26 #[.int .i64 (n : Nat), .int .i64 k] w (fun e w'' => Up w w'' /\ ∃ z, e = .returned z /\ (fun z w'' => Rz w'' z (triE n (unitM k))) z w'') :=
 (ones_any n8 hk w).mono fun _ _ ⟨z, h1, h2, _, _, h3⟩ => ⟨h2, z, h1, h3.rz⟩
theorem less_call {va vb : Value} {n : Nat} {f g : Nat -> Nat -> Int} {w : World} (hA : Rz w va (triE n f)) (hB : Rz w vb (triE n g)) (n8 : n <= 8) (hf : ∀ i j, (f i j).natAbs < bp 14) (hg : ∀ i j, (g i j).natAbs < bp 14) :
   Calls Tryz.prog 24 #[va, vb] w (fun e w'' => Up w w'' /\ ∃ z, e = .returned z /\ (fun z w'' => Rz w'' z (triE n fun i j => f i j - g i j)) z w'') :=
 (blessy_any hA hB n8 hf hg).mono fun _ _ ⟨z, h1, h2, _, _, h3⟩ => ⟨h2, z, h1, h3.rz⟩
theorem def_call {vr : Value} {n : Nat} {V : Nat -> Nat -> Int} {w : World} (hR : Rz w vr (triE n V)) (h8 : n <= 8) (hV : ∀ i j, (V i j).natAbs <= bdM) (hs : Symm V) {D : Bool} (hD : dfB n V = D) :
   Calls Tryz.prog 23 #[vr] w (fun e w'' => Up w w'' /\ ∃ z, e = .returned z /\ (fun z _ => z = .bool D) z w'') :=
 (defb_any hR h8 hV hs).mono fun _ _ ⟨h1, h2⟩ => ⟨h2, _, h1, by rw [hD]⟩
theorem rt_call {v : Value} {N : Int} {l : List Int} {w : World} (h : Sm w v N l) :
   Calls Tryz.prog 22 #[v] w (fun e w'' => Up w w'' /\ ∃ z, e = .returned z /\ (fun z _ => z = .bool (rt N l)) z w'') :=
 (sright_any h).mono fun _ _ ⟨h1, h2⟩ => ⟨h2, _, h1, rfl⟩
set_option maxHeartbeats 16000000 in
theorem least_any {v : Value} {N : Int} {l : List Int} {k : Int} {w : World} (hm : Sm w v N l) (hk : I64 k) :
   Calls Tryz.prog 8 #[v, .int .i64 k] w fun r w' => r = .returned (.bool (lsV N l k)) /\ Up w w' := by
 have HR := hid (fun w' (hu : Up w w') => rt_call (hm.up hu))
 have HSm := hid hm
 obtain ⟨s0, rfl, ⟨p, cap, rfl, -, -⟩, -, -, -⟩ := hm
 cases hR : rt N l with
 | false =>
   rw [hR] at HR
   rw [show lsV N l k = false from by unfold lsV; rw [hR, Bool.false_and]]
   clear hR hk HSm
   go_enter Tryz.func8, Tryz.ntmps8
   go_wp2_with fail
   refine wp_folded (fun wd => Up w wd /\ Blk wd w.heap.size 24 #[.int .i64 N, .slice p l.length cap]) ⟨Up.alloc _ _, Blk.new _ _ rfl⟩ ?_
   rintro W1 ⟨hU1, hB1⟩
   obtain ⟨b0, hb0⟩ : ∃ y, w.heap.size = y := ⟨_, rfl⟩
   rw [hb0] at hB1 ⊢
   clear hb0
   refine wp_region_sg (n := 17) 13 [5, 6, 7, 8, 9, 10, 11, 12, 13, 14, 15, 16, 4] [SG.is (.agg #[.int .i64 N, .slice p l.length cap]), SG.is (.bool false), SG.tt false, SG.no, SG.no, SG.no, SG.no, SG.no, SG.no, SG.no, SG.no, SG.is (.bool false), SG.is (.bool false)] (fun wq => Blk wq b0 24 #[.int .i64 N, .slice p l.length cap] /\ Up w wq /\ Below w.heap.size w wq) (by kernel_rfl) (by rfl) (by kernel_rfl) (by kernel_rfl) (fun _ _ h hu => ⟨(h.1).up hu, (h.2.1).trans hu, below_up (h.2.2) hu⟩) ⟨(by first | assumption | exact gBlk), (by first | exact Up.refl _ | assumption), gUp⟩ (fun ev w9 hS9 i o hne hi hwt hev => ?_) (fun gR wE hq hSE huE => ?_)
   ·have ⟨hS1, hS2, hSB⟩ := hS9
    have hcC := hev.const
    have hcF := hev.func
    have hcG := hev.global
    rcases i with _ | _ | _ | _ | _ | _ | _ | _ | _ | _ | _ | _ | _ | i
    ·obtain rfl := oI hi
     have e2 := hev.other 2 (by kernel_rfl)
     simp [Act.eval] at e2
     exact leavesR_value (run_ldME rfl (by go_simp) hS1 rfl) rfl
    ·obtain rfl := oI hi
     have e5 : ev (.tmp 5) = (.agg #[.int .i64 N, .slice p l.length cap]) := hev.dep 0 5 (by kernel_rfl)
     refine leavesR_call ?_ (HR.out _ hS2)
     go_simp
    ·obtain rfl := oI hi
     have e6 : ev (.tmp 6) = (.bool false) := hev.dep 1 6 (by kernel_rfl)
     exact lV (.bool false)
    ·exact absurd hwt (Bool.eq_false_iff.1 (by kernel_rfl))
    ·exact absurd hwt (Bool.eq_false_iff.1 (by kernel_rfl))
    ·exact absurd hwt (Bool.eq_false_iff.1 (by kernel_rfl))
    ·exact absurd hwt (Bool.eq_false_iff.1 (by kernel_rfl))
    ·exact absurd hwt (Bool.eq_false_iff.1 (by kernel_rfl))
    ·exact absurd hwt (Bool.eq_false_iff.1 (by kernel_rfl))
    ·exact absurd hwt (Bool.eq_false_iff.1 (by kernel_rfl))
    ·exact absurd hwt (Bool.eq_false_iff.1 (by kernel_rfl))
    ·obtain rfl := oI hi
     have e7 : ev (.tmp 7) = (.bool false) := hev.dep 2 7 (by kernel_rfl)
     have e15 : ev (.tmp 15) = (undef) := hev.dep 10 15 (by kernel_rfl)
     exact lV (.bool false)
    ·obtain rfl := oI hi
     have e16 : ev (.tmp 16) = (.bool false) := hev.dep 11 16 (by kernel_rfl)
     exact lV (.bool false)
    ·exact absurd (show i + 13 < 13 from (Array.getElem?_eq_some_iff.1 hi).1) (by omega)
   have ⟨hS1, hS2, hSB⟩ := hSE
   have q0 : gR 5 = (.agg #[.int .i64 N, .slice p l.length cap]) := hq 0 5 (by decide) (by kernel_rfl)
   have q1 : gR 6 = (.bool false) := hq 1 6 (by decide) (by kernel_rfl)
   have q2 : gR 7 = (.bool false) := hq 2 7 (by decide) (by kernel_rfl)
   have q3 : gR 8 = (undef) := hq 3 8 (by decide) (by kernel_rfl)
   have q4 : gR 9 = (undef) := hq 4 9 (by decide) (by kernel_rfl)
   have q5 : gR 10 = (undef) := hq 5 10 (by decide) (by kernel_rfl)
   have q6 : gR 11 = (undef) := hq 6 11 (by decide) (by kernel_rfl)
   have q7 : gR 12 = (undef) := hq 7 12 (by decide) (by kernel_rfl)
   have q8 : gR 13 = (undef) := hq 8 13 (by decide) (by kernel_rfl)
   have q9 : gR 14 = (undef) := hq 9 14 (by decide) (by kernel_rfl)
   have q10 : gR 15 = (undef) := hq 10 15 (by decide) (by kernel_rfl)
   have q11 : gR 16 = (.bool false) := hq 11 16 (by decide) (by kernel_rfl)
   have q12 : gR 4 = (.bool false) := hq 12 4 (by decide) (by kernel_rfl)
   refine ⟨fun _ => ?_, fun o ho => by simp at ho⟩
   simp only [putL, List.map_cons, List.map_nil, q0, q1, q2, q3, q4, q5, q6, q7, q8, q9, q10, q11, q12, Act.put, pu1, pu2, pu3]
   clear hq hSE q0 q1 q2 q3 q4 q5 q6 q7 q8 q9 q10 q11 q12
   go_wp2_with fail
   go_ret
   exact ⟨rfl, hS2⟩
 | true =>
   rw [hR] at HR
   obtain ⟨n, rfl, n8⟩ := rt_ofN hR
   have HT := hid (fun w' (hu : Up w w') => tri_call (HSm.out.up hu) hR)
   have HO := hid (fun w => one_call n8 hk w)
   have HL := hid (fun w' va vb (ha : Rz w' va (triE n (AM n l))) (hb : Rz w' vb (triE n (unitM k))) => less_call ha hb n8 (AM_bp14 hR) (unit_bp14 hk))
   obtain ⟨D, hD⟩ : ∃ D, lsV n l k = D := ⟨_, rfl⟩
   have hD2 : dfB n (lsM n l k) = D := by rw [<- hD]; unfold lsV; rw [hR, Bool.true_and]; rfl
   have HD := hid (fun w' vr (h : Rz w' vr (triE n (lsM n l k))) => def_call h n8 (lsM_abs hR hk) (lsM_symm n l k) hD2)
   rw [hD]
   clear hR hk HSm hD hD2
   go_enter Tryz.func8, Tryz.ntmps8
   go_wp2_with fail
   refine wp_folded (fun wd => Up w wd /\ Blk wd w.heap.size 24 #[.int .i64 (n : Int), .slice p l.length cap]) ⟨Up.alloc _ _, Blk.new _ _ rfl⟩ ?_
   rintro W1 ⟨hU1, hB1⟩
   obtain ⟨b0, hb0⟩ : ∃ y, w.heap.size = y := ⟨_, rfl⟩
   rw [hb0] at hB1 ⊢
   clear hb0
   refine wp_region_sg (n := 17) 13 [5, 6, 7, 8, 9, 10, 11, 12, 13, 14, 15, 16, 4] [SG.is (.agg #[.int .i64 (n : Int), .slice p l.length cap]), SG.is (.bool true), SG.tt true, SG.is (.agg #[.int .i64 (n : Int), .slice p l.length cap]), SG.of (fun v w1 => Rz w1 v (triE n (AM n l))) (fun _ _ _ h hu => Rz.up hu h), SG.is (.pointer (some ⟨b0, 0, none⟩)), SG.is (.int .i64 (n : Nat)), SG.is (.int .i64 k), SG.of (fun v w1 => Rz w1 v (triE n (unitM k))) (fun _ _ _ h hu => Rz.up hu h), SG.of (fun v w1 => Rz w1 v (triE n (lsM n l k))) (fun _ _ _ h hu => Rz.up hu h), SG.is (.bool D), SG.is (.bool D), SG.is (.bool D)] (fun wq => Blk wq b0 24 #[.int .i64 (n : Int), .slice p l.length cap] /\ Up w wq /\ Below w.heap.size w wq) (by kernel_rfl) (by rfl) (by kernel_rfl) (by kernel_rfl) (fun _ _ h hu => ⟨(h.1).up hu, (h.2.1).trans hu, below_up (h.2.2) hu⟩) ⟨(by first | assumption | exact gBlk), (by first | exact Up.refl _ | assumption), gUp⟩ (fun ev w9 hS9 i o hne hi hwt hev => ?_) (fun gR wE hq hSE huE => ?_)
   ·have ⟨hS1, hS2, hSB⟩ := hS9
    have hcC := hev.const
    have hcF := hev.func
    have hcG := hev.global
    rcases i with _ | _ | _ | _ | _ | _ | _ | _ | _ | _ | _ | _ | _ | i
    ·obtain rfl := oI hi
     have e2 := hev.other 2 (by kernel_rfl)
     simp [Act.eval] at e2
     exact leavesR_value (run_ldME rfl (by go_simp) hS1 rfl) rfl
    ·obtain rfl := oI hi
     have e5 : ev (.tmp 5) = (.agg #[.int .i64 (n : Int), .slice p l.length cap]) := hev.dep 0 5 (by kernel_rfl)
     refine leavesR_call ?_ (HR.out _ hS2)
     go_simp
    ·obtain rfl := oI hi
     have e6 : ev (.tmp 6) = (.bool true) := hev.dep 1 6 (by kernel_rfl)
     exact lV (.bool true)
    ·obtain rfl := oI hi
     have e2 := hev.other 2 (by kernel_rfl)
     simp [Act.eval] at e2
     exact leavesR_value (run_ldME rfl (by go_simp) hS1 rfl) rfl
    ·obtain rfl := oI hi
     have e8 : ev (.tmp 8) = (.agg #[.int .i64 (n : Int), .slice p l.length cap]) := hev.dep 3 8 (by kernel_rfl)
     refine leavesR_call ?_ (HT.out _ hS2)
     go_simp
    ·obtain rfl := oI hi
     have e2 := hev.other 2 (by kernel_rfl)
     simp [Act.eval] at e2
     exact lV (.pointer (some ⟨b0, 0, none⟩))
    ·obtain rfl := oI hi
     have e10 : ev (.tmp 10) = (.pointer (some ⟨b0, 0, none⟩)) := hev.dep 5 10 (by kernel_rfl)
     have hcx := hS1.cell 0 rfl; exact leavesR_value (u := .int .i64 (n : Nat)) (by go_simp) rfl
    ·obtain rfl := oI hi
     have e1 := hev.other 1 (by kernel_rfl)
     simp [Act.eval] at e1
     exact lV (.int .i64 k)
    ·obtain rfl := oI hi
     have e11 : ev (.tmp 11) = (.int .i64 (n : Nat)) := hev.dep 6 11 (by kernel_rfl)
     have e12 : ev (.tmp 12) = (.int .i64 k) := hev.dep 7 12 (by kernel_rfl)
     refine leavesR_call ?_ (HO.out _)
     go_simp
    ·obtain rfl := oI hi
     have e9 : (fun v w1 => Rz w1 v (triE n (AM n l))) (ev (.tmp 9)) w9 := hev.dep 4 9 (by kernel_rfl)
     dsimp only at e9
     obtain ⟨v9, hv9⟩ : ∃ v, ev (.tmp 9) = v := ⟨_, rfl⟩
     rw [hv9] at e9
     have e13 : (fun v w1 => Rz w1 v (triE n (unitM k))) (ev (.tmp 13)) w9 := hev.dep 8 13 (by kernel_rfl)
     dsimp only at e13
     obtain ⟨v13, hv13⟩ : ∃ v, ev (.tmp 13) = v := ⟨_, rfl⟩
     rw [hv13] at e13
     refine leavesR_call ?_ (HL.out _ _ _ e9 e13)
     go_simp
    ·obtain rfl := oI hi
     have e14 : (fun v w1 => Rz w1 v (triE n (lsM n l k))) (ev (.tmp 14)) w9 := hev.dep 9 14 (by kernel_rfl)
     dsimp only at e14
     obtain ⟨v14, hv14⟩ : ∃ v, ev (.tmp 14) = v := ⟨_, rfl⟩
     rw [hv14] at e14
     refine leavesR_call ?_ (HD.out _ _ e14)
     go_simp
    ·obtain rfl := oI hi
     have e7 : ev (.tmp 7) = (.bool true) := hev.dep 2 7 (by kernel_rfl)
     have e15 : ev (.tmp 15) = (.bool D) := hev.dep 10 15 (by kernel_rfl)
     exact lV (.bool D)
    ·obtain rfl := oI hi
     have e16 : ev (.tmp 16) = (.bool D) := hev.dep 11 16 (by kernel_rfl)
     exact lV (.bool D)
    ·exact absurd (show i + 13 < 13 from (Array.getElem?_eq_some_iff.1 hi).1) (by omega)
   have ⟨hS1, hS2, hSB⟩ := hSE
   have q0 : gR 5 = (.agg #[.int .i64 (n : Int), .slice p l.length cap]) := hq 0 5 (by decide) (by kernel_rfl)
   have q1 : gR 6 = (.bool true) := hq 1 6 (by decide) (by kernel_rfl)
   have q2 : gR 7 = (.bool true) := hq 2 7 (by decide) (by kernel_rfl)
   have q3 : gR 8 = (.agg #[.int .i64 (n : Int), .slice p l.length cap]) := hq 3 8 (by decide) (by kernel_rfl)
   have q4 : (fun v w1 => Rz w1 v (triE n (AM n l))) (gR 9) wE := hq 4 9 (by decide) (by kernel_rfl)
   dsimp only at q4
   obtain ⟨v9, hv9⟩ : ∃ v, gR 9 = v := ⟨_, rfl⟩
   rw [hv9] at q4
   have q5 : gR 10 = (.pointer (some ⟨b0, 0, none⟩)) := hq 5 10 (by decide) (by kernel_rfl)
   have q6 : gR 11 = (.int .i64 (n : Nat)) := hq 6 11 (by decide) (by kernel_rfl)
   have q7 : gR 12 = (.int .i64 k) := hq 7 12 (by decide) (by kernel_rfl)
   have q8 : (fun v w1 => Rz w1 v (triE n (unitM k))) (gR 13) wE := hq 8 13 (by decide) (by kernel_rfl)
   dsimp only at q8
   obtain ⟨v13, hv13⟩ : ∃ v, gR 13 = v := ⟨_, rfl⟩
   rw [hv13] at q8
   have q9 : (fun v w1 => Rz w1 v (triE n (lsM n l k))) (gR 14) wE := hq 9 14 (by decide) (by kernel_rfl)
   dsimp only at q9
   obtain ⟨v14, hv14⟩ : ∃ v, gR 14 = v := ⟨_, rfl⟩
   rw [hv14] at q9
   have q10 : gR 15 = (.bool D) := hq 10 15 (by decide) (by kernel_rfl)
   have q11 : gR 16 = (.bool D) := hq 11 16 (by decide) (by kernel_rfl)
   have q12 : gR 4 = (.bool D) := hq 12 4 (by decide) (by kernel_rfl)
   refine ⟨fun _ => ?_, fun o ho => by simp at ho⟩
   simp only [putL, List.map_cons, List.map_nil, q0, q1, q2, q3, hv9, q5, q6, q7, hv13, hv14, q10, q11, q12, Act.put, pu1, pu2, pu3]
   clear hq hSE q0 q1 q2 q3 q5 q6 q7 q10 q11 q12
   go_wp2_with fail
   go_ret
   exact ⟨rfl, hS2⟩
set_option maxHeartbeats 16000000 in
theorem most_any {v : Value} {N : Int} {l : List Int} {k : Int} {w : World} (hm : Sm w v N l) (hk : I64 k) :
   Calls Tryz.prog 10 #[v, .int .i64 k] w fun r w' => r = .returned (.bool (msV N l k)) /\ Up w w' := by
 have HR := hid (fun w' (hu : Up w w') => rt_call (hm.up hu))
 have HSm := hid hm
 obtain ⟨s0, rfl, ⟨p, cap, rfl, -, -⟩, -, -, -⟩ := hm
 cases hR : rt N l with
 | false =>
   rw [hR] at HR
   rw [show msV N l k = false from by unfold msV; rw [hR, Bool.false_and]]
   clear hR hk HSm
   go_enter Tryz.func10, Tryz.ntmps10
   go_wp2_with fail
   refine wp_folded (fun wd => Up w wd /\ Blk wd w.heap.size 24 #[.int .i64 N, .slice p l.length cap]) ⟨Up.alloc _ _, Blk.new _ _ rfl⟩ ?_
   rintro W1 ⟨hU1, hB1⟩
   obtain ⟨b0, hb0⟩ : ∃ y, w.heap.size = y := ⟨_, rfl⟩
   rw [hb0] at hB1 ⊢
   clear hb0
   refine wp_region_sg (n := 17) 13 [5, 6, 7, 8, 9, 10, 11, 12, 13, 14, 15, 16, 4] [SG.is (.agg #[.int .i64 N, .slice p l.length cap]), SG.is (.bool false), SG.tt false, SG.no, SG.no, SG.no, SG.no, SG.no, SG.no, SG.no, SG.no, SG.is (.bool false), SG.is (.bool false)] (fun wq => Blk wq b0 24 #[.int .i64 N, .slice p l.length cap] /\ Up w wq /\ Below w.heap.size w wq) (by kernel_rfl) (by rfl) (by kernel_rfl) (by kernel_rfl) (fun _ _ h hu => ⟨(h.1).up hu, (h.2.1).trans hu, below_up (h.2.2) hu⟩) ⟨(by first | assumption | exact gBlk), (by first | exact Up.refl _ | assumption), gUp⟩ (fun ev w9 hS9 i o hne hi hwt hev => ?_) (fun gR wE hq hSE huE => ?_)
   ·have ⟨hS1, hS2, hSB⟩ := hS9
    have hcC := hev.const
    have hcF := hev.func
    have hcG := hev.global
    rcases i with _ | _ | _ | _ | _ | _ | _ | _ | _ | _ | _ | _ | _ | i
    ·obtain rfl := oI hi
     have e2 := hev.other 2 (by kernel_rfl)
     simp [Act.eval] at e2
     exact leavesR_value (run_ldME rfl (by go_simp) hS1 rfl) rfl
    ·obtain rfl := oI hi
     have e5 : ev (.tmp 5) = (.agg #[.int .i64 N, .slice p l.length cap]) := hev.dep 0 5 (by kernel_rfl)
     refine leavesR_call ?_ (HR.out _ hS2)
     go_simp
    ·obtain rfl := oI hi
     have e6 : ev (.tmp 6) = (.bool false) := hev.dep 1 6 (by kernel_rfl)
     exact lV (.bool false)
    ·exact absurd hwt (Bool.eq_false_iff.1 (by kernel_rfl))
    ·exact absurd hwt (Bool.eq_false_iff.1 (by kernel_rfl))
    ·exact absurd hwt (Bool.eq_false_iff.1 (by kernel_rfl))
    ·exact absurd hwt (Bool.eq_false_iff.1 (by kernel_rfl))
    ·exact absurd hwt (Bool.eq_false_iff.1 (by kernel_rfl))
    ·exact absurd hwt (Bool.eq_false_iff.1 (by kernel_rfl))
    ·exact absurd hwt (Bool.eq_false_iff.1 (by kernel_rfl))
    ·exact absurd hwt (Bool.eq_false_iff.1 (by kernel_rfl))
    ·obtain rfl := oI hi
     have e7 : ev (.tmp 7) = (.bool false) := hev.dep 2 7 (by kernel_rfl)
     have e15 : ev (.tmp 15) = (undef) := hev.dep 10 15 (by kernel_rfl)
     exact lV (.bool false)
    ·obtain rfl := oI hi
     have e16 : ev (.tmp 16) = (.bool false) := hev.dep 11 16 (by kernel_rfl)
     exact lV (.bool false)
    ·exact absurd (show i + 13 < 13 from (Array.getElem?_eq_some_iff.1 hi).1) (by omega)
   have ⟨hS1, hS2, hSB⟩ := hSE
   have q0 : gR 5 = (.agg #[.int .i64 N, .slice p l.length cap]) := hq 0 5 (by decide) (by kernel_rfl)
   have q1 : gR 6 = (.bool false) := hq 1 6 (by decide) (by kernel_rfl)
   have q2 : gR 7 = (.bool false) := hq 2 7 (by decide) (by kernel_rfl)
   have q3 : gR 8 = (undef) := hq 3 8 (by decide) (by kernel_rfl)
   have q4 : gR 9 = (undef) := hq 4 9 (by decide) (by kernel_rfl)
   have q5 : gR 10 = (undef) := hq 5 10 (by decide) (by kernel_rfl)
   have q6 : gR 11 = (undef) := hq 6 11 (by decide) (by kernel_rfl)
   have q7 : gR 12 = (undef) := hq 7 12 (by decide) (by kernel_rfl)
   have q8 : gR 13 = (undef) := hq 8 13 (by decide) (by kernel_rfl)
   have q9 : gR 14 = (undef) := hq 9 14 (by decide) (by kernel_rfl)
   have q10 : gR 15 = (undef) := hq 10 15 (by decide) (by kernel_rfl)
   have q11 : gR 16 = (.bool false) := hq 11 16 (by decide) (by kernel_rfl)
   have q12 : gR 4 = (.bool false) := hq 12 4 (by decide) (by kernel_rfl)
   refine ⟨fun _ => ?_, fun o ho => by simp at ho⟩
   simp only [putL, List.map_cons, List.map_nil, q0, q1, q2, q3, q4, q5, q6, q7, q8, q9, q10, q11, q12, Act.put, pu1, pu2, pu3]
   clear hq hSE q0 q1 q2 q3 q4 q5 q6 q7 q8 q9 q10 q11 q12
   go_wp2_with fail
   go_ret
   exact ⟨rfl, hS2⟩
 | true =>
   rw [hR] at HR
   obtain ⟨n, rfl, n8⟩ := rt_ofN hR
   have HT := hid (fun w' (hu : Up w w') => tri_call (HSm.out.up hu) hR)
   have HO := hid (fun w => one_call n8 hk w)
   have HL := hid (fun w' va vb (ha : Rz w' va (triE n (unitM k))) (hb : Rz w' vb (triE n (AM n l))) => less_call ha hb n8 (unit_bp14 hk) (AM_bp14 hR))
   obtain ⟨D, hD⟩ : ∃ D, msV n l k = D := ⟨_, rfl⟩
   have hD2 : dfB n (msM n l k) = D := by rw [<- hD]; unfold msV; rw [hR, Bool.true_and]; rfl
   have HD := hid (fun w' vr (h : Rz w' vr (triE n (msM n l k))) => def_call h n8 (msM_abs hR hk) (msM_symm n l k) hD2)
   rw [hD]
   clear hR hk HSm hD hD2
   go_enter Tryz.func10, Tryz.ntmps10
   go_wp2_with fail
   refine wp_folded (fun wd => Up w wd /\ Blk wd w.heap.size 24 #[.int .i64 (n : Int), .slice p l.length cap]) ⟨Up.alloc _ _, Blk.new _ _ rfl⟩ ?_
   rintro W1 ⟨hU1, hB1⟩
   obtain ⟨b0, hb0⟩ : ∃ y, w.heap.size = y := ⟨_, rfl⟩
   rw [hb0] at hB1 ⊢
   clear hb0
   refine wp_region_sg (n := 17) 13 [5, 6, 7, 8, 9, 10, 11, 12, 13, 14, 15, 16, 4] [SG.is (.agg #[.int .i64 (n : Int), .slice p l.length cap]), SG.is (.bool true), SG.tt true, SG.is (.pointer (some ⟨b0, 0, none⟩)), SG.is (.int .i64 (n : Nat)), SG.is (.int .i64 k), SG.of (fun v w1 => Rz w1 v (triE n (unitM k))) (fun _ _ _ h hu => Rz.up hu h), SG.is (.agg #[.int .i64 (n : Int), .slice p l.length cap]), SG.of (fun v w1 => Rz w1 v (triE n (AM n l))) (fun _ _ _ h hu => Rz.up hu h), SG.of (fun v w1 => Rz w1 v (triE n (msM n l k))) (fun _ _ _ h hu => Rz.up hu h), SG.is (.bool D), SG.is (.bool D), SG.is (.bool D)] (fun wq => Blk wq b0 24 #[.int .i64 (n : Int), .slice p l.length cap] /\ Up w wq /\ Below w.heap.size w wq) (by kernel_rfl) (by rfl) (by kernel_rfl) (by kernel_rfl) (fun _ _ h hu => ⟨(h.1).up hu, (h.2.1).trans hu, below_up (h.2.2) hu⟩) ⟨(by first | assumption | exact gBlk), (by first | exact Up.refl _ | assumption), gUp⟩ (fun ev w9 hS9 i o hne hi hwt hev => ?_) (fun gR wE hq hSE huE => ?_)
   ·have ⟨hS1, hS2, hSB⟩ := hS9
    have hcC := hev.const
    have hcF := hev.func
    have hcG := hev.global
    rcases i with _ | _ | _ | _ | _ | _ | _ | _ | _ | _ | _ | _ | _ | i
    ·obtain rfl := oI hi
     have e2 := hev.other 2 (by kernel_rfl)
     simp [Act.eval] at e2
     exact leavesR_value (run_ldME rfl (by go_simp) hS1 rfl) rfl
    ·obtain rfl := oI hi
     have e5 : ev (.tmp 5) = (.agg #[.int .i64 (n : Int), .slice p l.length cap]) := hev.dep 0 5 (by kernel_rfl)
     refine leavesR_call ?_ (HR.out _ hS2)
     go_simp
    ·obtain rfl := oI hi
     have e6 : ev (.tmp 6) = (.bool true) := hev.dep 1 6 (by kernel_rfl)
     exact lV (.bool true)
    ·obtain rfl := oI hi
     have e2 := hev.other 2 (by kernel_rfl)
     simp [Act.eval] at e2
     exact lV (.pointer (some ⟨b0, 0, none⟩))
    ·obtain rfl := oI hi
     have e8 : ev (.tmp 8) = (.pointer (some ⟨b0, 0, none⟩)) := hev.dep 3 8 (by kernel_rfl)
     have hcx := hS1.cell 0 rfl; exact leavesR_value (u := .int .i64 (n : Nat)) (by go_simp) rfl
    ·obtain rfl := oI hi
     have e1 := hev.other 1 (by kernel_rfl)
     simp [Act.eval] at e1
     exact lV (.int .i64 k)
    ·obtain rfl := oI hi
     have e9 : ev (.tmp 9) = (.int .i64 (n : Nat)) := hev.dep 4 9 (by kernel_rfl)
     have e10 : ev (.tmp 10) = (.int .i64 k) := hev.dep 5 10 (by kernel_rfl)
     refine leavesR_call ?_ (HO.out _)
     go_simp
    ·obtain rfl := oI hi
     have e2 := hev.other 2 (by kernel_rfl)
     simp [Act.eval] at e2
     exact leavesR_value (run_ldME rfl (by go_simp) hS1 rfl) rfl
    ·obtain rfl := oI hi
     have e12 : ev (.tmp 12) = (.agg #[.int .i64 (n : Int), .slice p l.length cap]) := hev.dep 7 12 (by kernel_rfl)
     refine leavesR_call ?_ (HT.out _ hS2)
     go_simp
    ·obtain rfl := oI hi
     have e11 : (fun v w1 => Rz w1 v (triE n (unitM k))) (ev (.tmp 11)) w9 := hev.dep 6 11 (by kernel_rfl)
     dsimp only at e11
     obtain ⟨v11, hv11⟩ : ∃ v, ev (.tmp 11) = v := ⟨_, rfl⟩
     rw [hv11] at e11
     have e13 : (fun v w1 => Rz w1 v (triE n (AM n l))) (ev (.tmp 13)) w9 := hev.dep 8 13 (by kernel_rfl)
     dsimp only at e13
     obtain ⟨v13, hv13⟩ : ∃ v, ev (.tmp 13) = v := ⟨_, rfl⟩
     rw [hv13] at e13
     refine leavesR_call ?_ (HL.out _ _ _ e11 e13)
     go_simp
    ·obtain rfl := oI hi
     have e14 : (fun v w1 => Rz w1 v (triE n (msM n l k))) (ev (.tmp 14)) w9 := hev.dep 9 14 (by kernel_rfl)
     dsimp only at e14
     obtain ⟨v14, hv14⟩ : ∃ v, ev (.tmp 14) = v := ⟨_, rfl⟩
     rw [hv14] at e14
     refine leavesR_call ?_ (HD.out _ _ e14)
     go_simp
    ·obtain rfl := oI hi
     have e7 : ev (.tmp 7) = (.bool true) := hev.dep 2 7 (by kernel_rfl)
     have e15 : ev (.tmp 15) = (.bool D) := hev.dep 10 15 (by kernel_rfl)
     exact lV (.bool D)
    ·obtain rfl := oI hi
     have e16 : ev (.tmp 16) = (.bool D) := hev.dep 11 16 (by kernel_rfl)
     exact lV (.bool D)
    ·exact absurd (show i + 13 < 13 from (Array.getElem?_eq_some_iff.1 hi).1) (by omega)
   have ⟨hS1, hS2, hSB⟩ := hSE
   have q0 : gR 5 = (.agg #[.int .i64 (n : Int), .slice p l.length cap]) := hq 0 5 (by decide) (by kernel_rfl)
   have q1 : gR 6 = (.bool true) := hq 1 6 (by decide) (by kernel_rfl)
   have q2 : gR 7 = (.bool true) := hq 2 7 (by decide) (by kernel_rfl)
   have q3 : gR 8 = (.pointer (some ⟨b0, 0, none⟩)) := hq 3 8 (by decide) (by kernel_rfl)
   have q4 : gR 9 = (.int .i64 (n : Nat)) := hq 4 9 (by decide) (by kernel_rfl)
   have q5 : gR 10 = (.int .i64 k) := hq 5 10 (by decide) (by kernel_rfl)
   have q6 : (fun v w1 => Rz w1 v (triE n (unitM k))) (gR 11) wE := hq 6 11 (by decide) (by kernel_rfl)
   dsimp only at q6
   obtain ⟨v11, hv11⟩ : ∃ v, gR 11 = v := ⟨_, rfl⟩
   rw [hv11] at q6
   have q7 : gR 12 = (.agg #[.int .i64 (n : Int), .slice p l.length cap]) := hq 7 12 (by decide) (by kernel_rfl)
   have q8 : (fun v w1 => Rz w1 v (triE n (AM n l))) (gR 13) wE := hq 8 13 (by decide) (by kernel_rfl)
   dsimp only at q8
   obtain ⟨v13, hv13⟩ : ∃ v, gR 13 = v := ⟨_, rfl⟩
   rw [hv13] at q8
   have q9 : (fun v w1 => Rz w1 v (triE n (msM n l k))) (gR 14) wE := hq 9 14 (by decide) (by kernel_rfl)
   dsimp only at q9
   obtain ⟨v14, hv14⟩ : ∃ v, gR 14 = v := ⟨_, rfl⟩
   rw [hv14] at q9
   have q10 : gR 15 = (.bool D) := hq 10 15 (by decide) (by kernel_rfl)
   have q11 : gR 16 = (.bool D) := hq 11 16 (by decide) (by kernel_rfl)
   have q12 : gR 4 = (.bool D) := hq 12 4 (by decide) (by kernel_rfl)
   refine ⟨fun _ => ?_, fun o ho => by simp at ho⟩
   simp only [putL, List.map_cons, List.map_nil, q0, q1, q2, q3, q4, q5, hv11, q7, hv13, hv14, q10, q11, q12, Act.put, pu1, pu2, pu3]
   clear hq hSE q0 q1 q2 q3 q4 q5 q7 q10 q11 q12
   go_wp2_with fail
   go_ret
   exact ⟨rfl, hS2⟩
def boundB : ByteArray := ⟨#[98, 111, 117, 110, 100]⟩
def ErrsB (w : World) (u : Value) (e : Int) : Prop := (e = 0 /\ u = .nilIface) \/ (e ≠ 0 /\ ∃ t x, u = .iface t x /\ IsEr w u (.flt boundB (.num e)))
theorem bwrong_any (n : Int) (h0 : n ≠ 0) (w : World) :
   Calls Tryz.prog 34 #[.int .i64 n] w fun r w' => ∃ u, r = .returned u /\ Up w w' /\ ErrsB w' u n := by
 have HW := hid (fun w => wrap_any (op := { data := #[98, 111, 117, 110, 100] }) (v := .iface 66 (.int .i64 n)) (e := .num n) (w := w) rfl)
 go_enter Tryz.func34, Tryz.ntmps34
 go_wp2_with (first | (go_at_call 56; (with_reducible refine (HW.out _).mono ?_); rintro r w1 ⟨u1, rfl, hu1, h1⟩))
 go_ret
 obtain ⟨t, u, rfl⟩ := h1.iface
 exact ⟨_, rfl, hu1, .inr ⟨h0, t, u, rfl, h1⟩⟩
set_option maxHeartbeats 8000000 in
theorem between_any {v : Value} {N : Int} {l : List Int} {x y : Int} {w : World} (hm : Sm w v N l) (hx : I64 x) (hy : I64 y) :
   Calls Tryz.prog 13 #[v, .int .i64 x, .int .i64 y] w fun r w' => ∃ u, r = .returned u /\ Up w w' /\ ErrsB w' u (btC N l x y) := by
 have HR := hid (fun w' (hu : Up w w') => sright_any (hm.up hu))
 have HL := hid (fun w' (hu : Up w w') => least_any (hm.up hu) hx)
 have HM := hid (fun w' (hu : Up w w') => most_any (hm.up hu) hy)
 have H23 := hid (fun w => bwrong_any 23 (by decide) w)
 have H30 := hid (fun w => bwrong_any 30 (by decide) w)
 have H31 := hid (fun w => bwrong_any 31 (by decide) w)
 obtain ⟨s0, rfl, ⟨p, cap, rfl, -, -⟩, -, -, -⟩ := hm
 obtain ⟨W0, hW0⟩ : ∃ W0, w.alloc (.cells #[.int .i64 N, .slice p l.length cap] 24) = W0 := ⟨_, rfl⟩
 have hB : Blk W0 w.heap.size 24 #[.int .i64 N, .slice p l.length cap] := by rw [<- hW0]; exact Blk.new _ _ rfl
 have hU : Up w W0 := by rw [<- hW0]; exact Up.alloc _ _
 have HC : Hid (btC N l x y = if rt N l = true then (if lsV N l x = true then (if msV N l y = true then 0 else 31) else 30) else 23) := hid rfl
 obtain ⟨C, hC⟩ : ∃ C, btC N l x y = C := ⟨_, rfl⟩
 rw [hC] at HC ⊢
 obtain ⟨a, ha⟩ : ∃ a, rt N l = a := ⟨_, rfl⟩
 obtain ⟨b, hb⟩ : ∃ b, lsV N l x = b := ⟨_, rfl⟩
 obtain ⟨c, hc⟩ : ∃ c, msV N l y = c := ⟨_, rfl⟩
 rw [ha] at HR HC
 rw [hb] at HL HC
 rw [hc] at HM HC
 clear hC ha hb hc hx hy
 cases a with
 | false =>
   have hC : C = 23 := HC.out
   subst hC
   go_enter Tryz.func13, Tryz.ntmps13
   go_wp2_with (first
    | ((with_reducible apply ldM_P); exact rfl; exact rfl; exact hB; exact rfl)
    | (go_at_call 22; (with_reducible refine (HR.out _ hU).mono ?_); rintro r w1 ⟨rfl, hu1⟩)
    | (go_at_call 34; (with_reducible refine (H23.out _).mono ?_); rintro r w2 ⟨u2, rfl, hu2, h2⟩))
   go_ret
   exact ⟨_, rfl, (hU.trans hu1).trans hu2, h2⟩
 | true =>
   cases b with
   | false =>
     have hC : C = 30 := HC.out
     subst hC
     go_enter Tryz.func13, Tryz.ntmps13
     go_wp2_with (first
      | ((with_reducible apply ldM_P); exact rfl; exact rfl; (first | exact hB | exact hB1); exact rfl)
      | (go_at_call 22; (with_reducible refine (HR.out _ hU).mono ?_); rintro r w1 ⟨rfl, hu1⟩; have hB1 := hB.up hu1; have hU1 := hU.trans hu1)
      | (go_at_call 8; (with_reducible refine (HL.out _ hU1).mono ?_); rintro r w2 ⟨rfl, hu2⟩)
      | (go_at_call 34; (with_reducible refine (H30.out _).mono ?_); rintro r w3 ⟨u3, rfl, hu3, h3⟩))
     go_ret
     exact ⟨_, rfl, (hU1.trans hu2).trans hu3, h3⟩
   | true =>
     cases c with
     | false =>
       have hC : C = 31 := HC.out
       subst hC
       go_enter Tryz.func13, Tryz.ntmps13
       go_wp2_with (first
        | ((with_reducible apply ldM_P); exact rfl; exact rfl; (first | exact hB | exact hB1 | exact hB2); exact rfl)
        | (go_at_call 22; (with_reducible refine (HR.out _ hU).mono ?_); rintro r w1 ⟨rfl, hu1⟩; have hB1 := hB.up hu1; have hU1 := hU.trans hu1)
        | (go_at_call 8; (with_reducible refine (HL.out _ hU1).mono ?_); rintro r w2 ⟨rfl, hu2⟩; have hB2 := hB1.up hu2; have hU2 := hU1.trans hu2)
        | (go_at_call 10; (with_reducible refine (HM.out _ hU2).mono ?_); rintro r w3 ⟨rfl, hu3⟩)
        | (go_at_call 34; (with_reducible refine (H31.out _).mono ?_); rintro r w4 ⟨u4, rfl, hu4, h4⟩))
       go_ret
       exact ⟨_, rfl, (hU2.trans hu3).trans hu4, h4⟩
     | true =>
       have hC : C = 0 := HC.out
       subst hC
       go_enter Tryz.func13, Tryz.ntmps13
       go_wp2_with (first
        | ((with_reducible apply ldM_P); exact rfl; exact rfl; (first | exact hB | exact hB1 | exact hB2); exact rfl)
        | (go_at_call 22; (with_reducible refine (HR.out _ hU).mono ?_); rintro r w1 ⟨rfl, hu1⟩; have hB1 := hB.up hu1; have hU1 := hU.trans hu1)
        | (go_at_call 8; (with_reducible refine (HL.out _ hU1).mono ?_); rintro r w2 ⟨rfl, hu2⟩; have hB2 := hB1.up hu2; have hU2 := hU1.trans hu2)
        | (go_at_call 10; (with_reducible refine (HM.out _ hU2).mono ?_); rintro r w3 ⟨rfl, hu3⟩))
       go_ret
       exact ⟨_, rfl, hU2.trans hu3, .inl ⟨rfl, rfl⟩⟩
set_option maxHeartbeats 16000000 in
theorem below_any {va vb : Value} {N K : Int} {a b : List Int} {w : World} (ha : Sm w va N a) (hb : Sm w vb K b) :
   Calls Tryz.prog 18 #[va, vb] w fun r w' => r = .returned (.bool (beV N a K b)) /\ Up w w' := by
 have HRa := hid (fun w' (hu : Up w w') => sright_any (ha.up hu))
 have HRb := hid (fun w' (hu : Up w w') => sright_any (hb.up hu))
 have HSa := hid ha
 have HSb := hid hb
 obtain ⟨sa, rfl, ⟨p, cap, rfl, -, -⟩, -, -, -⟩ := ha
 obtain ⟨sb, rfl, ⟨q, capq, rfl, -, -⟩, -, -, -⟩ := hb
 obtain ⟨W0, hW0⟩ : ∃ W0, (w.alloc (.cells #[.int .i64 N, .slice p a.length cap] 24)).alloc (.cells #[.int .i64 K, .slice q b.length capq] 24) = W0 := ⟨_, rfl⟩
 have hBa : Blk W0 w.heap.size 24 #[.int .i64 N, .slice p a.length cap] := by rw [<- hW0]; exact (Blk.new _ _ rfl).up (Up.alloc _ _)
 have hBb : Blk W0 (w.heap.size + 1) 24 #[.int .i64 K, .slice q b.length capq] := by rw [<- hW0]; exact Blk.new _ _ (by simp)
 have hU : Up w W0 := by rw [<- hW0]; exact (Up.alloc _ _).trans (Up.alloc _ _)
 cases hRa : rt N a with
 | false =>
   rw [hRa] at HRa
   rw [show beV N a K b = false from by unfold beV; rw [hRa, Bool.false_and]]
   clear hRa
   go_enter Tryz.func18, Tryz.ntmps18
   go_wp2_with (first
    | ((with_reducible apply ldM_P); exact rfl; exact rfl; exact hBa; exact rfl)
    | (go_at_call 22; (with_reducible refine (HRa.out _ hU).mono ?_); rintro r w1 ⟨rfl, hu1⟩))
   go_ret
   exact ⟨rfl, hU.trans hu1⟩
 | true =>
   rw [hRa] at HRa
   cases hRb : rt K b with
   | false =>
     rw [hRb] at HRb
     rw [show beV N a K b = false from by unfold beV; rw [hRb, Bool.false_and, Bool.and_false]]
     clear hRa hRb
     go_enter Tryz.func18, Tryz.ntmps18
     go_wp2_with (first
      | ((with_reducible apply ldM_P); exact rfl; exact rfl; (first | exact hBa | exact hBb | exact hBb1); exact rfl)
      | (go_at_call 22; first
         | ((with_reducible refine (HRa.out _ hU).mono ?_); rintro r w1 ⟨rfl, hu1⟩; have hBb1 := hBb.up hu1; have hU1 := hU.trans hu1)
         | ((with_reducible refine (HRb.out _ hU1).mono ?_); rintro r w2 ⟨rfl, hu2⟩)))
     go_ret
     exact ⟨rfl, hU1.trans hu2⟩
   | true =>
     rw [hRb] at HRb
     by_cases hNK : N = K
     ·subst hNK
      obtain ⟨n, rfl, n8⟩ := rt_ofN hRa
      obtain ⟨D, hD⟩ : ∃ D, beV n a n b = D := ⟨_, rfl⟩
      have hD2 : dfB n (beM n a b) = D := by rw [<- hD]; unfold beV; rw [hRa, hRb, Bool.true_and, Bool.true_and, decide_eq_true rfl, Bool.true_and]; rfl
      have HTa := hid (fun w' (hu : Up w w') => tri_call (HSa.out.up hu) hRa)
      have HTb := hid (fun w' (hu : Up w w') => tri_call (HSb.out.up hu) hRb)
      have HO := hid (fun w => one_call n8 i64_one w)
      have HL1 := hid (fun w' va vb (h1 : Rz w' va (triE n (AM n a))) (h2 : Rz w' vb (triE n (unitM 1))) => less_call h1 h2 n8 (AM_bp14 hRa) (unit_bp14 i64_one))
      have HL2 := hid (fun w' va vb (h1 : Rz w' va (triE n (AM n b))) (h2 : Rz w' vb (triE n fun i j => AM n a i j - unitM 1 i j)) => less_call h1 h2 n8 (AM_bp14 hRb) (less_bp14 hRa i64_one))
      have HD := hid (fun w' vr (h : Rz w' vr (triE n (beM n a b))) => def_call h n8 (beM_abs hRa hRb) (beM_symm n a b) hD2)
      rw [hD]
      clear hRa hRb HSa HSb hD hD2
      go_enter Tryz.func18, Tryz.ntmps18
      go_wp2_with (first
       | ((with_reducible apply ldM_P); exact rfl; exact rfl; (first | exact hBa | exact hBb1 | exact hBb2); exact rfl)
       | (go_at_call 22; first
          | ((with_reducible refine (HRa.out _ hU).mono ?_); rintro r w1 ⟨rfl, hu1⟩; have hBb1 := hBb.up hu1; have hBa1 := hBa.up hu1; have hU1 := hU.trans hu1)
          | ((with_reducible refine (HRb.out _ hU1).mono ?_); rintro r w2 ⟨rfl, hu2⟩; have hBb2 := hBb1.up hu2; have hBa2 := hBa1.up hu2; have hU2 := hU1.trans hu2; have hc0 := hBa2.cell 0 rfl; have hc1 := hBb2.cell 0 rfl)))
      try simp only [Act.put]
      obtain ⟨b0, hb0⟩ : ∃ y, w.heap.size = y := ⟨_, rfl⟩
      rw [hb0] at hBa2 hBb2 ⊢
      clear hb0 hW0 hBa hBb hBb1 hBa1 hU hU1 hu1 hu2 hc0 hc1
      refine wp_region_sp (n := 30) 11 [20, 21, 22, 23, 24, 25, 26, 27, 28, 29, 4] [SP.is (.agg #[.int .i64 (n : Int), .slice q b.length capq]), SP.of (fun v w1 => Rz w1 v (triE n (AM n b))) (fun _ _ _ h hu => Rz.up hu h), SP.is (.agg #[.int .i64 (n : Int), .slice p a.length cap]), SP.of (fun v w1 => Rz w1 v (triE n (AM n a))) (fun _ _ _ h hu => Rz.up hu h), SP.is (.pointer (some ⟨b0, 0, none⟩)), SP.is (.int .i64 (n : Nat)), SP.of (fun v w1 => Rz w1 v (triE n (unitM 1))) (fun _ _ _ h hu => Rz.up hu h), SP.of (fun v w1 => Rz w1 v (triE n fun i j => AM n a i j - unitM 1 i j)) (fun _ _ _ h hu => Rz.up hu h), SP.of (fun v w1 => Rz w1 v (triE n (beM n a b))) (fun _ _ _ h hu => Rz.up hu h), SP.is (.bool D), SP.is (.bool D)] (fun wq => Blk wq b0 24 #[.int .i64 (n : Int), .slice p a.length cap] /\ Blk wq (b0 + 1) 24 #[.int .i64 (n : Int), .slice q b.length capq] /\ Up w wq /\ Below w.heap.size w wq) (by kernel_rfl) (by rfl) (by kernel_rfl) (by kernel_rfl) (fun _ _ h hu => ⟨(h.1).up hu, (h.2.1).up hu, (h.2.2.1).trans hu, below_up (h.2.2.2) hu⟩) ⟨(by first | assumption | exact gBlk), (by first | assumption | exact gBlk), (by first | exact Up.refl _ | assumption), gUp⟩ (fun ev w9 hS9 i o hne hi hev => ?_) (fun gR wE hq hSE huE => ?_)
      ·have ⟨hS1, hS2, hS3, hSB⟩ := hS9
       have hcC := hev.const
       have hcF := hev.func
       have hcG := hev.global
       rcases i with _ | _ | _ | _ | _ | _ | _ | _ | _ | _ | _ | i
       ·obtain rfl := oI hi
        have e3 := hev.other 3 (by kernel_rfl)
        simp [Act.eval] at e3
        exact leavesR_value (run_ldME rfl (by go_simp) hS2 rfl) rfl
       ·obtain rfl := oI hi
        have e20 : ev (.tmp 20) = (.agg #[.int .i64 (n : Int), .slice q b.length capq]) := hev.dep 0 20 (by kernel_rfl)
        refine leavesR_call ?_ (HTb.out _ hS3)
        go_simp
       ·obtain rfl := oI hi
        have e2 := hev.other 2 (by kernel_rfl)
        simp [Act.eval] at e2
        exact leavesR_value (run_ldME rfl (by go_simp) hS1 rfl) rfl
       ·obtain rfl := oI hi
        have e22 : ev (.tmp 22) = (.agg #[.int .i64 (n : Int), .slice p a.length cap]) := hev.dep 2 22 (by kernel_rfl)
        refine leavesR_call ?_ (HTa.out _ hS3)
        go_simp
       ·obtain rfl := oI hi
        have e2 := hev.other 2 (by kernel_rfl)
        simp [Act.eval] at e2
        exact lV (.pointer (some ⟨b0, 0, none⟩))
       ·obtain rfl := oI hi
        have e24 : ev (.tmp 24) = (.pointer (some ⟨b0, 0, none⟩)) := hev.dep 4 24 (by kernel_rfl)
        have hcx := hS1.cell 0 rfl; exact leavesR_value (u := .int .i64 (n : Nat)) (by go_simp) rfl
       ·obtain rfl := oI hi
        have e25 : ev (.tmp 25) = (.int .i64 (n : Nat)) := hev.dep 5 25 (by kernel_rfl)
        refine leavesR_call ?_ (HO.out _)
        go_simp
       ·obtain rfl := oI hi
        have e23 : (fun v w1 => Rz w1 v (triE n (AM n a))) (ev (.tmp 23)) w9 := hev.dep 3 23 (by kernel_rfl)
        dsimp only at e23
        obtain ⟨v23, hv23⟩ : ∃ v, ev (.tmp 23) = v := ⟨_, rfl⟩
        rw [hv23] at e23
        have e26 : (fun v w1 => Rz w1 v (triE n (unitM 1))) (ev (.tmp 26)) w9 := hev.dep 6 26 (by kernel_rfl)
        dsimp only at e26
        obtain ⟨v26, hv26⟩ : ∃ v, ev (.tmp 26) = v := ⟨_, rfl⟩
        rw [hv26] at e26
        refine leavesR_call ?_ (HL1.out _ _ _ e23 e26)
        go_simp
       ·obtain rfl := oI hi
        have e21 : (fun v w1 => Rz w1 v (triE n (AM n b))) (ev (.tmp 21)) w9 := hev.dep 1 21 (by kernel_rfl)
        dsimp only at e21
        obtain ⟨v21, hv21⟩ : ∃ v, ev (.tmp 21) = v := ⟨_, rfl⟩
        rw [hv21] at e21
        have e27 : (fun v w1 => Rz w1 v (triE n fun i j => AM n a i j - unitM 1 i j)) (ev (.tmp 27)) w9 := hev.dep 7 27 (by kernel_rfl)
        dsimp only at e27
        obtain ⟨v27, hv27⟩ : ∃ v, ev (.tmp 27) = v := ⟨_, rfl⟩
        rw [hv27] at e27
        refine leavesR_call ?_ (HL2.out _ _ _ e21 e27)
        go_simp
       ·obtain rfl := oI hi
        have e28 : (fun v w1 => Rz w1 v (triE n (beM n a b))) (ev (.tmp 28)) w9 := hev.dep 8 28 (by kernel_rfl)
        dsimp only at e28
        obtain ⟨v28, hv28⟩ : ∃ v, ev (.tmp 28) = v := ⟨_, rfl⟩
        rw [hv28] at e28
        refine leavesR_call ?_ (HD.out _ _ e28)
        go_simp
       ·obtain rfl := oI hi
        have e29 : ev (.tmp 29) = (.bool D) := hev.dep 9 29 (by kernel_rfl)
        exact lV (.bool D)
       ·exact absurd (show i + 11 < 11 from (Array.getElem?_eq_some_iff.1 hi).1) (by omega)
      have ⟨hS1, hS2, hS3, hSB⟩ := hSE
      have q0 : gR 20 = (.agg #[.int .i64 (n : Int), .slice q b.length capq]) := hq 0 20 (by decide) (by kernel_rfl)
      have q1 : (fun v w1 => Rz w1 v (triE n (AM n b))) (gR 21) wE := hq 1 21 (by decide) (by kernel_rfl)
      dsimp only at q1
      obtain ⟨v21, hv21⟩ : ∃ v, gR 21 = v := ⟨_, rfl⟩
      rw [hv21] at q1
      have q2 : gR 22 = (.agg #[.int .i64 (n : Int), .slice p a.length cap]) := hq 2 22 (by decide) (by kernel_rfl)
      have q3 : (fun v w1 => Rz w1 v (triE n (AM n a))) (gR 23) wE := hq 3 23 (by decide) (by kernel_rfl)
      dsimp only at q3
      obtain ⟨v23, hv23⟩ : ∃ v, gR 23 = v := ⟨_, rfl⟩
      rw [hv23] at q3
      have q4 : gR 24 = (.pointer (some ⟨b0, 0, none⟩)) := hq 4 24 (by decide) (by kernel_rfl)
      have q5 : gR 25 = (.int .i64 (n : Nat)) := hq 5 25 (by decide) (by kernel_rfl)
      have q6 : (fun v w1 => Rz w1 v (triE n (unitM 1))) (gR 26) wE := hq 6 26 (by decide) (by kernel_rfl)
      dsimp only at q6
      obtain ⟨v26, hv26⟩ : ∃ v, gR 26 = v := ⟨_, rfl⟩
      rw [hv26] at q6
      have q7 : (fun v w1 => Rz w1 v (triE n fun i j => AM n a i j - unitM 1 i j)) (gR 27) wE := hq 7 27 (by decide) (by kernel_rfl)
      dsimp only at q7
      obtain ⟨v27, hv27⟩ : ∃ v, gR 27 = v := ⟨_, rfl⟩
      rw [hv27] at q7
      have q8 : (fun v w1 => Rz w1 v (triE n (beM n a b))) (gR 28) wE := hq 8 28 (by decide) (by kernel_rfl)
      dsimp only at q8
      obtain ⟨v28, hv28⟩ : ∃ v, gR 28 = v := ⟨_, rfl⟩
      rw [hv28] at q8
      have q9 : gR 29 = (.bool D) := hq 9 29 (by decide) (by kernel_rfl)
      have q10 : gR 4 = (.bool D) := hq 10 4 (by decide) (by kernel_rfl)
      refine ⟨fun _ => ?_, fun o ho => by simp at ho⟩
      simp only [putL, List.map_cons, List.map_nil, q0, hv21, q2, hv23, q4, q5, hv26, hv27, hv28, q9, q10, Act.put, pu1, pu2, pu3]
      clear hq hSE q0 q2 q4 q5 q9 q10
      go_wp2_with fail
      go_ret
      exact ⟨rfl, hS3⟩
     ·rw [show beV N a K b = false from by unfold beV; rw [decide_eq_false hNK, Bool.false_and, Bool.and_false, Bool.and_false]]
      have hNe : (N != K) = true := by simpa using hNK
      have hd : (N == K) = false := by simpa using hNK
      clear hRa hRb
      go_enter Tryz.func18, Tryz.ntmps18
      go_wp2_with (first
       | ((with_reducible apply ldM_P); exact rfl; exact rfl; (first | exact hBa | exact hBb1); exact rfl)
       | (go_at_call 22; first
          | ((with_reducible refine (HRa.out _ hU).mono ?_); rintro r w1 ⟨rfl, hu1⟩; have hBb1 := hBb.up hu1; have hBa1 := hBa.up hu1; have hU1 := hU.trans hu1)
          | ((with_reducible refine (HRb.out _ hU1).mono ?_); rintro r w2 ⟨rfl, hu2⟩; have hc0 := (hBa1.up hu2).cell 0 rfl; have hc1 := (hBb1.up hu2).cell 0 rfl)))
      go_ret
      exact ⟨rfl, hU1.trans hu2⟩
theorem bsays_any {u : Value} {e : Int} {w : World} (h : ErrsB w u e) (hg : Glob w) :
   Calls Tryz.prog 12 #[u, .int .i64 e] w fun r w' => r = .returned (.bool true) /\ Up w w' := by
 rcases h with ⟨rfl, rfl⟩ | ⟨h0, t, x, rfl, hE⟩
 ·go_enter Tryz.func12, Tryz.ntmps12
  go_wp2_with fail
  go_ret
  exact ⟨rfl, Up.refl _⟩
 ·have d : (e == 0) = false := by simpa using h0
  have HO := hid (fun w' (hu : Up w w') => ops_any (hE.up hu) (show 1 < 1000000 by decide))
  have HC := hid (fun w' (hu : Up w w') => code_any (hE.up hu) (hg.up hu))
  have de : (e == e) = true := by simp
  have dB : (boundB.toList == [98, 111, 117, 110, 100]) = true := by rw [show boundB.toList = [98, 111, 117, 110, 100] from by rw [ByteArray.toList_eq]; rfl]; rfl
  clear hE hg h0
  go_enter Tryz.func12, Tryz.ntmps12
  go_wp2_with (first
   | (go_at_call 32; (with_reducible refine (HO.out _ (Up.refl _)).mono ?_); rintro r w1 ⟨s, rfl, hu1, hs⟩; obtain ⟨g, cap, C, rfl, hB, h0⟩ := own_one hs)
   | (go_at_call 33; (with_reducible refine (HC.out _ hu1).mono ?_); rintro r w2 ⟨rfl, hu2⟩; have hc := (hB.up hu2).cell 0 h0; have de2 : ((Er.flt boundB (.num e)).first.getD 36 == e) = true := by (show (e == e) = true; simp)))
  go_ret
  exact ⟨rfl, hu1.trans hu2⟩
theorem k_ls : lsV 1 [5] 4 = true /\ lsV 1 [5] 5 = false := by decide +kernel
theorem k_ms : msV 1 [5] 6 = true /\ msV 1 [5] 5 = false := by decide +kernel
theorem k_bt : btC 1 [5] 4 6 = 0 /\ btC 1 [5] 5 6 = 30 /\ btC 1 [5] 4 5 = 31 := by decide +kernel
theorem k_be : beV 1 [5] 1 [5] = true /\ beV 1 [5] 1 [4] = false := by decide +kernel
theorem vw_sole (w : World) (z : Int) : Vw (w.alloc (.cells #[.int .i64 z] 2)) (.slice (some ⟨w.heap.size, 0, none⟩) 1 1) [z] := by
 refine ⟨_, 1, rfl, ⟨Nat.le_refl _, fun e => by cases e⟩, fun i hi => ⟨_, rfl, ?_⟩⟩
 rcases i with _ | i
 ·simp [zth, Addr.add]
 ·simp at hi
theorem sm_sole {w : World} {v : Value} {z : Int} (hz : I64 z) (h : Vw w v [z]) : Sm w (.agg #[.int .i64 1, v]) 1 [z] :=
 ⟨_, rfl, h, by unfold I64; omega, fun i hi => by
  rcases i with _ | i
  ·exact hz
  ·simp at hi, by simp⟩
set_option maxHeartbeats 16000000 in
theorem bknown_true {w : World} (hg : Glob w) :
   Calls Tryz.prog 6 #[] w fun r w' => r = .returned (.bool true) /\ Up w w' := by
 have HG := hid (fun w' (hu : Up w w') => hg.up hu)
 have i4 : I64 4 := by unfold I64; decide
 have i5 : I64 5 := by unfold I64; decide
 have i6 : I64 6 := by unfold I64; decide
 have hW := vw_sole w 5
 obtain ⟨wA, hwA⟩ : ∃ y, w.alloc (.cells #[.int .i64 5] 2) = y := ⟨_, rfl⟩
 have hUA : Up w wA := by rw [<- hwA]; exact Up.alloc _ _
 obtain ⟨bA, hbA⟩ : ∃ y, w.heap.size = y := ⟨_, rfl⟩
 rw [hwA, hbA] at hW
 obtain ⟨wB, hwB⟩ : ∃ y, wA.alloc (.cells #[.int .i64 1, .slice (some ⟨bA, 0, none⟩) 1 1] 24) = y := ⟨_, rfl⟩
 have hB : Blk wB wA.heap.size 24 #[.int .i64 1, .slice (some ⟨bA, 0, none⟩) 1 1] := by rw [<- hwB]; exact Blk.new _ _ rfl
 have hUB : Up wA wB := by rw [<- hwB]; exact Up.alloc _ _
 obtain ⟨bB, hbB⟩ : ∃ y, wA.heap.size = y := ⟨_, rfl⟩
 rw [hbB] at hB
 have HS := hid (fun w' (hu : Up wB w') => sm_sole i5 (Vw.up (hUB.trans hu) hW))
 have HL4 := hid (fun w' (hu : Up wB w') => k_ls.1 ▸ least_any (HS.out w' hu) i4)
 have HL5 := hid (fun w' (hu : Up wB w') => k_ls.2 ▸ least_any (HS.out w' hu) i5)
 have HM6 := hid (fun w' (hu : Up wB w') => k_ms.1 ▸ most_any (HS.out w' hu) i6)
 have HM5 := hid (fun w' (hu : Up wB w') => k_ms.2 ▸ most_any (HS.out w' hu) i5)
 have HT0 := hid (fun w' (hu : Up wB w') => k_bt.1 ▸ between_any (HS.out w' hu) i4 i6)
 have HT1 := hid (fun w' (hu : Up wB w') => k_bt.2.1 ▸ between_any (HS.out w' hu) i5 i6)
 have HT2 := hid (fun w' (hu : Up wB w') => k_bt.2.2 ▸ between_any (HS.out w' hu) i4 i5)
 have HE1 := hid (fun w' (hu : Up wB w') => k_be.1 ▸ below_any (HS.out _ (hu.trans (Up.alloc w' (.cells #[.int .i64 5] 2)))) (sm_sole i5 (vw_sole w' 5)))
 have HE2 := hid (fun w' (hu : Up wB w') => k_be.2 ▸ below_any (HS.out _ (hu.trans (Up.alloc w' (.cells #[.int .i64 4] 2)))) (sm_sole i4 (vw_sole w' 4)))
 have hU := hUA.trans hUB
 clear hg hW hUA hUB i4 i5 i6 HS
 go_enter Tryz.func6, Tryz.ntmps6
 go_wp2_with (first
  | ((with_reducible apply ldM_P); exact rfl; exact rfl; (first | exact hB | exact hB.up hx1 | exact hB.up hx2 | exact hB.up hx3 | exact hB.up hx4 | exact hB.up hx5 | exact hB.up hx6 | exact hB.up hx7 | exact hB.up hx8 | exact hB.up hx9 | exact hB.up hx10); exact rfl)
  | (go_at_call 8; first
     | ((with_reducible refine (HL4.out _ (Up.refl _)).mono ?_); rintro r w1 ⟨rfl, hu1⟩; have hx1 : Up wB w1 := hu1)
     | ((with_reducible refine (HL5.out _ hx1).mono ?_); rintro r w2 ⟨rfl, hu2⟩; have hx2 : Up wB w2 := hx1.trans hu2))
  | (go_at_call 10; first
     | ((with_reducible refine (HM6.out _ hx2).mono ?_); rintro r w3 ⟨rfl, hu3⟩; have hx3 : Up wB w3 := hx2.trans hu3)
     | ((with_reducible refine (HM5.out _ hx3).mono ?_); rintro r w4 ⟨rfl, hu4⟩; have hx4 : Up wB w4 := hx3.trans hu4))
  | (go_at_call 13; first
     | ((with_reducible refine (HT0.out _ hx4).mono ?_); rintro r w5 ⟨u5, rfl, hu5, he5⟩; have hx5 : Up wB w5 := hx4.trans hu5; obtain rfl := he5.elim (fun h => h.2) (fun h => absurd rfl h.1))
     | ((with_reducible refine (HT1.out _ hx5).mono ?_); rintro r w6 ⟨u6, rfl, hu6, he6⟩; have hx6 : Up wB w6 := hx5.trans hu6)
     | ((with_reducible refine (HT2.out _ hx7).mono ?_); rintro r w8 ⟨u8, rfl, hu8, he8⟩; have hx8 : Up wB w8 := hx7.trans hu8))
  | (go_at_call 12; first
     | ((with_reducible refine (bsays_any he6 (HG.out _ (hU.trans hx6))).mono ?_); rintro r w7 ⟨rfl, hu7⟩; have hx7 : Up wB w7 := hx6.trans hu7)
     | ((with_reducible refine (bsays_any he8 (HG.out _ (hU.trans hx8))).mono ?_); rintro r w9 ⟨rfl, hu9⟩; have hx9 : Up wB w9 := hx8.trans hu9))
  | (go_at_call 18; first
     | ((with_reducible refine (HE1.out _ hx9).mono ?_); rintro r w10 ⟨rfl, hu10⟩; have hx10 : Up wB w10 := hx9.trans ((Up.alloc _ _).trans hu10))
     | ((with_reducible refine (HE2.out _ hx10).mono ?_); rintro r w11 ⟨rfl, hu11⟩; have hx11 : Up wB w11 := hx10.trans ((Up.alloc _ _).trans hu11))))
 go_ret
 exact ⟨rfl, hU.trans hx11⟩
def MV (w : World) (v : Value) : Prop := ∃ N L, SmO w v N L
def Pair (a0 : Int) (s0 : Value) (w : World) (v : Value) : Prop :=
 ∃ g N1 s1 L1, v = .slice (some ⟨g, 0, none⟩) 2 2 /\ Blk w g 24 #[.int .i64 a0, s0, .int .i64 N1, s1] /\ SmO w (.agg #[.int .i64 N1, s1]) N1 L1
def IsRowX (k : IntKind) (w : World) (a : Option Addr) (len cap : Nat) (zs : List Int) : Prop :=
 (a = none /\ len = 0 /\ cap = 0 /\ zs = []) \/
 ∃ x, a = some x /\ len <= cap /\ cap <= maxLen /\ zs.length = cap /\ (∀ i, i < zs.length -> w.cell? (x.add i) = some (.int k (zs.getD i 0))) /\ ∀ n ∈ zs, (Lit.int k n).wf = true
theorem zth_take {l : List Int} {k i : Nat} (h : i < k) : zth (l.take k) i = zth l i := by
 unfold zth
 rw [List.getD_eq_getElem?_getD, List.getD_eq_getElem?_getD, List.getElem?_take_of_lt h]
theorem wf_nat {k : IntKind} {z : Int} {m : Nat} (h : (Lit.int k z).wf = true) (h0 : k.min = 0) (h1 : k.max = (m : Int)) : ∃ n : Nat, z = (n : Int) /\ n < m + 1 := by
 have := (Lit.wf_int_iff k z).1 h
 rw [h0, h1] at this
 exact ⟨z.toNat, by omega, by omega⟩
theorem vh_row {w : World} {a : Option Addr} {len cap : Nat} {zs : List Int} (h : IsRowX .i16 w a len cap zs) : Vh w (.slice a len cap) (zs.take len) /\ In16 (zs.take len) := by
 rcases h with ⟨rfl, rfl, rfl, rfl⟩ | ⟨x, rfl, hl, hm, hz, hc, hw⟩
 ·exact ⟨⟨none, 0, rfl, fun i hi => absurd hi (Nat.not_lt_zero _)⟩, fun i hi => absurd hi (Nat.not_lt_zero _)⟩
 ·have e : (zs.take len).length = len := by rw [List.length_take]; omega
  refine ⟨⟨some x, cap, by rw [e], fun i hi => ⟨x, rfl, ?_⟩⟩, fun i hi => ?_⟩
  ·rw [e] at hi
   rw [zth_take hi]
   exact hc i (by omega)
  ·rw [e] at hi
   rw [zth_take hi, zth_get (by omega)]
   have := (Lit.wf_int_iff .i16 _).1 (hw (zs[i]'(by omega)) (List.getElem_mem _))
   rw [IntKind.min_i16, IntKind.max_i16] at this
   omega
theorem bool_no {a b : Bool} (h : a = true -> b = true) (hb : b = false) : a = false := by
 cases a
 ·rfl
 ·rw [h rfl] at hb; exact absurd hb (by decide)
set_option maxHeartbeats 32000000 in
theorem bline_w {w : World} {vh : Value} {hs : List Int} (n d k j : Nat) (hg : Glob w) (hn : n < 256) (hd : d < 65536) (hvh : Vh w vh hs) (h16 : In16 hs) (hk : k < 65536) (hj : j < 65536) :
   Calls Tryz.prog 5 #[.int .u8 (n : Nat), .int .u16 (d : Nat), vh, .int .u16 (k : Nat), .int .u16 (j : Nat)] w fun r w' => r = .returned (.bool true) /\ Up w w' := by
 have HK := hid (bknown_true hg)
 obtain ⟨ph, ch, rfl, hhc⟩ := hvh
 by_cases hC : hs.length <= 60
 ·have HST := hid (fun w' (hu : Up w w') => seat_any n d hn hd (show Vh w' (.slice ph hs.length ch) hs from ⟨ph, ch, rfl, fun i hi => by obtain ⟨a, h1, h2⟩ := hhc i hi; exact ⟨a, h1, hu.cellEq h2⟩⟩) h16 hC)
  have d60 : decide ((60 : Int) < (hs.length : Int)) = false := decide_eq_false (by omega)
  clear hg hhc h16 hn hd
  go_enter Tryz.func5, Tryz.ntmps5
  go_upto_region 6 with (first
   | (go_at_call 6; (with_reducible refine HK.out.mono ?_); rintro r w1 ⟨rfl, hu1⟩)
   | (go_at_call 7; (with_reducible refine (HST.out _ hu1).mono ?_); rintro r w2 ⟨z2, N, L, rfl, hu2, hs2, hrt⟩; have hs2' := hs2; obtain ⟨s2, base2, rfl, hO2, -⟩ := hs2'; obtain ⟨p2, n2, c2, rfl⟩ := OwnI.slice hO2)
   | ((with_reducible apply stM_P); exact rfl; exact rfl; exact Blk.new _ _ rfl; exact rfl; exact rfl; exact two2 _ _ _ _ _
      refine wpL_folded (fun wd => Up w2 wd /\ Blk wd w2.heap.size 24 #[.int .i64 N, .slice p2 n2 c2] /\ SmO wd (.agg #[.int .i64 N, .slice p2 n2 c2]) N L) ⟨gUp, gBlk, (hs2.up (Up.alloc _ _)).setRow (Blk.new _ _ rfl)⟩ ?_
      rintro w3 ⟨hu3, hb3, hs3⟩))
  obtain ⟨m, rfl, m8⟩ := rt_ofN hrt
  obtain ⟨bM, hbM⟩ : ∃ y, w2.heap.size = y := ⟨_, rfl⟩
  rw [hbM] at hb3 ⊢
  have hU3 := (hu1.trans hu2).trans hu3
  have HSm := hid (fun w' (hu : Up w3 w') => hs3.sm.up hu)
  have HB := hid (fun w' (hu : Up w3 w') => hb3.up hu)
  have hX : Up w3 w3 := Up.refl _
  clear hu1 hu2 hu3 hs2 hO2 hbM hs3 HST HK hrt d60 hC
  obtain ⟨a, ha⟩ : ∃ a : Int, ((k % 6000 : Nat) : Int) = a := ⟨_, rfl⟩
  have ha0 : 0 <= a /\ a < 6000 := by omega
  have et : (k : Int).tmod 6000 = a := by rw [<- ha, show (6000 : Int) = ((6000 : Nat) : Int) from rfl, <- Int.ofNat_tmod]
  have ea : IntKind.i64.wrap a = a := IntWalk.i64_in _ (by omega)
  have ej : IntKind.i64.wrap (j : Int) = (j : Int) := IntWalk.i64_in _ (by omega)
  have ek : IntKind.i64.wrap (k : Int) = (k : Int) := IntWalk.i64_in _ (by omega)
  have eb : IntKind.i64.wrap ((j : Int) * 40) = (j : Int) * 40 := IntWalk.i64_in _ (by omega)
  clear ha
  go_upto_region 7 with fail
  obtain ⟨b, hb⟩ : ∃ b : Int, (j : Int) * 40 = b := ⟨_, rfl⟩
  have hb0 : 0 <= b /\ b < 2621440 := by omega
  rw [hb]
  have f1 : IntKind.i64.wrap (a - 1) = a - 1 := IntWalk.i64_in _ (by omega)
  have f2 : IntKind.i64.wrap (a - 1 - (j : Int)) = a - 1 - (j : Int) := IntWalk.i64_in _ (by omega)
  have f3 : IntKind.i64.wrap (a + 1) = a + 1 := IntWalk.i64_in _ (by omega)
  have f4 : IntKind.i64.wrap (a + 1 + (j : Int)) = a + 1 + (j : Int) := IntWalk.i64_in _ (by omega)
  have f5 : IntKind.i64.wrap (b + 1) = b + 1 := IntWalk.i64_in _ (by omega)
  have f6 : IntKind.i64.wrap (b + 1 + (k : Int)) = b + 1 + (k : Int) := IntWalk.i64_in _ (by omega)
  have f7 : IntKind.i64.wrap (b - 1) = b - 1 := IntWalk.i64_in _ (by omega)
  have f8 : IntKind.i64.wrap (b - 1 - (k : Int)) = b - 1 - (k : Int) := IntWalk.i64_in _ (by omega)
  have i1 : I64 a := by unfold I64; omega
  have i2 : I64 (a - 1 - (j : Int)) := by unfold I64; omega
  have i3 : I64 (a + 1 + (j : Int)) := by unfold I64; omega
  have i4 : I64 b := by unfold I64; omega
  have i5 : I64 (b + 1 + (k : Int)) := by unfold I64; omega
  have i6 : I64 (b - 1 - (k : Int)) := by unfold I64; omega
  have g1 := fun h => lsV_loose (N := (m : Int)) (l := L) i1 i2 (by omega) h
  have g2 := fun h => bool_no (fun h' => lsV_loose (N := (m : Int)) (l := L) i3 i1 (by omega) h') h
  have g3 := fun h => msV_loose (N := (m : Int)) (l := L) i4 i5 (by omega) h
  have g4 := fun h => bool_no (fun h' => msV_loose (N := (m : Int)) (l := L) i6 i4 (by omega) h') h
  have HA := hid (fun w' (hu : Up w3 w') => least_any (HSm.out w' hu) i1)
  have HAl := hid (fun w' (hu : Up w3 w') => least_any (HSm.out w' hu) i2)
  have HAu := hid (fun w' (hu : Up w3 w') => least_any (HSm.out w' hu) i3)
  have HM := hid (fun w' (hu : Up w3 w') => most_any (HSm.out w' hu) i4)
  have HMu := hid (fun w' (hu : Up w3 w') => most_any (HSm.out w' hu) i5)
  have HMl := hid (fun w' (hu : Up w3 w') => most_any (HSm.out w' hu) i6)
  obtain ⟨A, hA⟩ : ∃ y, lsV (m : Int) L a = y := ⟨_, rfl⟩
  obtain ⟨A1, hA1⟩ : ∃ y, lsV (m : Int) L (a - 1 - (j : Int)) = y := ⟨_, rfl⟩
  obtain ⟨A2, hA2⟩ : ∃ y, lsV (m : Int) L (a + 1 + (j : Int)) = y := ⟨_, rfl⟩
  obtain ⟨B, hB⟩ : ∃ y, msV (m : Int) L b = y := ⟨_, rfl⟩
  obtain ⟨B1, hB1⟩ : ∃ y, msV (m : Int) L (b + 1 + (k : Int)) = y := ⟨_, rfl⟩
  obtain ⟨B2, hB2⟩ : ∃ y, msV (m : Int) L (b - 1 - (k : Int)) = y := ⟨_, rfl⟩
  rw [hA] at HA g1 g2
  rw [hA1] at HAl g1
  rw [hA2] at HAu g2
  rw [hB] at HM g3 g4
  rw [hB1] at HMu g3
  rw [hB2] at HMl g4
  clear hA hA1 hA2 hB hB1 hB2 i1 i2 i3 i4 i5 i6 ha0 hb0 hk hj HSm et
  have hc0 := hb3.cell 0 rfl
  obtain ⟨P, hP⟩ : ∃ y, decide (0 < m) = y := ⟨_, rfl⟩
  cases A
  all_goals cases B
  all_goals cases P
  all_goals first | (obtain rfl := g1 rfl) | (obtain rfl := g2 rfl)
  all_goals first | (obtain rfl := g3 rfl) | (obtain rfl := g4 rfl)
  all_goals
   clear g1 g2 g3 g4
   go_wp2_with (first
    | go_skip
    | ((with_reducible apply ldM_P); exact rfl; exact rfl; exact HB.out _ hX; exact rfl)
    | (go_at_call 8; first
       | ((with_reducible refine (HA.out _ hX).mono ?_); rintro r wn ⟨rfl, hu⟩; replace hX := hX.trans hu; replace hc0 := (HB.out _ hX).cell 0 rfl)
       | ((with_reducible refine (HAl.out _ hX).mono ?_); rintro r wn ⟨rfl, hu⟩; replace hX := hX.trans hu; replace hc0 := (HB.out _ hX).cell 0 rfl)
       | ((with_reducible refine (HAu.out _ hX).mono ?_); rintro r wn ⟨rfl, hu⟩; replace hX := hX.trans hu; replace hc0 := (HB.out _ hX).cell 0 rfl))
    | (go_at_call 10; first
       | ((with_reducible refine (HM.out _ hX).mono ?_); rintro r wn ⟨rfl, hu⟩; replace hX := hX.trans hu; replace hc0 := (HB.out _ hX).cell 0 rfl)
       | ((with_reducible refine (HMl.out _ hX).mono ?_); rintro r wn ⟨rfl, hu⟩; replace hX := hX.trans hu; replace hc0 := (HB.out _ hX).cell 0 rfl)
       | ((with_reducible refine (HMu.out _ hX).mono ?_); rintro r wn ⟨rfl, hu⟩; replace hX := hX.trans hu; replace hc0 := (HB.out _ hX).cell 0 rfl)))
   go_ret
   exact ⟨rfl, hU3.trans hX⟩
 ·have d60 : decide ((60 : Int) < (hs.length : Int)) = true := decide_eq_true (by omega)
  clear hg hhc h16 hn hd
  go_enter Tryz.func5, Tryz.ntmps5
  go_wp2_with (first
   | (go_at_call 6; (with_reducible refine HK.out.mono ?_); rintro r w1 ⟨rfl, hu1⟩))
  go_ret
  exact ⟨rfl, hu1⟩
theorem bline_row {w : World} {a0 a1 a3 a4 : Int} {p2 : Option Addr} {len2 cap2 : Nat} {z2 : List Int} (hg : Glob w) (w0 : (Lit.int .u8 a0).wf = true) (w1 : (Lit.int .u16 a1).wf = true) (w2 : IsRowX .i16 w p2 len2 cap2 z2) (w3 : (Lit.int .u16 a3).wf = true) (w4 : (Lit.int .u16 a4).wf = true) :
   Calls Tryz.prog 5 #[.int .u8 a0, .int .u16 a1, .slice p2 len2 cap2, .int .u16 a3, .int .u16 a4] w fun r w' => r = .returned (.bool true) /\ Up w w' := by
 obtain ⟨n, rfl, hn⟩ := wf_nat (m := 255) w0 IntKind.min_u8 IntKind.max_u8
 obtain ⟨d, rfl, hd⟩ := wf_nat (m := 65535) w1 IntKind.min_u16 IntKind.max_u16
 obtain ⟨k, rfl, hk⟩ := wf_nat (m := 65535) w3 IntKind.min_u16 IntKind.max_u16
 obtain ⟨j, rfl, hj⟩ := wf_nat (m := 65535) w4 IntKind.min_u16 IntKind.max_u16
 exact bline_w n d k j hg hn hd (vh_row w2).1 (vh_row w2).2 hk hj
end Go.Proofs.YtdpgpchcgmmklaaGreatDoor
namespace Go.Proofs.YtdpgpchcgmmklaaGreatDoor
open Go.ChangeShapes Go.WideShapes Go.RowKit
set_option maxRecDepth 100000
theorem own4 : ownKnob Tryz.prog.godebug = none := by kernel_rfl
theorem et4 : Tryz.prog.globalNamed "errors.errorType" = some 0 := by kernel_rfl
theorem rt4 : (Tryz.prog.cutTypes.find? (·.1 == "internal/reflectlite.rtype")).map (·.2) = some 138 := by kernel_rfl
theorem oneRow4 : ((List.range 199).filter fun t => Tryz.prog.rowNamed t [101, 114, 114, 111, 114]) = [35] := by kernel_rfl
theorem size4 : Tryz.prog.types.size = 199 := by kernel_rfl
theorem glob_of_laid {W : World} (h : laidMetH Tryz.prog [("errors.errorType", Rows.laid_errors_errorType)] W) : Glob W := by
 have h' : laidMet Tryz.prog [] W /\ handlesMet Tryz.prog [("errors.errorType", Rows.laid_errors_errorType)] W := h
 obtain ⟨name, u, ty, e1, e2, e3, e4, e5⟩ := h'.2 _ (List.mem_singleton.2 rfl)
 have en : name = [101, 114, 114, 111, 114] := (Option.some.inj e1).symm
 subst en
 obtain rfl := Option.some.inj (rt4.symm.trans e2)
 have hm : ty ∈ (List.range 199).filter fun t => Tryz.prog.rowNamed t [101, 114, 114, 111, 114] := List.mem_filter.2 ⟨List.mem_range.2 (by rw [<- size4]; exact e3), e4⟩
 rw [oneRow4] at hm
 obtain rfl := List.mem_singleton.1 hm
 have hh : typeHandle Tryz.prog 35 = .pointer (some ⟨3, 35, none⟩) := by kernel_rfl
 rw [hh] at e5
 unfold Glob
 simpa using World.var?_cell et4 e5 0
noncomputable def laidWorld (os : Os) : World :=
 let w0 := World.holding Tryz.prog os ⟨#[], #[], []⟩
 { w0 with heap := w0.heap.modify 0 fun
    | .cells _ t frozen => .cells #[.iface 138 (.agg #[.pointer (some ⟨3, 35, none⟩)])] t frozen
    | o => o }
theorem laidWorld_met (os : Os) (args : Array Value) : laidMetH Tryz.prog [("errors.errorType", Rows.laid_errors_errorType)] ((laidWorld os).forCall (fun _ _ => 0) ⟨#[], args, []⟩).memory :=
 laidMetH_of_parts (laidMet_nil _ _) (by kernel_rfl)
end Go.Proofs.YtdpgpchcgmmklaaGreatDoor
