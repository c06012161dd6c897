import Derived.Test.YtahifcannoekhaaGreatDoorPh
import Derived.Test.YtahifcannoekhaaGreatDoorRows
import Derived.Test.YtahifcannoekhaaGreatDoorTie
import Derived.ChangeSame
import Derived.ChangeVars
import Derived.JoinedOf
import Derived.RowKit
import Derived.RowKitTokens
import Derived.LaidLaws
import Derived.LaidHandle
import Derived.Stop.Joined
import Derived.ChangeMaps5
import Derived.SevenTiedAt
namespace Go.Proofs.YtahifcannoekhaaGreatDoor
open Go Go.RowKit
set_option maxRecDepth 100000
set_option maxHeartbeats 64000000 in
theorem steps_w {w : World} {a0 : Int} {p0 : Option Addr} {len0 cap0 : Nat} {l0 : List Int} {vh vv vs : Value} {hs lv ls : List Int} (n d : Nat) (mo en : Int) (sm : Bool) (hg : Glob w) (hraw : Vw w (.slice p0 len0 cap0) l0) (ha0 : I64 a0) (hl0 : In64 l0)
   (hn : n < 256) (hd : d < 65536) (hvh : Vh w vh hs) (h16 : In16 hs) (hvv : Vw w vv lv) (hIv : In64 lv) (hvs : Vw w vs ls) (hIs : In64 ls) (hmo : I64 mo) :
   Calls Tryz.prog 3 #[.agg #[.int .i64 a0, .slice p0 len0 cap0], .int .u8 (n : Nat), .int .u16 (d : Nat), vh, vv, vs, .int .i64 mo, .int .i64 en, .bool sm] w fun r w' => r = .returned (.bool true) /\ Up w w' := by
 have HK := hid (fun w' (hu : Up w w') => cgknown_true (hg.up hu))
 have HG := hid (fun w' (hu : Up w w') => hg.up hu)
 have HVV := hid (fun w' (hu : Up w w') => Vw.up hu hvv)
 have HVS := hid (fun w' (hu : Up w w') => Vw.up hu hvs)
 have hlen : len0 = l0.length := by
  obtain ⟨p, c, e, _⟩ := hraw
  injection e
 obtain ⟨ph, ch, rfl, hhc⟩ := hvh
 obtain ⟨pv, cv, rfl, -⟩ := hvv
 obtain ⟨ps, cs, rfl, -⟩ := hvs
 obtain ⟨W0, hW0⟩ : ∃ W0, w.alloc (.cells #[.int .i64 a0, .slice p0 len0 cap0] 24) = W0 := ⟨_, rfl⟩
 have hB : Blk W0 w.heap.size 24 #[.int .i64 a0, .slice p0 len0 cap0] := by rw [<- hW0]; exact Blk.new _ _ rfl
 have hU : Up w W0 := by rw [<- hW0]; exact Up.alloc _ _
 by_cases hA : len0 <= 60
 ·have d1 : decide ((60 : Int) < (len0 : Int)) = false := decide_eq_false (by omega)
  by_cases hC : hs.length <= 60
  ·have d2 : decide ((60 : Int) < (hs.length : Int)) = false := decide_eq_false (by omega)
   by_cases hDv : lv.length <= 40
   ·have d3 : decide ((40 : Int) < (lv.length : Int)) = false := decide_eq_false (by omega)
    by_cases hDs : ls.length <= 40
    ·have d4 : decide ((40 : Int) < (ls.length : Int)) = false := decide_eq_false (by omega)
     have HSm := hid (show Sm w (.agg #[.int .i64 a0, .slice p0 len0 cap0]) a0 l0 from ⟨_, rfl, hraw, ha0, hl0, by omega⟩)
     have HST := hid (fun w' (hu : Up w w') => seat_any n d hn hd (show Vh w' (.slice ph hs.length ch) hs from ⟨ph, ch, rfl, fun i hi => by obtain ⟨a, h1, h2⟩ := hhc i hi; exact ⟨a, h1, hu.cellEq h2⟩⟩) h16 hC)
     clear hraw ha0 hl0 hhc h16 hg hlen hn hd
     have HIV := hid hIv
     have HIS := hid hIs
     have HLV := hid hDv
     have HLS := hid hDs
     have HMO := hid hmo
     clear hIv hIs hDv hDs hmo
     go_enter Tryz.func3, Tryz.ntmps3
     go_upto_region 6 with (first
      | ((with_reducible apply ldM_P); exact rfl; exact rfl; exact hB; exact rfl)
      | (go_at_call 5; (with_reducible refine (HK.out _ hU).mono ?_); rintro r w1 ⟨rfl, hu1⟩; have hB1 := hB.up hu1; have hU1 := hU.trans hu1; have hc1 := hB1.cell 1 rfl)
      | (go_at_call 6; (with_reducible refine (HST.out _ hU1).mono ?_); rintro r w2 ⟨z, N, L, rfl, hu2, hs2, hR⟩; obtain ⟨m0, m8, -, -⟩ := rt_spec hR; obtain ⟨m, rfl⟩ : ∃ m : Nat, N = (m : Int) := ⟨N.toNat, by omega⟩; have hs2' := hs2; obtain ⟨s, base, rfl, hO2, hr2⟩ := hs2'; obtain ⟨p2, n2, c2, rfl⟩ := OwnI.slice hO2)
      | ((with_reducible apply stM_P); exact rfl; exact rfl; exact Blk.new _ _ rfl; exact rfl; exact rfl; exact two2 _ _ _ _ _
         refine wpL_folded (fun wd => Up w2 wd /\ Blk wd w2.heap.size 24 #[.int .i64 (m : Int), .slice p2 n2 c2] /\ SmO wd (.agg #[.int .i64 (m : Int), .slice p2 n2 c2]) m L) ⟨gUp, gBlk, (hs2.up (Up.alloc _ _)).setRow (Blk.new _ _ rfl)⟩ ?_
         rintro w3 ⟨hu3, hb3, hs3⟩))
     have hU3 := hU1.trans (hu2.trans hu3)
     have hB3 := hB1.up (hu2.trans hu3)
     have HM8 := hid (show m <= 8 by omega)
     obtain ⟨b13, hb13⟩ : ∃ y, w2.heap.size = y := ⟨_, rfl⟩
     rw [hb13] at hb3 ⊢
     have HS3 := hid hs3.sm
     clear hu1 hu2 hu3 hs2 hO2 hB hU hU1 hB1 hW0 hc1 hb13 hs3 hR hr2 m0 m8 HST HK d1 d2 d3 d4
     try simp only [Act.put]
     go_upto_region 7 with (first
      | ((with_reducible apply ldM_P); exact rfl; exact rfl; (first | exact hB3 | exact hb3); exact rfl))
     refine cg_fold (fun wd => Up w3 wd /\ Blk wd w3.heap.size 24 #[.int .i64 a0, .slice p0 len0 cap0, .int .i64 (m : Int), .slice p2 n2 c2]) ⟨Up.alloc _ _, Blk.new _ _ rfl⟩ (fun wE hE => ?_)
     obtain ⟨hUE, hP⟩ := hE
     obtain ⟨g1, hg1⟩ : ∃ y, w3.heap.size = y := ⟨_, rfl⟩
     rw [hg1] at hP ⊢
     have hU9 := hU3.trans hUE
     have HMM : Hid (∀ k, k < 2 -> ∃ NM pM nM cM LM, (∀ w', Up wE w' -> w'.cell? ⟨g1, k * 2, none⟩ = some (.int .i64 NM) /\ w'.cell? ⟨g1, k * 2 + 1, none⟩ = some (.slice pM nM cM)) /\ Sm wE (.agg #[.int .i64 NM, .slice pM nM cM]) NM LM) := hid (fun k hk => by
      rcases k with _ | _ | k
      ·exact ⟨a0, p0, len0, cap0, l0, fun w' hu => ⟨(hP.up hu).cell 0 rfl, (hP.up hu).cell 1 rfl⟩, HSm.out.up hU9⟩
      ·exact ⟨m, p2, n2, c2, L, fun w' hu => ⟨(hP.up hu).cell 2 rfl, (hP.up hu).cell 3 rfl⟩, HS3.out.up hUE⟩
      ·omega)
     have HGE := hid (fun w' (hu : Up wE w') => HG.out w' (hU9.trans hu))
     have HVE := hid (fun w' (hu : Up wE w') => HVV.out w' (hU9.trans hu))
     have HWE := hid (fun w' (hu : Up wE w') => HVS.out w' (hU9.trans hu))
     have HU9 := hid hU9
     have hbE := hb3.up hUE
     clear hg1 hUE hP hB3 hb3 HSm HS3 hU3 hU9 HG HVV HVS
     go_loopg [63] 2 (fun g tk wr => ∃ k : Nat, k <= 2 /\ 2 - k <= g /\ tk = .int .i64 (k : Nat) /\ Up wE wr)
     case atStart => exact ⟨0, by omega, by omega, rfl, Up.refl _⟩
     case round =>
      obtain ⟨k, hk, hkg, rfl, hu⟩ := hrel
      by_cases hlt : k < 2
      ·obtain ⟨NM, pM, nM, cM, LM, hcM, hSM⟩ := HMM.out k hlt
       obtain ⟨hcx0, hcx1⟩ := hcM _ hu
       have HSM0 := hid hSM
       have dk : decide ((k : Int) < 2) = true := decide_eq_true (by omega)
       clear hcM hSM
       go_upto_region 9 with (first
        | ((with_reducible apply stM_P); exact rfl; exact rfl; exact Blk.new _ _ rfl; exact rfl; exact rfl; exact two2 _ _ _ _ _))
       refine cg_fold (fun wd => Up wr wd /\ Blk wd wr.heap.size 24 #[.int .i64 NM, .slice pM nM cM]) ⟨gUp, gBlk⟩ (fun wA hA => ?_)
       obtain ⟨huA, hbm⟩ := hA
       have hUA := hu.trans huA
       obtain ⟨bm, hbm9⟩ : ∃ x, wr.heap.size = x := ⟨_, rfl⟩
       rw [hbm9] at hbm ⊢
       have HSA := hid (HSM0.out.up hUA)
       have hbA := hbE.up hUA
       clear hcx0 hcx1 hu huA hbm9 HSM0
       have HVA := hid (fun w' (hu : Up wA w') => HVE.out w' (hUA.trans hu))
       have HWA := hid (fun w' (hu : Up wA w') => HWE.out w' (hUA.trans hu))
       have HGA := hid (fun w' (hu : Up wA w') => HGE.out w' (hUA.trans hu))
       have HUA := hid hUA
       have HUw := hid (HU9.out.trans hUA)
       clear hUA hbE
       go_upto_if 71 with fail
       go_cut [22, 23] (fun t22 t23 wc => ∃ p c X q e S, t22 = .slice p X.length c /\ t23 = .slice q S.length e /\ Vw wc (.slice p X.length c) X /\ Vw wc (.slice q S.length e) S /\ In64 X /\ In64 S /\ X.length <= 60 /\ S.length <= 60 /\ Up wA wc)
       case first =>
        obtain rfl | rfl : k = 0 \/ k = 1 := by omega
        ·go_wp2_with fail
         go_meet
         exact ⟨pv, cv, lv, ps, cs, ls, rfl, rfl, HVA.out _ (Up.refl _), HWA.out _ (Up.refl _), HIV.out, HIS.out, by have := HLV.out; omega, by have := HLS.out; omega, Up.refl _⟩
        ·have hl60 : lv.length <= 60 := by have := HLV.out; omega
         have hs60 : ls.length <= 60 := by have := HLS.out; omega
         have HVc1 := hid (fun w' (hu : Up wA w') => show Calls Tryz.prog 7 #[.agg #[.int .i64 (m : Nat), .slice p2 n2 c2], .slice pv lv.length cv, .bool sm] w' (fun e w'' => Up w' w'' /\ ∃ v, e = .returned v /\ Vw w'' v (vecL lv sm m)) from (vec_any m sm rfl HM8.out (HVA.out _ hu) HIV.out hl60).mono fun _ _ h => by obtain ⟨z, b, rfl, h1, -, h2⟩ := h; exact ⟨h1, z, rfl, h2.vw⟩)
         have HVc2 := hid (fun w' (hu : Up wA w') => show Calls Tryz.prog 7 #[.agg #[.int .i64 (m : Nat), .slice p2 n2 c2], .slice ps ls.length cs, .bool sm] w' (fun e w'' => Up w' w'' /\ ∃ v, e = .returned v /\ Vw w'' v (vecL ls sm m)) from (vec_any m sm rfl HM8.out (HWA.out _ hu) HIS.out hs60).mono fun _ _ h => by obtain ⟨z, b, rfl, h1, -, h2⟩ := h; exact ⟨h1, z, rfl, h2.vw⟩)
         clear hl60 hs60
         have hUw := HUw.out
         go_wp2_with fail
         refine wp_region_sp (n := 159) 10 [72, 73, 74, 75, 76, 77, 78, 79, 22, 23] [SP.is (.agg #[.int .i64 (m : Nat), .slice p2 n2 c2]), SP.is (.slice pv lv.length cv), SP.is (.bool sm), SP.of (fun v w1 => Vw w1 v (vecL lv sm m)) (fun _ _ _ h hu => Vw.up hu h), SP.is (.agg #[.int .i64 (m : Nat), .slice p2 n2 c2]), SP.is (.slice ps ls.length cs), SP.is (.bool sm), SP.of (fun v w1 => Vw w1 v (vecL ls sm m)) (fun _ _ _ h hu => Vw.up hu h), SP.of (fun v w1 => Vw w1 v (vecL lv sm m)) (fun _ _ _ h hu => Vw.up hu h), SP.of (fun v w1 => Vw w1 v (vecL ls sm m)) (fun _ _ _ h hu => Vw.up hu h)] (fun wq => Blk wq b13 24 #[.int .i64 (m : Int), .slice p2 n2 c2] /\ Up wA wq /\ Below w.heap.size w wq) (by kernel_rfl) (by rfl) (by kernel_rfl) (by kernel_rfl) (fun _ _ h hu => ⟨(h.1).up hu, (h.2.1).trans hu, below_up (h.2.2) hu⟩) ⟨(by first | assumption | exact gBlk), (by first | exact Up.refl _ | assumption), gUp⟩ (fun ev w9 hS9 i o hne hi hev => ?_) (fun gR wE hq hSE huE => ?_)
         ·have ⟨hS1, hS2, hSB⟩ := hS9
          have hcC := hev.const
          have hcF := hev.func
          have hcG := hev.global
          rcases i with _ | _ | _ | _ | _ | _ | _ | _ | _ | _ | i
          ·obtain rfl := oI hi
           have e19 := hev.other 19 (by kernel_rfl)
           simp [Act.eval] at e19
           exact leavesR_value (run_ldME rfl (by go_simp) hS1 rfl) rfl
          ·obtain rfl := oI hi
           have e4 := hev.other 4 (by kernel_rfl)
           simp [Act.eval] at e4
           exact lV (.slice pv lv.length cv)
          ·obtain rfl := oI hi
           have e8 := hev.other 8 (by kernel_rfl)
           simp [Act.eval] at e8
           exact lV (.bool sm)
          ·obtain rfl := oI hi
           have e72 : ev (.tmp 72) = (.agg #[.int .i64 (m : Nat), .slice p2 n2 c2]) := hev.dep 0 72 (by kernel_rfl)
           have e73 : ev (.tmp 73) = (.slice pv lv.length cv) := hev.dep 1 73 (by kernel_rfl)
           have e74 : ev (.tmp 74) = (.bool sm) := hev.dep 2 74 (by kernel_rfl)
           refine leavesR_call ?_ (HVc1.out _ hS2)
           go_simp
          ·obtain rfl := oI hi
           have e19 := hev.other 19 (by kernel_rfl)
           simp [Act.eval] at e19
           exact leavesR_value (run_ldME rfl (by go_simp) hS1 rfl) rfl
          ·obtain rfl := oI hi
           have e5 := hev.other 5 (by kernel_rfl)
           simp [Act.eval] at e5
           exact lV (.slice ps ls.length cs)
          ·obtain rfl := oI hi
           have e8 := hev.other 8 (by kernel_rfl)
           simp [Act.eval] at e8
           exact lV (.bool sm)
          ·obtain rfl := oI hi
           have e76 : ev (.tmp 76) = (.agg #[.int .i64 (m : Nat), .slice p2 n2 c2]) := hev.dep 4 76 (by kernel_rfl)
           have e77 : ev (.tmp 77) = (.slice ps ls.length cs) := hev.dep 5 77 (by kernel_rfl)
           have e78 : ev (.tmp 78) = (.bool sm) := hev.dep 6 78 (by kernel_rfl)
           refine leavesR_call ?_ (HVc2.out _ hS2)
           go_simp
          ·obtain rfl := oI hi
           have e75 : (fun v w1 => Vw w1 v (vecL lv sm m)) (ev (.tmp 75)) w9 := hev.dep 3 75 (by kernel_rfl)
           dsimp only at e75
           obtain ⟨v75, hv75⟩ : ∃ v, ev (.tmp 75) = v := ⟨_, rfl⟩
           rw [hv75] at e75
           exact leavesR_value (u := v75) (by go_simp) e75
          ·obtain rfl := oI hi
           have e79 : (fun v w1 => Vw w1 v (vecL ls sm m)) (ev (.tmp 79)) w9 := hev.dep 7 79 (by kernel_rfl)
           dsimp only at e79
           obtain ⟨v79, hv79⟩ : ∃ v, ev (.tmp 79) = v := ⟨_, rfl⟩
           rw [hv79] at e79
           exact leavesR_value (u := v79) (by go_simp) e79
          ·exact absurd (show i + 10 < 10 from (Array.getElem?_eq_some_iff.1 hi).1) (by omega)
         have ⟨hS1, hS2, hSB⟩ := hSE
         have q0 : gR 72 = (.agg #[.int .i64 (m : Nat), .slice p2 n2 c2]) := hq 0 72 (by decide) (by kernel_rfl)
         have q1 : gR 73 = (.slice pv lv.length cv) := hq 1 73 (by decide) (by kernel_rfl)
         have q2 : gR 74 = (.bool sm) := hq 2 74 (by decide) (by kernel_rfl)
         have q3 : (fun v w1 => Vw w1 v (vecL lv sm m)) (gR 75) wE := hq 3 75 (by decide) (by kernel_rfl)
         dsimp only at q3
         obtain ⟨v75, hv75⟩ : ∃ v, gR 75 = v := ⟨_, rfl⟩
         rw [hv75] at q3
         have q4 : gR 76 = (.agg #[.int .i64 (m : Nat), .slice p2 n2 c2]) := hq 4 76 (by decide) (by kernel_rfl)
         have q5 : gR 77 = (.slice ps ls.length cs) := hq 5 77 (by decide) (by kernel_rfl)
         have q6 : gR 78 = (.bool sm) := hq 6 78 (by decide) (by kernel_rfl)
         have q7 : (fun v w1 => Vw w1 v (vecL ls sm m)) (gR 79) wE := hq 7 79 (by decide) (by kernel_rfl)
         dsimp only at q7
         obtain ⟨v79, hv79⟩ : ∃ v, gR 79 = v := ⟨_, rfl⟩
         rw [hv79] at q7
         have q8 : (fun v w1 => Vw w1 v (vecL lv sm m)) (gR 22) wE := hq 8 22 (by decide) (by kernel_rfl)
         dsimp only at q8
         obtain ⟨v22, hv22⟩ : ∃ v, gR 22 = v := ⟨_, rfl⟩
         rw [hv22] at q8
         have q9 : (fun v w1 => Vw w1 v (vecL ls sm m)) (gR 23) wE := hq 9 23 (by decide) (by kernel_rfl)
         dsimp only at q9
         obtain ⟨v23, hv23⟩ : ∃ v, gR 23 = v := ⟨_, rfl⟩
         rw [hv23] at q9
         refine ⟨fun _ => ?_, fun o ho => by simp at ho⟩
         simp only [putL, List.map_cons, List.map_nil, q0, q1, q2, hv75, q4, q5, q6, hv79, hv22, hv23, Act.put, pu1, pu2, pu3]
         clear hq hSE q0 q1 q2 q4 q5 q6
         obtain ⟨pX, cX, rfl, -, -⟩ := id q8
         obtain ⟨pV, cV, rfl, -, -⟩ := id q9
         clear q3 q7 hSB hUw
         go_wp2_with fail
         go_meet
         exact ⟨pX, cX, vecL lv sm m, pV, cV, vecL ls sm m, rfl, rfl, q8, q9, vecL_in HIV.out sm m (by have := HM8.out; omega), vecL_in HIS.out sm m (by have := HM8.out; omega), by rw [vecL_len]; have := HM8.out; omega, by rw [vecL_len]; have := HM8.out; omega, hS2⟩
       case rest =>
        obtain ⟨px, cx, X, pq, cq, S, rfl, rfl, hVX, hVS, hIX, hIS, hX60, hS60, hUc⟩ := hcut
        have hbc := hbm.up hUc
        have HSc := hid (HSA.out.up hUc)
        have HXc := hid hVX
        have HSv := hid hVS
        have HIX := hid hIX
        have HIS2 := hid hIS
        have HLX := hid (show X.length <= 1000 by omega)
        have HLS2 := hid (show S.length <= 1000 by omega)
        have HGc := hid (fun w' (hu : Up wc w') => HGA.out w' (hUc.trans hu))
        have HUc := hid (HUA.out.trans hUc)
        clear hVX hVS hIX hIS hX60 hS60 hUc hbA hbm HSA HVA HWA HGA HUA HUw
        go_upto_region 13 with fail
        have hi7 := bits_in BinOp.and mo 7
        obtain ⟨i7, hi7e⟩ : ∃ y, bits BinOp.and IntKind.i64 mo 7 = y := ⟨_, rfl⟩
        rw [hi7e] at hi7 ⊢
        refine cg_fold (fun wd => Up wc wd /\ Blk wd wc.heap.size 3 #[.int .i64 mo, .int .i64 i7]) ⟨Up.alloc _ _, Blk.new _ _ rfl⟩ (fun w6 h6 => ?_)
        obtain ⟨hu6, hb6⟩ := h6
        obtain ⟨g2, hg2⟩ : ∃ y, wc.heap.size = y := ⟨_, rfl⟩
        rw [hg2] at hb6 ⊢
        have HJ : Hid (∀ k, k < 2 -> ∃ j, I64 j /\ ∀ w', Up w6 w' -> w'.cell? ⟨g2, k, none⟩ = some (.int .i64 j)) := hid (fun k hk => by
         rcases k with _ | _ | k
         ·exact ⟨mo, HMO.out, fun w' hu => (hb6.up hu).cell 0 rfl⟩
         ·exact ⟨i7, hi7, fun w' hu => (hb6.up hu).cell 1 rfl⟩
         ·omega)
        have hB6 := hbc.up hu6
        have HU6 := hid (HUc.out.trans hu6)
        have HRu := hid (fun j w' (hu : Up w6 w') => run_any (most := j) (enough := en) (HSc.out.up (hu6.trans hu)) (Vw.up (hu6.trans hu) HXc.out) (Vw.up (hu6.trans hu) HSv.out) HIX.out HIS2.out HLX.out HLS2.out)
        have HWa := hid (fun w' (hu : Up w6 w') => want_any (HSc.out.up (hu6.trans hu)) (Vw.up (hu6.trans hu) HXc.out) (Vw.up (hu6.trans hu) HSv.out) HIX.out HIS2.out HLX.out HLS2.out)
        have HRs := hid (fun Z z w' (hu : Up w6 w') (hz : Vw w' z Z) (hi : In64 Z) (hl : Z.length <= 1000) => rresidual_any (HSc.out.up (hu6.trans hu)) hz (Vw.up (hu6.trans hu) HXc.out) hi HIX.out hl HLX.out)
        have HRq := hid (fun w' (hu : Up w6 w') => rresidual_any (HSc.out.up (hu6.trans hu)) (Vw.up (hu6.trans hu) HSv.out) (Vw.up (hu6.trans hu) HXc.out) HIS2.out HIX.out HLS2.out HLX.out)
        have HG6 := hid (fun w' (hu : Up w6 w') => HGc.out w' (hu6.trans hu))
        clear hu6 hb6 hbc hi7 hi7e hg2 HGc HSc HXc HSv
        go_loopg [85] 2 (fun g tk wr => ∃ k : Nat, k <= 2 /\ 2 - k <= g /\ tk = .int .i64 (k : Nat) /\ Up w6 wr)
        case atStart => exact ⟨0, by omega, by omega, rfl, Up.refl _⟩
        case round =>
         obtain ⟨kk, hkk, hkkg, rfl, hu⟩ := hrel
         by_cases hlt2 : kk < 2
         ·obtain ⟨jj, hj64, hcj⟩ := HJ.out kk hlt2
          have hcx := hcj _ hu
          have dk2 : decide ((kk : Int) < 2) = true := decide_eq_true (by omega)
          have hbr := hB6.up hu
          obtain ⟨HBad, HGood⟩ := HRu.out jj wr hu
          have HBad := hid HBad
          have HGood := hid HGood
          clear hcj hj64 HRu
          have HWa2 := hid HWa.out
          obtain ⟨C, hC⟩ : ∃ y, cgC NM LM X S = y := ⟨_, rfl⟩
          have HCe := hid hC
          rw [hC] at HBad HGood HWa2
          clear hC
          by_cases h0 : C = 0
          ·have d0 : (C != 0) = false := by simpa using h0
           have HGd := hid (HGood.out h0)
           have HZ := hid (cgC_zero (HCe.out.trans h0)).2
           unfold RunGood at HGd
           subst h0
           clear HBad HGood HCe
           go_upto_region 16 with (first
            | ((with_reducible apply ldM_P); exact rfl; exact rfl; exact hbr; exact rfl)
            | (go_at_call 8; (with_reducible refine (HGd.out).mono ?_); rintro r w7 ⟨z7, Z, kz, rfl, hu7, hZ, hZl, hZi, hZ0, hZle, hk0, hk1, hks⟩))
           have hU7 := hu.trans hu7
           have hb7 := hbr.up hu7
           have HZi := hid hZi
           have HZl := hid (show Z.length <= 1000 by
            obtain ⟨nn, rfl, hRt, hxl, -⟩ := rsC_len hZ0
            have := (rt_spec hRt).2.1
            omega)
           have HZv := hid hZ
           obtain ⟨pZ, cZ, rfl, -, -⟩ := hZ
           have HR1 := hid (fun w' (hu : Up w7 w') => HRq.out w' (hU7.trans hu))
           have HR2 := hid (fun w' (hu : Up w7 w') => HRs.out Z _ w' (hU7.trans hu) (Vw.up hu HZv.out) HZi.out HZl.out)
           rw [HZ.out] at HR1
           rw [hZ0] at HR2
           obtain ⟨a, ha⟩ : ∃ y, rsV NM LM S X = y := ⟨_, rfl⟩
           obtain ⟨b, hb⟩ : ∃ y, rsV NM LM Z X = y := ⟨_, rfl⟩
           rw [ha] at HR1 hZle hks
           rw [hb] at HR2 hZle
           have e1 : decide (a < b) = false := decide_eq_false (by omega)
           have e2 : decide (kz < 0) = false := decide_eq_false (by omega)
           have e3 : decide (min (max jj 0) 32 < kz) = false := decide_eq_false (by omega)
           have hks2 : a <= en -> kz = 0 := fun h => (hks h).1
           clear ha hb hZle hk0 hk1 hks hZl hZi hZ0 hu7
           by_cases hen : a <= en
           ·obtain rfl := hks2 hen
            have e4 : decide (a <= en) = true := decide_eq_true hen
            clear hen hks2
            go_wp2_with (first
             | ((with_reducible apply ldM_P); exact rfl; exact rfl; (first | exact hb7 | exact hb7.up hu8 | exact hb7.up (hu8.trans hu9) | exact hb7.up (hu8.trans (hu9.trans hu10))); exact rfl)
             | (go_at_call 9; (with_reducible refine (HWa2.out _ hU7).mono ?_); rintro r w8 ⟨rfl, hu8⟩)
             | (go_at_call 10; (with_reducible refine (cgsays_ok (HG6.out _ (hU7.trans hu8))).mono ?_); rintro r w9 ⟨rfl, hu9⟩)
             | (go_at_call 11; first
                | ((with_reducible refine (HR1.out _ (hu8.trans hu9)).mono ?_); rintro r w10 ⟨rfl, hu10⟩)
                | ((with_reducible refine (HR2.out _ (hu8.trans (hu9.trans hu10))).mono ?_); rintro r w11 ⟨rfl, hu11⟩)))
            go_roundg (2 - (kk + 1))
            case measure => omega
            case rel => exact ⟨kk + 1, by omega, Nat.le_refl _, rfl, hU7.trans (hu8.trans (hu9.trans (hu10.trans hu11)))⟩
           ·have e4 : decide (a <= en) = false := decide_eq_false hen
            clear hen hks2
            go_wp2_with (first
             | ((with_reducible apply ldM_P); exact rfl; exact rfl; (first | exact hb7 | exact hb7.up hu8 | exact hb7.up (hu8.trans hu9) | exact hb7.up (hu8.trans (hu9.trans hu10))); exact rfl)
             | (go_at_call 9; (with_reducible refine (HWa2.out _ hU7).mono ?_); rintro r w8 ⟨rfl, hu8⟩)
             | (go_at_call 10; (with_reducible refine (cgsays_ok (HG6.out _ (hU7.trans hu8))).mono ?_); rintro r w9 ⟨rfl, hu9⟩)
             | (go_at_call 11; first
                | ((with_reducible refine (HR1.out _ (hu8.trans hu9)).mono ?_); rintro r w10 ⟨rfl, hu10⟩)
                | ((with_reducible refine (HR2.out _ (hu8.trans (hu9.trans hu10))).mono ?_); rintro r w11 ⟨rfl, hu11⟩)))
            go_roundg (2 - (kk + 1))
            case measure => omega
            case rel => exact ⟨kk + 1, by omega, Nat.le_refl _, rfl, hU7.trans (hu8.trans (hu9.trans (hu10.trans hu11)))⟩
          ·have d0 : (C != 0) = true := by simpa using h0
           have HBd := hid (HBad.out h0)
           unfold RunBad at HBd
           clear HBad HGood h0 HCe
           go_wp2_with (first
            | ((with_reducible apply ldM_P); exact rfl; exact rfl; (first | exact hbr | exact hbr.up hu7); exact rfl)
            | (go_at_call 8; (with_reducible refine (HBd.out).mono ?_); rintro r w7 ⟨u7, rfl, hu7, he7⟩)
            | (go_at_call 9; (with_reducible refine (HWa2.out _ (hu.trans hu7)).mono ?_); rintro r w8 ⟨rfl, hu8⟩)
            | (go_at_call 10; (with_reducible refine (cgsays_any (he7.up hu8) (HG6.out _ (hu.trans (hu7.trans hu8)))).mono ?_); rintro r w9 ⟨rfl, hu9⟩))
           go_roundg (2 - (kk + 1))
           case measure => omega
           case rel => exact ⟨kk + 1, by omega, Nat.le_refl _, rfl, hu.trans (hu7.trans (hu8.trans hu9))⟩
         ·obtain rfl : kk = 2 := by omega
          go_wp2_with fail
          go_roundg (2 - (k + 1))
          case measure => omega
          case rel => exact ⟨k + 1, by omega, Nat.le_refl _, rfl, HU6.out.trans hu⟩
      ·obtain rfl : k = 2 := by omega
       go_wp2_with fail
       go_ret
       exact ⟨rfl, HU9.out.trans hu⟩
    ·have d4 : decide ((40 : Int) < (ls.length : Int)) = true := decide_eq_true (by omega)
     clear hraw ha0 hl0 hhc h16 hg hlen hn hd hIv hIs hmo
     go_enter Tryz.func3, Tryz.ntmps3
     go_wp2_with (first
      | (go_at_call 5; (with_reducible refine (HK.out _ hU).mono ?_); rintro r w1 ⟨rfl, hu1⟩; have hc1 := (hB.up hu1).cell 1 rfl))
     go_ret
     exact ⟨rfl, hU.trans hu1⟩
   ·have d3 : decide ((40 : Int) < (lv.length : Int)) = true := decide_eq_true (by omega)
    clear hraw ha0 hl0 hhc h16 hg hlen hn hd hIv hIs hmo
    go_enter Tryz.func3, Tryz.ntmps3
    go_wp2_with (first
     | (go_at_call 5; (with_reducible refine (HK.out _ hU).mono ?_); rintro r w1 ⟨rfl, hu1⟩; have hc1 := (hB.up hu1).cell 1 rfl))
    go_ret
    exact ⟨rfl, hU.trans hu1⟩
  ·have d2 : decide ((60 : Int) < (hs.length : Int)) = true := decide_eq_true (by omega)
   clear hraw ha0 hl0 hhc h16 hg hlen hn hd hIv hIs hmo
   go_enter Tryz.func3, Tryz.ntmps3
   go_wp2_with (first
    | (go_at_call 5; (with_reducible refine (HK.out _ hU).mono ?_); rintro r w1 ⟨rfl, hu1⟩; have hc1 := (hB.up hu1).cell 1 rfl))
   go_ret
   exact ⟨rfl, hU.trans hu1⟩
 ·have d1 : decide ((60 : Int) < (len0 : Int)) = true := decide_eq_true (by omega)
  clear hraw ha0 hl0 hhc h16 hg hlen hn hd hIv hIs hmo
  go_enter Tryz.func3, Tryz.ntmps3
  go_wp2_with (first
   | (go_at_call 5; (with_reducible refine (HK.out _ hU).mono ?_); rintro r w1 ⟨rfl, hu1⟩; have hc1 := (hB.up hu1).cell 1 rfl))
  go_ret
  exact ⟨rfl, hU.trans hu1⟩
theorem steps_row {w : World} {a0 a1 a2 a6 a7 : Int} {a8 : Bool} {p0 p3 p4 p5 : Option Addr} {len0 cap0 len3 cap3 len4 cap4 len5 cap5 : Nat} {z0 z3 z4 z5 : List Int} (hg : Glob w) (wf0 : (Lit.int .i64 a0).wf = true) (w0 : IsRowX .i64 w p0 len0 cap0 z0)
   (w1 : (Lit.int .u8 a1).wf = true) (w2 : (Lit.int .u16 a2).wf = true) (w3 : IsRowX .i16 w p3 len3 cap3 z3) (w4 : IsRowX .i64 w p4 len4 cap4 z4) (w5 : IsRowX .i64 w p5 len5 cap5 z5) (w6 : (Lit.int .i64 a6).wf = true) :
   Calls Tryz.prog 3 #[.agg #[.int .i64 a0, .slice p0 len0 cap0], .int .u8 a1, .int .u16 a2, .slice p3 len3 cap3, .slice p4 len4 cap4, .slice p5 len5 cap5, .int .i64 a6, .int .i64 a7, .bool a8] w fun r w' => r = .returned (.bool true) /\ Up w w' := by
 obtain ⟨n, rfl, hn⟩ := wf_nat (m := 255) w1 IntKind.min_u8 IntKind.max_u8
 obtain ⟨d, rfl, hd⟩ := wf_nat (m := 65535) w2 IntKind.min_u16 IntKind.max_u16
 exact steps_w n d a6 a7 a8 hg (vw_row w0).1 (wf_i64 wf0) (vw_row w0).2 hn hd (vh_row w3).1 (vh_row w3).2 (vw_row w4).1 (vw_row w4).2 (vw_row w5).1 (vw_row w5).2 (wf_i64 w6)
end Go.Proofs.YtahifcannoekhaaGreatDoor
namespace Go.Proofs.YtahifcannoekhaaGreatDoor
open Go.ChangeShapes Go.WideShapes Go.RowKit
set_option maxRecDepth 100000
theorem own4 : ownKnob Tryz.prog.godebug = none := by kernel_rfl
theorem et4 : Tryz.prog.globalNamed "errors.errorType" = some 0 := by kernel_rfl
theorem rt4 : (Tryz.prog.cutTypes.find? (·.1 == "internal/reflectlite.rtype")).map (·.2) = some 173 := by kernel_rfl
theorem oneRow4 : ((List.range 249).filter fun t => Tryz.prog.rowNamed t [101, 114, 114, 111, 114]) = [33] := by kernel_rfl
theorem size4 : Tryz.prog.types.size = 249 := by kernel_rfl
theorem glob_of_laid {W : World} (h : laidMetH Tryz.prog [("errors.errorType", Rows.laid_errors_errorType)] W) : Glob W := by
 have h' : laidMet Tryz.prog [] W /\ handlesMet Tryz.prog [("errors.errorType", Rows.laid_errors_errorType)] W := h
 obtain ⟨name, u, ty, e1, e2, e3, e4, e5⟩ := h'.2 _ (List.mem_singleton.2 rfl)
 have en : name = [101, 114, 114, 111, 114] := (Option.some.inj e1).symm
 subst en
 obtain rfl := Option.some.inj (rt4.symm.trans e2)
 have hm : ty ∈ (List.range 249).filter fun t => Tryz.prog.rowNamed t [101, 114, 114, 111, 114] := List.mem_filter.2 ⟨List.mem_range.2 (by rw [<- size4]; exact e3), e4⟩
 rw [oneRow4] at hm
 obtain rfl := List.mem_singleton.1 hm
 have hh : typeHandle Tryz.prog 33 = .pointer (some ⟨3, 33, none⟩) := by kernel_rfl
 rw [hh] at e5
 unfold Glob
 simpa using World.var?_cell et4 e5 0
noncomputable def laidWorld (os : Os) : World :=
 let w0 := World.holding Tryz.prog os ⟨#[], #[], []⟩
 { w0 with heap := w0.heap.modify 0 fun
    | .cells _ t frozen => .cells #[.iface 173 (.agg #[.pointer (some ⟨3, 33, none⟩)])] t frozen
    | o => o }
theorem laidWorld_met (os : Os) (args : Array Value) : laidMetH Tryz.prog [("errors.errorType", Rows.laid_errors_errorType)] ((laidWorld os).forCall (fun _ _ => 0) ⟨#[], args, []⟩).memory :=
 laidMetH_of_parts (laidMet_nil _ _) (by kernel_rfl)
end Go.Proofs.YtahifcannoekhaaGreatDoor
