import Derived.Test.YtahifcannoekhaaGreatDoorPh
import Derived.Deep.DeepCutAuto
import Derived.Test.YtahifcannoekhaaGreatDoorRows
import Derived.Test.YtahifcannoekhaaGreatDoorTie
import Derived.ChangeSame
import Derived.ChangeVars
import Derived.JoinedOf
import Derived.RowKit
import Derived.RowKitTokens
import Derived.LaidLaws
import Derived.LaidHandle
import Derived.Stop.Joined
import Derived.ChangeMaps5
import Derived.SevenTiedAt
namespace Go.Proofs.YtahifcannoekhaaGreatDoor
open Go Go.RowKit
set_option maxRecDepth 100000
theorem cg_fold {P : Program} {c : Code} {Q : Exit -> Act -> World -> Prop} {a : Act} {w : World} (R : World -> Prop) (h : R w) (k : ∀ w', R w' -> c.wp P Q a w') : c.wp P Q a w := k w h
theorem cgsays_ok {w : World} (hg : Glob w) : Calls Tryz.prog 10 #[.nilIface, .int .i64 0] w fun r w' => r = .returned (.bool true) /\ Up w w' := cgsays_any (.inl ⟨rfl, rfl⟩) hg
set_option maxHeartbeats 32000000 in
theorem settles_w {w : World} {vh vv vs : Value} {hs lv ls : List Int} (n d : Nat) (en : Int) (sm : Bool) (hg : Glob w) (hn : n < 256) (hd : d < 65536) (hvh : Vh w vh hs) (h16 : In16 hs) (hvv : Vw w vv lv) (hIv : In64 lv) (hvs : Vw w vs ls) (hIs : In64 ls) (hen : I64 en) :
   Calls Tryz.prog 4 #[.int .u8 (n : Nat), .int .u16 (d : Nat), vh, vv, vs, .int .i64 en, .bool sm] w fun r w' => r = .returned (.bool true) /\ Up w w' := by
 have HK := hid (fun w' (hu : Up w w') => cgknown_true (hg.up hu))
 have HG := hid (fun w' (hu : Up w w') => hg.up hu)
 have HVV := hid (fun w' (hu : Up w w') => Vw.up hu hvv)
 have HVS := hid (fun w' (hu : Up w w') => Vw.up hu hvs)
 obtain ⟨ph, ch, rfl, hhc⟩ := hvh
 obtain ⟨pv, cv, rfl, -⟩ := hvv
 obtain ⟨ps, cs, rfl, -⟩ := hvs
 by_cases hC : hs.length <= 60
 ·have d2 : decide ((60 : Int) < (hs.length : Int)) = false := decide_eq_false (by omega)
  by_cases hDv : lv.length <= 40
  ·have d3 : decide ((40 : Int) < (lv.length : Int)) = false := decide_eq_false (by omega)
   by_cases hDs : ls.length <= 40
   ·have d4 : decide ((40 : Int) < (ls.length : Int)) = false := decide_eq_false (by omega)
    have HST := hid (fun w' (hu : Up w w') => seat_any n d hn hd (show Vh w' (.slice ph hs.length ch) hs from ⟨ph, ch, rfl, fun i hi => by obtain ⟨a, h1, h2⟩ := hhc i hi; exact ⟨a, h1, hu.cellEq h2⟩⟩) h16 hC)
    clear hhc h16 hg hn hd
    have HIV := hid hIv
    have HIS := hid hIs
    have HEN := hid hen
    clear hIv hIs hen
    go_enter Tryz.func4, Tryz.ntmps4
    go_upto_region 6 with (first
     | (go_at_call 5; (with_reducible refine (HK.out _ (Up.refl _)).mono ?_); rintro r w1 ⟨rfl, hu1⟩)
     | (go_at_call 6; (with_reducible refine (HST.out _ hu1).mono ?_); rintro r w2 ⟨z, N, L, rfl, hu2, hs2, hR⟩; obtain ⟨m0, m8, -, -⟩ := rt_spec hR; obtain ⟨m, rfl⟩ : ∃ m : Nat, N = (m : Int) := ⟨N.toNat, by omega⟩; have hs2' := hs2; obtain ⟨s, base, rfl, hO2, hr2⟩ := hs2'; obtain ⟨p2, n2, c2, rfl⟩ := OwnI.slice hO2)
     | ((with_reducible apply stM_P); exact rfl; exact rfl; exact Blk.new _ _ rfl; exact rfl; exact rfl; exact two2 _ _ _ _ _
        refine wpL_folded (fun wd => Up w2 wd /\ Blk wd w2.heap.size 24 #[.int .i64 (m : Int), .slice p2 n2 c2] /\ SmO wd (.agg #[.int .i64 (m : Int), .slice p2 n2 c2]) m L) ⟨gUp, gBlk, (hs2.up (Up.alloc _ _)).setRow (Blk.new _ _ rfl)⟩ ?_
        rintro w3 ⟨hu3, hb3, hs3⟩))
    have hU3 := hu1.trans (hu2.trans hu3)
    have HM8 := hid (show m <= 8 by omega)
    obtain ⟨bm, hbm⟩ : ∃ y, w2.heap.size = y := ⟨_, rfl⟩
    rw [hbm] at hb3 ⊢
    have HS3 := hid hs3.sm
    clear hu1 hu2 hu3 hs2 hO2 hbm hs3 hR hr2 m0 m8 HST HK d2 d3 d4
    have hl60 : lv.length <= 60 := by omega
    have hs60 : ls.length <= 60 := by omega
    have HVc1 := hid (fun w' (hu : Up w3 w') => show Calls Tryz.prog 7 #[.agg #[.int .i64 (m : Nat), .slice p2 n2 c2], .slice pv lv.length cv, .bool sm] w' (fun e w'' => Up w' w'' /\ ∃ v, e = .returned v /\ Vw w'' v (vecL lv sm m)) from (vec_any m sm rfl HM8.out (HVV.out _ (hU3.trans hu)) HIV.out hl60).mono fun _ _ h => by obtain ⟨z, b, rfl, h1, -, h2⟩ := h; exact ⟨h1, z, rfl, h2.vw⟩)
    have HVc2 := hid (fun w' (hu : Up w3 w') => show Calls Tryz.prog 7 #[.agg #[.int .i64 (m : Nat), .slice p2 n2 c2], .slice ps ls.length cs, .bool sm] w' (fun e w'' => Up w' w'' /\ ∃ v, e = .returned v /\ Vw w'' v (vecL ls sm m)) from (vec_any m sm rfl HM8.out (HVS.out _ (hU3.trans hu)) HIS.out hs60).mono fun _ _ h => by obtain ⟨z, b, rfl, h1, -, h2⟩ := h; exact ⟨h1, z, rfl, h2.vw⟩)
    clear hl60 hs60 hC hDv hDs
    try simp only [Act.put]
    refine wp_region_sp (n := 119) 10 [47, 48, 49, 50, 51, 52, 53, 54, 16, 17] [SP.is (.agg #[.int .i64 (m : Nat), .slice p2 n2 c2]), SP.is (.slice pv lv.length cv), SP.is (.bool sm), SP.of (fun v w1 => Vw w1 v (vecL lv sm m)) (fun _ _ _ h hu => Vw.up hu h), SP.is (.agg #[.int .i64 (m : Nat), .slice p2 n2 c2]), SP.is (.slice ps ls.length cs), SP.is (.bool sm), SP.of (fun v w1 => Vw w1 v (vecL ls sm m)) (fun _ _ _ h hu => Vw.up hu h), SP.of (fun v w1 => Vw w1 v (vecL lv sm m)) (fun _ _ _ h hu => Vw.up hu h), SP.of (fun v w1 => Vw w1 v (vecL ls sm m)) (fun _ _ _ h hu => Vw.up hu h)] (fun wq => Blk wq bm 24 #[.int .i64 (m : Int), .slice p2 n2 c2] /\ Up w3 wq /\ Below w.heap.size w wq) (by kernel_rfl) (by rfl) (by kernel_rfl) (by kernel_rfl) (fun _ _ h hu => ⟨(h.1).up hu, (h.2.1).trans hu, below_up (h.2.2) hu⟩) ⟨(by first | assumption | exact gBlk), (by first | exact Up.refl _ | assumption), gUp⟩ (fun ev w9 hS9 i o hne hi hev => ?_) (fun gR wE hq hSE huE => ?_)
    ·have ⟨hS1, hS2, hSB⟩ := hS9
     have hcC := hev.const
     have hcF := hev.func
     have hcG := hev.global
     rcases i with _ | _ | _ | _ | _ | _ | _ | _ | _ | _ | i
     ·obtain rfl := oI hi
      have e15 := hev.other 15 (by kernel_rfl)
      simp [Act.eval] at e15
      exact leavesR_value (run_ldME rfl (by go_simp) hS1 rfl) rfl
     ·obtain rfl := oI hi
      have e3 := hev.other 3 (by kernel_rfl)
      simp [Act.eval] at e3
      exact lV (.slice pv lv.length cv)
     ·obtain rfl := oI hi
      have e6 := hev.other 6 (by kernel_rfl)
      simp [Act.eval] at e6
      exact lV (.bool sm)
     ·obtain rfl := oI hi
      have e47 : ev (.tmp 47) = (.agg #[.int .i64 (m : Nat), .slice p2 n2 c2]) := hev.dep 0 47 (by kernel_rfl)
      have e48 : ev (.tmp 48) = (.slice pv lv.length cv) := hev.dep 1 48 (by kernel_rfl)
      have e49 : ev (.tmp 49) = (.bool sm) := hev.dep 2 49 (by kernel_rfl)
      refine leavesR_call ?_ (HVc1.out _ hS2)
      go_simp
     ·obtain rfl := oI hi
      have e15 := hev.other 15 (by kernel_rfl)
      simp [Act.eval] at e15
      exact leavesR_value (run_ldME rfl (by go_simp) hS1 rfl) rfl
     ·obtain rfl := oI hi
      have e4 := hev.other 4 (by kernel_rfl)
      simp [Act.eval] at e4
      exact lV (.slice ps ls.length cs)
     ·obtain rfl := oI hi
      have e6 := hev.other 6 (by kernel_rfl)
      simp [Act.eval] at e6
      exact lV (.bool sm)
     ·obtain rfl := oI hi
      have e51 : ev (.tmp 51) = (.agg #[.int .i64 (m : Nat), .slice p2 n2 c2]) := hev.dep 4 51 (by kernel_rfl)
      have e52 : ev (.tmp 52) = (.slice ps ls.length cs) := hev.dep 5 52 (by kernel_rfl)
      have e53 : ev (.tmp 53) = (.bool sm) := hev.dep 6 53 (by kernel_rfl)
      refine leavesR_call ?_ (HVc2.out _ hS2)
      go_simp
     ·obtain rfl := oI hi
      have e50 : (fun v w1 => Vw w1 v (vecL lv sm m)) (ev (.tmp 50)) w9 := hev.dep 3 50 (by kernel_rfl)
      dsimp only at e50
      obtain ⟨v50, hv50⟩ : ∃ v, ev (.tmp 50) = v := ⟨_, rfl⟩
      rw [hv50] at e50
      exact leavesR_value (u := v50) (by go_simp) e50
     ·obtain rfl := oI hi
      have e54 : (fun v w1 => Vw w1 v (vecL ls sm m)) (ev (.tmp 54)) w9 := hev.dep 7 54 (by kernel_rfl)
      dsimp only at e54
      obtain ⟨v54, hv54⟩ : ∃ v, ev (.tmp 54) = v := ⟨_, rfl⟩
      rw [hv54] at e54
      exact leavesR_value (u := v54) (by go_simp) e54
     ·exact absurd (show i + 10 < 10 from (Array.getElem?_eq_some_iff.1 hi).1) (by omega)
    have ⟨hS1, hS2, hSB⟩ := hSE
    have q0 : gR 47 = (.agg #[.int .i64 (m : Nat), .slice p2 n2 c2]) := hq 0 47 (by decide) (by kernel_rfl)
    have q1 : gR 48 = (.slice pv lv.length cv) := hq 1 48 (by decide) (by kernel_rfl)
    have q2 : gR 49 = (.bool sm) := hq 2 49 (by decide) (by kernel_rfl)
    have q3 : (fun v w1 => Vw w1 v (vecL lv sm m)) (gR 50) wE := hq 3 50 (by decide) (by kernel_rfl)
    dsimp only at q3
    obtain ⟨v50, hv50⟩ : ∃ v, gR 50 = v := ⟨_, rfl⟩
    rw [hv50] at q3
    have q4 : gR 51 = (.agg #[.int .i64 (m : Nat), .slice p2 n2 c2]) := hq 4 51 (by decide) (by kernel_rfl)
    have q5 : gR 52 = (.slice ps ls.length cs) := hq 5 52 (by decide) (by kernel_rfl)
    have q6 : gR 53 = (.bool sm) := hq 6 53 (by decide) (by kernel_rfl)
    have q7 : (fun v w1 => Vw w1 v (vecL ls sm m)) (gR 54) wE := hq 7 54 (by decide) (by kernel_rfl)
    dsimp only at q7
    obtain ⟨v54, hv54⟩ : ∃ v, gR 54 = v := ⟨_, rfl⟩
    rw [hv54] at q7
    have q8 : (fun v w1 => Vw w1 v (vecL lv sm m)) (gR 16) wE := hq 8 16 (by decide) (by kernel_rfl)
    dsimp only at q8
    obtain ⟨v16, hv16⟩ : ∃ v, gR 16 = v := ⟨_, rfl⟩
    rw [hv16] at q8
    have q9 : (fun v w1 => Vw w1 v (vecL ls sm m)) (gR 17) wE := hq 9 17 (by decide) (by kernel_rfl)
    dsimp only at q9
    obtain ⟨v17, hv17⟩ : ∃ v, gR 17 = v := ⟨_, rfl⟩
    rw [hv17] at q9
    refine ⟨fun _ => ?_, fun o ho => by simp at ho⟩
    simp only [putL, List.map_cons, List.map_nil, q0, q1, q2, hv50, q4, q5, q6, hv54, hv16, hv17, Act.put, pu1, pu2, pu3]
    clear hq hSE q0 q1 q2 q4 q5 q6
    have hUE := hU3.trans hS2
    have HSE := hid (HS3.out.up hS2)
    have hBE := hS1
    clear q3 q7 hSB hS2 huE hS1 hb3 hU3 HVc1 HVc2 HVV HVS HS3 hv50 hv54
    have hXl := vecL_len lv sm m
    have hVl := vecL_len ls sm m
    have hXi := vecL_in HIV.out sm m (by have := HM8.out; omega)
    have hVi := vecL_in HIS.out sm m (by have := HM8.out; omega)
    generalize vecL lv sm m = X at *
    generalize vecL ls sm m = V at *
    have HXi := hid hXi
    have HVi := hid hVi
    have HX8 := hid (show X.length <= 1000 by have := HM8.out; omega)
    have HV8 := hid (show V.length <= 1000 by have := HM8.out; omega)
    obtain ⟨pX, cX, rfl, -, -⟩ := id q8
    obtain ⟨pV, cV, rfl, -, -⟩ := id q9
    have HQ8 := hid q8
    have HQ9 := hid q9
    clear q8 q9 hXl hVl hXi hVi
    go_upto_region 8 with fail
    have hi7 := bits_in BinOp.and en 1023
    obtain ⟨e7, he7⟩ : ∃ y, bits BinOp.and IntKind.i64 en 1023 = y := ⟨_, rfl⟩
    rw [he7] at hi7 ⊢
    refine cg_fold (fun wd => Up wE wd /\ Blk wd wE.heap.size 2 #[.int .i64 en, .int .i64 e7]) ⟨Up.alloc _ _, Blk.new _ _ rfl⟩ (fun w6 h6 => ?_)
    obtain ⟨hu6, hb6⟩ := h6
    obtain ⟨g2, hg2⟩ : ∃ y, wE.heap.size = y := ⟨_, rfl⟩
    rw [hg2] at hb6 ⊢
    have HJ : Hid (∀ k, k < 2 -> ∃ j, I64 j /\ ∀ w', Up w6 w' -> w'.cell? ⟨g2, k, none⟩ = some (.int .i64 j)) := hid (fun k hk => by
     rcases k with _ | _ | k
     ·exact ⟨en, HEN.out, fun w' hu => (hb6.up hu).cell 0 rfl⟩
     ·exact ⟨e7, hi7, fun w' hu => (hb6.up hu).cell 1 rfl⟩
     ·omega)
    have hU6 := hUE.trans hu6
    have HU6 := hid hU6
    have hB6 := hBE.up hu6
    have HSt := hid (fun j w' (hu : Up w6 w') => settle_any (enough := j) (HSE.out.up (hu6.trans hu)) (Vw.up (hu6.trans hu) HQ8.out) (Vw.up (hu6.trans hu) HQ9.out) HXi.out HVi.out HX8.out HV8.out)
    have HWa := hid (fun w' (hu : Up w6 w') => want_any (HSE.out.up (hu6.trans hu)) (Vw.up (hu6.trans hu) HQ8.out) (Vw.up (hu6.trans hu) HQ9.out) HXi.out HVi.out HX8.out HV8.out)
    have HRs := hid (fun Z z w' (hu : Up w6 w') (hz : Vw w' z Z) (hi : In64 Z) (hl : Z.length <= 1000) => rresidual_any (HSE.out.up (hu6.trans hu)) hz (Vw.up (hu6.trans hu) HQ8.out) hi HXi.out hl HX8.out)
    have HNr := hid (fun w' (hu : Up w6 w') => rnear_any (HSE.out.up (hu6.trans hu)) (Vw.up (hu6.trans hu) HQ8.out) HXi.out HX8.out)
    have HG6 := hid (fun w' (hu : Up w6 w') => HG.out w' (hU6.trans hu))
    clear hu6 hb6 hBE hi7 he7 hg2 hUE hU6 HG HSE
    go_loopg [60] 2 (fun g tk wr => ∃ k : Nat, k <= 2 /\ 2 - k <= g /\ tk = .int .i64 (k : Nat) /\ Up w6 wr)
    case atStart => exact ⟨0, by omega, by omega, rfl, Up.refl _⟩
    case round =>
     obtain ⟨kk, hkk, hkkg, rfl, hu⟩ := hrel
     by_cases hlt2 : kk < 2
     ·obtain ⟨jj, hj64, hcj⟩ := HJ.out kk hlt2
      have hcx := hcj _ hu
      have dk2 : decide ((kk : Int) < 2) = true := decide_eq_true (by omega)
      have hbr := hB6.up hu
      obtain ⟨HBad, HGood⟩ := HSt.out jj wr hu
      have HBad := hid HBad
      have HGood := hid HGood
      clear hcj hj64
      have HWa2 := hid HWa.out
      clear HSt
      obtain ⟨C, hC⟩ : ∃ y, cgC (m : Int) L X V = y := ⟨_, rfl⟩
      rw [hC] at HBad HGood HWa2
      clear hC
      by_cases h0 : C = 0
      ·have d0 : (C != 0) = false := by simpa using h0
       have HGd := hid (HGood.out h0)
       unfold SettleGood at HGd
       subst h0
       clear HBad HGood
       go_upto_region 11 with (first
        | ((with_reducible apply ldM_P); exact rfl; exact rfl; exact hbr; exact rfl)
        | (go_at_call 12; (with_reducible refine (HGd.out).mono ?_); rintro r w7 ⟨z7, Z, ok, rfl, hu7, hZ, hZi, hZl, h1, h2, -⟩))
       have hU7 := hu.trans hu7
       have hb7 := hbr.up hu7
       have HZi := hid hZi
       have HZl := hid (show Z.length <= 1000 by omega)
       have HZ := hid hZ
       obtain ⟨pZ, cZ, rfl, -, -⟩ := hZ
       clear hZi hZl hu7
       cases ok with
       | true =>
         have h3 := (h1 rfl).2
         have d3 : decide (jj < rsV (m : Int) L Z X) = false := decide_eq_false (by omega)
         clear h1 h2 h3
         go_wp2_with (first
          | ((with_reducible apply ldM_P); exact rfl; exact rfl; (first | exact hb7 | exact hb7.up hu8 | exact hb7.up (hu8.trans hu9) | exact hb7.up (hu8.trans (hu9.trans hu10))); exact rfl)
          | (go_at_call 9; (with_reducible refine (HWa2.out _ hU7).mono ?_); rintro r w8 ⟨rfl, hu8⟩)
          | (go_at_call 10; (with_reducible refine (cgsays_ok (HG6.out _ (hU7.trans hu8))).mono ?_); rintro r w9 ⟨rfl, hu9⟩)
          | (go_at_call 11; (with_reducible refine (HRs.out Z _ _ (hU7.trans (hu8.trans hu9)) (Vw.up (hu8.trans hu9) HZ.out) HZi.out HZl.out).mono ?_); rintro r w10 ⟨rfl, hu10⟩)
          | (go_at_call 13; (with_reducible refine (HNr.out _ (hU7.trans (hu8.trans (hu9.trans hu10)))).mono ?_); rintro r w11 ⟨z11, rfl, hu11, hN11⟩))
         go_roundg (2 - (kk + 1))
         case measure => omega
         case rel => exact ⟨kk + 1, by omega, Nat.le_refl _, rfl, hU7.trans (hu8.trans (hu9.trans (hu10.trans hu11)))⟩
       | false =>
         have h3 := h2 rfl
         have HZN := hid h3
         clear h1 h2 h3
         go_wp2_with (first
          | ((with_reducible apply ldM_P); exact rfl; exact rfl; (first | exact hb7 | exact hb7.up hu8 | exact hb7.up (hu8.trans hu9) | exact hb7.up (hu8.trans (hu9.trans hu10))); exact rfl)
          | (go_at_call 9; (with_reducible refine (HWa2.out _ hU7).mono ?_); rintro r w8 ⟨rfl, hu8⟩)
          | (go_at_call 10; (with_reducible refine (cgsays_ok (HG6.out _ (hU7.trans hu8))).mono ?_); rintro r w9 ⟨rfl, hu9⟩)
          | (go_at_call 11; (with_reducible refine (HRs.out Z _ _ (hU7.trans (hu8.trans hu9)) (Vw.up (hu8.trans hu9) HZ.out) HZi.out HZl.out).mono ?_); rintro r w10 ⟨rfl, hu10⟩)
          | (go_at_call 13; (with_reducible refine (HNr.out _ (hU7.trans (hu8.trans (hu9.trans hu10)))).mono ?_); rintro r w11 ⟨z11, rfl, hu11, hN11⟩)
          | (go_at_call 14; (with_reducible refine (ints_eq (Vw.up (hu8.trans (hu9.trans (hu10.trans hu11))) HZ.out) (HZN.out ▸ hN11) HZl.out).mono ?_); rintro r w12 ⟨rfl, hu12⟩))
         go_roundg (2 - (kk + 1))
         case measure => omega
         case rel => exact ⟨kk + 1, by omega, Nat.le_refl _, rfl, hU7.trans (hu8.trans (hu9.trans (hu10.trans (hu11.trans hu12))))⟩
      ·have d0 : (C != 0) = true := by simpa using h0
       have HBd := hid (HBad.out h0)
       unfold SettleBad at HBd
       clear HBad HGood h0
       go_wp2_with (first
        | ((with_reducible apply ldM_P); exact rfl; exact rfl; (first | exact hbr | exact hbr.up hu7); exact rfl)
        | (go_at_call 12; (with_reducible refine (HBd.out).mono ?_); rintro r w7 ⟨u7, rfl, hu7, he7⟩)
        | (go_at_call 9; (with_reducible refine (HWa2.out _ (hu.trans hu7)).mono ?_); rintro r w8 ⟨rfl, hu8⟩)
        | (go_at_call 10; (with_reducible refine (cgsays_any (he7.up hu8) (HG6.out _ (hu.trans (hu7.trans hu8)))).mono ?_); rintro r w9 ⟨rfl, hu9⟩))
       go_roundg (2 - (kk + 1))
       case measure => omega
       case rel => exact ⟨kk + 1, by omega, Nat.le_refl _, rfl, hu.trans (hu7.trans (hu8.trans hu9))⟩
     ·obtain rfl : kk = 2 := by omega
      go_wp2_with fail
      go_ret
      exact ⟨rfl, HU6.out.trans hu⟩
   ·have d4 : decide ((40 : Int) < (ls.length : Int)) = true := decide_eq_true (by omega)
    clear hhc h16 hg hn hd hIv hIs hen
    go_enter Tryz.func4, Tryz.ntmps4
    go_wp2_with (first
     | (go_at_call 5; (with_reducible refine (HK.out _ (Up.refl _)).mono ?_); rintro r w1 ⟨rfl, hu1⟩))
    go_ret
    exact ⟨rfl, hu1⟩
  ·have d3 : decide ((40 : Int) < (lv.length : Int)) = true := decide_eq_true (by omega)
   clear hhc h16 hg hn hd hIv hIs hen
   go_enter Tryz.func4, Tryz.ntmps4
   go_wp2_with (first
    | (go_at_call 5; (with_reducible refine (HK.out _ (Up.refl _)).mono ?_); rintro r w1 ⟨rfl, hu1⟩))
   go_ret
   exact ⟨rfl, hu1⟩
 ·have d2 : decide ((60 : Int) < (hs.length : Int)) = true := decide_eq_true (by omega)
  clear hhc h16 hg hn hd hIv hIs hen
  go_enter Tryz.func4, Tryz.ntmps4
  go_wp2_with (first
   | (go_at_call 5; (with_reducible refine (HK.out _ (Up.refl _)).mono ?_); rintro r w1 ⟨rfl, hu1⟩))
  go_ret
  exact ⟨rfl, hu1⟩
theorem settles_row {w : World} {a0 a1 a5 : Int} {a6 : Bool} {p2 p3 p4 : Option Addr} {len2 cap2 len3 cap3 len4 cap4 : Nat} {z2 z3 z4 : List Int} (hg : Glob w)
   (w0 : (Lit.int .u8 a0).wf = true) (w1 : (Lit.int .u16 a1).wf = true) (w2 : IsRowX .i16 w p2 len2 cap2 z2) (w3 : IsRowX .i64 w p3 len3 cap3 z3) (w4 : IsRowX .i64 w p4 len4 cap4 z4) (w5 : (Lit.int .i64 a5).wf = true) :
   Calls Tryz.prog 4 #[.int .u8 a0, .int .u16 a1, .slice p2 len2 cap2, .slice p3 len3 cap3, .slice p4 len4 cap4, .int .i64 a5, .bool a6] w fun r w' => r = .returned (.bool true) /\ Up w w' := by
 obtain ⟨n, rfl, hn⟩ := wf_nat (m := 255) w0 IntKind.min_u8 IntKind.max_u8
 obtain ⟨d, rfl, hd⟩ := wf_nat (m := 65535) w1 IntKind.min_u16 IntKind.max_u16
 exact settles_w n d a5 a6 hg hn hd (vh_row w2).1 (vh_row w2).2 (vw_row w3).1 (vw_row w3).2 (vw_row w4).1 (vw_row w4).2 (wf_i64 w5)
end Go.Proofs.YtahifcannoekhaaGreatDoor
namespace Go.Proofs.YtahifcannoekhaaGreatDoor
open Go.ChangeShapes Go.WideShapes Go.RowKit
set_option maxRecDepth 100000
theorem own4 : ownKnob Tryz.prog.godebug = none := by kernel_rfl
theorem et4 : Tryz.prog.globalNamed "errors.errorType" = some 0 := by kernel_rfl
theorem rt4 : (Tryz.prog.cutTypes.find? (·.1 == "internal/reflectlite.rtype")).map (·.2) = some 173 := by kernel_rfl
theorem oneRow4 : ((List.range 249).filter fun t => Tryz.prog.rowNamed t [101, 114, 114, 111, 114]) = [33] := by kernel_rfl
theorem size4 : Tryz.prog.types.size = 249 := by kernel_rfl
theorem glob_of_laid {W : World} (h : laidMetH Tryz.prog [("errors.errorType", Rows.laid_errors_errorType)] W) : Glob W := by
 have h' : laidMet Tryz.prog [] W /\ handlesMet Tryz.prog [("errors.errorType", Rows.laid_errors_errorType)] W := h
 obtain ⟨name, u, ty, e1, e2, e3, e4, e5⟩ := h'.2 _ (List.mem_singleton.2 rfl)
 have en : name = [101, 114, 114, 111, 114] := (Option.some.inj e1).symm
 subst en
 obtain rfl := Option.some.inj (rt4.symm.trans e2)
 have hm : ty ∈ (List.range 249).filter fun t => Tryz.prog.rowNamed t [101, 114, 114, 111, 114] := List.mem_filter.2 ⟨List.mem_range.2 (by rw [<- size4]; exact e3), e4⟩
 rw [oneRow4] at hm
 obtain rfl := List.mem_singleton.1 hm
 have hh : typeHandle Tryz.prog 33 = .pointer (some ⟨3, 33, none⟩) := by kernel_rfl
 rw [hh] at e5
 unfold Glob
 simpa using World.var?_cell et4 e5 0
noncomputable def laidWorld (os : Os) : World :=
 let w0 := World.holding Tryz.prog os ⟨#[], #[], []⟩
 { w0 with heap := w0.heap.modify 0 fun
    | .cells _ t frozen => .cells #[.iface 173 (.agg #[.pointer (some ⟨3, 33, none⟩)])] t frozen
    | o => o }
theorem laidWorld_met (os : Os) (args : Array Value) : laidMetH Tryz.prog [("errors.errorType", Rows.laid_errors_errorType)] ((laidWorld os).forCall (fun _ _ => 0) ⟨#[], args, []⟩).memory :=
 laidMetH_of_parts (laidMet_nil _ _) (by kernel_rfl)
end Go.Proofs.YtahifcannoekhaaGreatDoor
