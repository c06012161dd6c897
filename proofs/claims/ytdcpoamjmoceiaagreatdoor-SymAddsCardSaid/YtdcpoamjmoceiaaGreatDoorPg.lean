/-
  What the claim's law is built of: Sa4, SyRow, SyRowA, Law4.
-/
import Derived.Test.YtdcpoamjmoceiaaGreatDoorPf
import Derived.DataShut
import Derived.Test.YtdcpoamjmoceiaaGreatDoorRows
import Derived.Test.YtdcpoamjmoceiaaGreatDoorTie
import Derived.ChangeSame
import Derived.ChangeVars
import Derived.JoinedOf
import Derived.RowKit
import Derived.RowKitTokens
import Derived.LaidLaws
import Derived.LaidHandle
import Derived.Stop.Joined
import Derived.ChangeMaps5
import Derived.SevenTiedAt
/-
  SymAdds: what an outer product, a number on the diagonal, makes of any matrix, and what a list is by it.
-/
namespace Go.Proofs.YtdcpoamjmoceiaaGreatDoor
open Go Go.RowKit
set_option maxRecDepth 100000
set_option maxRecDepth 100000

theorem place_any (k : Int) (h1 : I64 k) (w : World) :
    Calls Tryz.prog 12 #[.int .i64 k, .int .i64 9] w fun r w' => ∃ q : Nat, q ≤ 8 ∧ r = .returned (.int .i64 (q : Nat)) ∧ Up w w' := by
  have hb := tmod_bound k (m := 9) (by decide)
  obtain ⟨t, ht⟩ : ∃ t, k.tmod 9 = t := ⟨_, rfl⟩
  rw [ht] at hb
  have e0 : IntKind.i64.wrap t = t := IntWalk.i64_in _ (by omega)
  have e9 : IntKind.i64.wrap (t + 9) = t + 9 := IntWalk.i64_in _ (by omega)
  by_cases h : t < 0
  · have d : decide (t < 0) = true := decide_eq_true h
    go_enter Tryz.func12, Tryz.ntmps12
    go_wp2_with fail
    go_ret
    exact ⟨(t + 9).toNat, by omega, by rw [show (((t + 9).toNat : Nat) : Int) = t + 9 by omega]; rfl, Up.refl _⟩
  · have d : decide (t < 0) = false := decide_eq_false h
    go_enter Tryz.func12, Tryz.ntmps12
    go_wp2_with fail
    go_ret
    exact ⟨t.toNat, by omega, by rw [show ((t.toNat : Nat) : Int) = t by omega]; rfl, Up.refl _⟩
theorem tmR_bp {N : Int} {l x : List Int} (hx : In64 x) (h1000 : x.length ≤ 1000) : (∀ i, i < (tmR N l x).length → (zth (tmR N l x) i).natAbs < bp 15) ∧ (tmR N l x).length < 1000000 := by
  unfold tmR
  by_cases h : tmC N l x = 0
  · rw [if_pos h]
    unfold tmC at h
    cases hr : rt N l with
    | false => rw [hr] at h; simp at h
    | true =>
      rw [hr, Bool.true_and] at h
      by_cases hn : (x.length : Int) = N
      · obtain ⟨n0, n8, _, _⟩ := rt_spec hr
        obtain ⟨n, rfl⟩ : ∃ n : Nat, N = (n : Int) := ⟨x.length, hn.symm⟩
        have hxn : x.length = n := by omega
        have hl : (tmL (n : Int).toNat l x).length = n := by show (mk _ _).length = n; rw [mk_len]; omega
        refine ⟨fun i hi => ?_, by rw [hl]; omega⟩
        rw [hl] at hi
        have : zth (tmL (n : Int).toNat l x) i = tmS n l x i n := by
          rw [show (n : Int).toNat = n by omega]; exact mk_at hi
        rw [this]
        exact Nat.lt_of_lt_of_le (tmS_bp hr hx hxn hi (Nat.le_refl n) (by omega)) (bp_mono (by omega))
      · rw [decide_eq_false hn] at h; simp at h
  · rw [if_neg h]
    exact ⟨fun i hi => absurd hi (Nat.not_lt_zero _), by simp⟩
set_option maxHeartbeats 16000000 in
theorem adds_w {w : World} {a0 : Int} {p0 : Option Addr} {len0 cap0 : Nat} {l : List Int} {vh vk : Value} {hs hl : List Int} (n d : Nat) (wt v : Int) (sm : Bool) (hg : Glob w) (hraw : Vw w (.slice p0 len0 cap0) l) (ha0 : I64 a0) (hli : In64 l)
    (hn : n < 256) (hd : d < 65536) (hvh : Vh w vh hs) (h16 : In16 hs) (hvk : Vw w vk hl) (hI : In64 hl) (hwt : I64 wt) (hv : I64 v) :
    Calls Tryz.prog 3 #[.agg #[.int .i64 a0, .slice p0 len0 cap0], .int .u8 (n : Nat), .int .u16 (d : Nat), vh, .int .i64 wt, vk, .int .i64 v, .bool sm] w fun r w' => r = .returned (.bool true) ∧ Up w w' := by
  have HK := hid (fun w' (hu : Up w w') => known_true (hg.up hu))
  have HG := hid (fun w' (hu : Up w w') => hg.up hu)
  have HVK := hid (fun w' (hu : Up w w') => Vw.up hu hvk)
  have hlen : len0 = l.length := by
    obtain ⟨p, c, e, _⟩ := hraw
    injection e
  obtain ⟨ph, ch, rfl, hhc⟩ := hvh
  obtain ⟨pk, ck, rfl, -⟩ := hvk
  obtain ⟨W0, hW0⟩ : ∃ W0, w.alloc (.cells #[.int .i64 a0, .slice p0 len0 cap0] 24) = W0 := ⟨_, rfl⟩
  have hB : Blk W0 w.heap.size 24 #[.int .i64 a0, .slice p0 len0 cap0] := by rw [← hW0]; exact Blk.new _ _ rfl
  have hU : Up w W0 := by rw [← hW0]; exact Up.alloc _ _
  have HLI := hid (fun w => light_any (N := a0) (s := .slice p0 len0 cap0) w rfl)
  by_cases hA : len0 ≤ 60
  · rw [decide_eq_true hA] at HLI
    by_cases hC : hs.length ≤ 60
    · have d60 : decide ((60 : Int) < (hs.length : Int)) = false := decide_eq_false (by omega)
      by_cases hD : hl.length ≤ 40
      · have d40 : decide ((40 : Int) < (hl.length : Int)) = false := decide_eq_false (by omega)
        have hSm : Sm w (.agg #[.int .i64 a0, .slice p0 len0 cap0]) a0 l := ⟨_, rfl, hraw, ha0, hli, by omega⟩
        have HSm := hid hSm
        have HST := hid (fun w' (hu : Up w w') => seat_any n d hn hd (show Vh w' (.slice ph hs.length ch) hs from ⟨ph, ch, rfl, fun i hi => by obtain ⟨a, h1, h2⟩ := hhc i hi; exact ⟨a, h1, hu.cellEq h2⟩⟩) h16 hC)
        have HV := hid hv
        have HW := hid hwt
        have HI := hid hI
        clear hraw ha0 hli hhc h16 hg hlen hSm hv hwt hn hd hI
        go_enter Tryz.func3, Tryz.ntmps3
        go_wp2_with (first
          | ((with_reducible apply ldM_P); exact rfl; exact rfl; exact hB; exact rfl)
          | (go_at_call 8; (with_reducible refine (HK.out _ hU).mono ?_); rintro r w1 ⟨rfl, hu1⟩; replace hB := hB.up hu1; replace hU := hU.trans hu1)
          | (go_at_call 9; (with_reducible refine (HLI.out _).mono ?_); rintro r w2 ⟨rfl, hu2⟩; replace hB := hB.up hu2; replace hU := hU.trans hu2))
        clear hW0
        refine wp_region_sp (n := 158) 8 [49, 50, 51, 52, 53, 54, 55, 56] [SP.is (.agg #[.int .i64 a0, .slice p0 len0 cap0]), SP.is (.int .u8 (n : Nat)), SP.is (.int .u16 (d : Nat)), SP.is (.slice ph hs.length ch), SP.of (fun v w1 => MV w1 v) (fun _ _ _ h hu => h.up hu), SP.of (fun v w1 => Pair a0 (.slice p0 len0 cap0) w1 v) (fun _ _ _ h hu => h.up hu), SP.is (.int .i64 2), SP.is (.int .i64 0)] (fun wq => Blk wq w.heap.size 24 #[.int .i64 a0, .slice p0 len0 cap0] ∧ Up w wq ∧ Below w.heap.size w wq) (by kernel_rfl) (by rfl) (by kernel_rfl) (by kernel_rfl) (fun _ _ h hu => ⟨(h.1).up hu, (h.2.1).trans hu, below_up (h.2.2) hu⟩) ⟨(by first | assumption | ((repeat (first | assumption | ((with_reducible apply blk_new); (focus (first | rfl | (simp; done)))) | (with_reducible apply blk_alloc) | (with_reducible apply blk_drew) | (with_reducible apply blk_drewN) | ((with_reducible apply blk_up); assumption) | (with_reducible apply blk_same) | ((with_reducible apply blk_else); (focus (first | (simp; done) | (simp; omega) | omega))))))), (by first | exact Up.refl _ | assumption), (by repeat (first | assumption | (with_reducible apply Up.of) | (with_reducible exact Below.refl _ _) | (with_reducible exact Up.refl _) | ((with_reducible apply bl_setRow); (focus (first | exact Nat.le_refl _ | (simp; done) | (simp; omega) | omega))) | (with_reducible apply below_drewN) | (with_reducible apply Below.drew) | ((with_reducible apply bl_alloc); (focus (first | exact Nat.le_refl _ | (simp; done) | (simp; omega) | omega))) | ((with_reducible apply bl_setCell); (focus (first | exact Nat.le_refl _ | (simp; done) | (simp; omega) | omega))) | ((with_reducible apply up_tr); assumption)))⟩ (fun ev w9 hS9 i o hne hi hev => ?_) (fun gR wE hq hSE huE => ?_)
        · have ⟨hS1, hS2, hSB⟩ := hS9
          have hcC := hev.const
          have hcF := hev.func
          have hcG := hev.global
          rcases i with _ | _ | _ | _ | _ | _ | _ | _ | i
          · obtain rfl := Option.some.inj (show some _ = some o from hi)
            have e8 := hev.other 8 (by kernel_rfl)
            simp [Act.eval] at e8
            exact leavesR_value (run_ldME rfl e8 hS1 rfl) rfl
          · obtain rfl := Option.some.inj (show some _ = some o from hi)
            have e1 := hev.other 1 (by kernel_rfl)
            simp [Act.eval] at e1
            exact leavesR_value (u := .int .u8 (n : Nat)) (by first | (go_simp; done) | (go_simp; exact rfl)) rfl
          · obtain rfl := Option.some.inj (show some _ = some o from hi)
            have e2 := hev.other 2 (by kernel_rfl)
            simp [Act.eval] at e2
            exact leavesR_value (u := .int .u16 (d : Nat)) (by first | (go_simp; done) | (go_simp; exact rfl)) rfl
          · obtain rfl := Option.some.inj (show some _ = some o from hi)
            have e3 := hev.other 3 (by kernel_rfl)
            simp [Act.eval] at e3
            exact leavesR_value (u := .slice ph hs.length ch) (by first | (go_simp; done) | (go_simp; exact rfl)) rfl
          · obtain rfl := Option.some.inj (show some _ = some o from hi)
            have e50 : ev (.tmp 50) = (.int .u8 (n : Nat)) := hev.dep 1 50 (by kernel_rfl)
            have e51 : ev (.tmp 51) = (.int .u16 (d : Nat)) := hev.dep 2 51 (by kernel_rfl)
            have e52 : ev (.tmp 52) = (.slice ph hs.length ch) := hev.dep 3 52 (by kernel_rfl)
            refine leavesR_call ?_ ((HST.out _ hS2).mono fun _ _ h => by obtain ⟨z, N, L, e, hu, hs, _⟩ := h; exact ⟨hu, z, e, N, L, hs⟩)
            go_simp
          · obtain rfl := Option.some.inj (show some _ = some o from hi)
            have e49 : ev (.tmp 49) = (.agg #[.int .i64 a0, .slice p0 len0 cap0]) := hev.dep 0 49 (by kernel_rfl)
            have e53 : (fun v w1 => MV w1 v) (ev (.tmp 53)) w9 := hev.dep 4 53 (by kernel_rfl)
            dsimp only at e53
            obtain ⟨v53, hv53⟩ : ∃ v, ev (.tmp 53) = v := ⟨_, rfl⟩
            rw [hv53] at e53
            obtain ⟨N1, L1, hM⟩ := e53; obtain ⟨s1, base1, rfl, hO1, hr1⟩ := hM; obtain ⟨p1, n1, c1, rfl⟩ := OwnI.slice hO1; exact leavesR_up (u := .slice (some ⟨w9.heap.size, 0, none⟩) 2 2) (w' := w9.alloc (.cells #[.int .i64 a0, .slice p0 len0 cap0, .int .i64 N1, .slice p1 n1 c1] 24)) (by go_simp) (Up.alloc _ _) ⟨_, N1, _, L1, rfl, Blk.new _ _ rfl, _, base1, rfl, OwnI.up (Up.alloc _ _) hO1, hr1⟩
          · obtain rfl := Option.some.inj (show some _ = some o from hi)
            have e54 : (fun v w1 => Pair a0 (.slice p0 len0 cap0) w1 v) (ev (.tmp 54)) w9 := hev.dep 5 54 (by kernel_rfl)
            dsimp only at e54
            obtain ⟨v54, hv54⟩ : ∃ v, ev (.tmp 54) = v := ⟨_, rfl⟩
            rw [hv54] at e54
            obtain ⟨g1, N1, s1, L1, rfl, -, -⟩ := e54; exact leavesR_value (u := .int .i64 2) (by go_simp) rfl
          · obtain rfl := Option.some.inj (show some _ = some o from hi)
            exact leavesR_value (u := .int .i64 0) (by first | (go_simp; done) | (go_simp; exact rfl)) rfl
          · exact absurd (show i + 8 < 8 from (Array.getElem?_eq_some_iff.1 hi).1) (by omega)
        have ⟨hS1, hS2, hSB⟩ := hSE
        have q0 : gR 49 = (.agg #[.int .i64 a0, .slice p0 len0 cap0]) := hq 0 49 (by decide) (by kernel_rfl)
        have q1 : gR 50 = (.int .u8 (n : Nat)) := hq 1 50 (by decide) (by kernel_rfl)
        have q2 : gR 51 = (.int .u16 (d : Nat)) := hq 2 51 (by decide) (by kernel_rfl)
        have q3 : gR 52 = (.slice ph hs.length ch) := hq 3 52 (by decide) (by kernel_rfl)
        have q4 : (fun v w1 => MV w1 v) (gR 53) wE := hq 4 53 (by decide) (by kernel_rfl)
        dsimp only at q4
        obtain ⟨v53, hv53⟩ : ∃ v, gR 53 = v := ⟨_, rfl⟩
        rw [hv53] at q4
        have q5 : (fun v w1 => Pair a0 (.slice p0 len0 cap0) w1 v) (gR 54) wE := hq 5 54 (by decide) (by kernel_rfl)
        dsimp only at q5
        obtain ⟨v54, hv54⟩ : ∃ v, gR 54 = v := ⟨_, rfl⟩
        rw [hv54] at q5
        have q6 : gR 55 = (.int .i64 2) := hq 6 55 (by decide) (by kernel_rfl)
        have q7 : gR 56 = (.int .i64 0) := hq 7 56 (by decide) (by kernel_rfl)
        refine ⟨fun _ => ?_, fun o ho => by simp at ho⟩
        simp only [putL, List.map_cons, List.map_nil, q0, q1, q2, q3, hv53, hv54, q6, q7, Act.put, List.setIfInBounds_toArray, List.set_cons_zero, List.set_cons_succ]
        clear hq hSE q0 q1 q2 q3 q6 q7
        obtain ⟨g1, N1, s1, L1, rfl, hP, hS1m⟩ := q5
        have hS0m := HSm.out.up hS2
        have HS0 := hid hS0m
        have HS1 := hid hS1m.sm
        have hUE := hS2
        have HP := hid hP
        clear q4 hS1 hS2 hSB huE hB hU hS0m hS1m hP HSm HST HLI
        go_wp2_with fail
        obtain ⟨p1, n1, c1, rfl⟩ : ∃ p n c, s1 = .slice p n c := by
          obtain ⟨s', e1, ⟨p', c', e2, _⟩, _⟩ := HS1.out
          subst e2
          injection e1 with e1
          simp at e1
          exact ⟨_, _, _, e1⟩
        have HMM : Hid (∀ k, k < 2 → ∃ NM pM nM cM LM, (∀ w', Up wE w' → w'.cell? ⟨g1, k * 2, none⟩ = some (.int .i64 NM) ∧ w'.cell? ⟨g1, k * 2 + 1, none⟩ = some (.slice pM nM cM)) ∧ Sm wE (.agg #[.int .i64 NM, .slice pM nM cM]) NM LM) := hid (fun k hk => by
          rcases k with _ | _ | k
          · exact ⟨a0, p0, len0, cap0, l, fun w' hu => ⟨(HP.out.up hu).cell 0 rfl, (HP.out.up hu).cell 1 rfl⟩, HS0.out⟩
          · exact ⟨N1, p1, n1, c1, L1, fun w' hu => ⟨(HP.out.up hu).cell 2 rfl, (HP.out.up hu).cell 3 rfl⟩, HS1.out⟩
          · omega)
        cases sm
        · go_loopg [56] 2 (fun g tk wr => ∃ k : Nat, k ≤ 2 ∧ 2 - k ≤ g ∧ tk = .int .i64 (k : Nat) ∧ Up wE wr)
          case atStart => exact ⟨0, by omega, by omega, rfl, Up.refl _⟩
          case round =>
            obtain ⟨k, hk, hkg, rfl, hu⟩ := hrel
            by_cases hlt : k < 2
            · obtain ⟨NM, pM, nM, cM, LM, hcM, hSM⟩ := HMM.out k hlt
              obtain ⟨hcx0, hcx1⟩ := hcM _ hu
              have HSM0 := hid hSM
              have dk : decide ((k : Int) < 2) = true := decide_eq_true (by omega)
              clear hcM hSM
              have hbm := Blk.new (w := wr) (b := wr.heap.size) 24 #[.int .i64 NM, .slice pM nM cM] rfl
              have hub := Up.alloc wr (.cells #[.int .i64 NM, .slice pM nM cM] 24)
              have hsm := HSM0.out.up (hu.trans hub)
              have huA := hUE.trans (hu.trans hub)
              have huR := hu.trans hub
              have HKX := hid (HVK.out _ huA)
              have HKI := HI
              have HKl : Hid (hl.length ≤ 1000) := hid (by omega)
              have HXX := HW
              have HSMX := hid hsm
              have hBX := hbm
              have hUX := huA
              have HRX := hid huR
              obtain ⟨wX, hwX⟩ : ∃ y, wr.alloc (.cells #[.int .i64 NM, .slice pM nM cM] 24) = y := ⟨_, rfl⟩
              obtain ⟨bX, hbX⟩ : ∃ y, wr.heap.size = y := ⟨_, rfl⟩
              rw [hwX] at HKX HSMX hBX hUX HRX
              rw [hbX] at hBX
              clear hsm hbm hub huA huR
              have HA := hid (HSMX.out)
              have HO := hid (fun w' (hu : Up wX w') => outer_any wt (HSMX.out.up hu) (Vw.up hu HKX.out) HXX.out HKI.out HKl.out)
              have HRO := hid (fun w' (hu : Up wX w') => router_any wt (HSMX.out.up hu) (Vw.up hu HKX.out) HXX.out HKI.out HKl.out)
              have HDI := hid (fun w' (hu : Up wX w') => diag_any v (HSMX.out.up hu) HV.out)
              have HRD := hid (fun w' (hu : Up wX w') => rdiag_any v (HSMX.out.up hu) HV.out)
              have HTI := hid (fun w' (hu : Up wX w') => times_w (HSMX.out.up hu) (Vw.up hu HKX.out) HKI.out HKl.out)
              have HRT := hid (fun w' (hu : Up wX w') => rtimes_w (HSMX.out.up hu) (Vw.up hu HKX.out) HKI.out HKl.out)
              have HTB := hid (tmR_bp (N := NM) (l := LM) HKI.out HKl.out)
              generalize ouN NM LM wt hl = NO at *
              generalize ouR NM LM wt hl = LO at *
              generalize ouC NM LM wt hl = CO at *
              generalize diN NM LM v = ND at *
              generalize diR NM LM v = LD at *
              generalize diC NM LM v = CD at *
              generalize tmR NM LM hl = LT at *
              generalize tmC NM LM hl = CT at *
              have HBX := hid hBX
              clear hBX
              have hBX := HBX.out
              go_wp2_with (first
                | ((with_reducible apply ldM_P); exact rfl; exact rfl; (first | exact hBX | exact hBX4 | exact hBX5 | exact hBX6 | exact hBX7 | exact hBX8 | exact hBa9 | exact hBb9 | exact hBc11 | exact hBd11); exact rfl)
                | (go_at_call 13; (with_reducible refine (HO.out _ (Up.refl _)).mono ?_); rintro r w3 ⟨z3, u3, rfl, hu3, hs3, he3⟩
                   obtain ⟨s3, b3, rfl, hO3, hr3⟩ := id hs3
                   obtain ⟨p3, n3, c3, rfl⟩ := OwnI.slice hO3
                   have hXa := Up.alloc w3 (.cells #[.int .i64 NO, .slice p3 n3 c3] 24)
                   have hBa := Blk.new (w := w3) (b := w3.heap.size) 24 #[.int .i64 NO, .slice p3 n3 c3] rfl
                   have hU3 := hu3.trans hXa
                   have hBX4 := HBX.out.up hU3
                   clear hO3 hr3)
                | (go_at_call 14; (with_reducible refine (HRO.out _ hU3).mono ?_); rintro r w4 ⟨z4, rfl, hu4, hs4⟩
                   obtain ⟨s4, b4, rfl, hO4, hr4⟩ := id hs4
                   obtain ⟨p4, n4, c4, rfl⟩ := OwnI.slice hO4
                   have hXb := Up.alloc w4 (.cells #[.int .i64 NO, .slice p4 n4 c4] 24)
                   have hBb := Blk.new (w := w4) (b := w4.heap.size) 24 #[.int .i64 NO, .slice p4 n4 c4] rfl
                   have hU4 := hU3.trans (hu4.trans hXb)
                   have hBX5 := HBX.out.up hU4
                   clear hO4 hr4)
                | (go_at_call 15; (with_reducible refine (HDI.out _ hU4).mono ?_); rintro r w5 ⟨z5, u5, rfl, hu5, hs5, he5⟩
                   obtain ⟨s5, b5, rfl, hO5, hr5⟩ := id hs5
                   obtain ⟨p5, n5, c5, rfl⟩ := OwnI.slice hO5
                   have hXc := Up.alloc w5 (.cells #[.int .i64 ND, .slice p5 n5 c5] 24)
                   have hBc := Blk.new (w := w5) (b := w5.heap.size) 24 #[.int .i64 ND, .slice p5 n5 c5] rfl
                   have hU5 := hU4.trans (hu5.trans hXc)
                   have hBX6 := HBX.out.up hU5
                   clear hO5 hr5)
                | (go_at_call 16; (with_reducible refine (HRD.out _ hU5).mono ?_); rintro r w6 ⟨z6, rfl, hu6, hs6⟩
                   obtain ⟨s6, b6, rfl, hO6, hr6⟩ := id hs6
                   obtain ⟨p6, n6, c6, rfl⟩ := OwnI.slice hO6
                   have hXd := Up.alloc w6 (.cells #[.int .i64 ND, .slice p6 n6 c6] 24)
                   have hBd := Blk.new (w := w6) (b := w6.heap.size) 24 #[.int .i64 ND, .slice p6 n6 c6] rfl
                   have hU6 := hU5.trans (hu6.trans hXd)
                   have hBX7 := HBX.out.up hU6
                   clear hO6 hr6)
                | (go_at_call 17; (with_reducible refine (HTI.out _ hU6).mono ?_); rintro r w7 ⟨z7, u7, rfl, hu7, ht7, he7⟩
                   have hU7 := hU6.trans hu7
                   have hBX8 := HBX.out.up hU7)
                | (go_at_call 18; (with_reducible refine (HRT.out _ hU7).mono ?_); rintro r w8 ⟨z8, rfl, hu8, ht8⟩
                   have hU8 := hU7.trans hu8
                   have Ud := hu7.trans hu8
                   have Uc := (hu6.trans hXd).trans Ud
                   have Ub := (hu5.trans hXc).trans Uc
                   have Ua := (hu4.trans hXb).trans Ub
                   have he3x := he3.up (hXa.trans Ua)
                   have he5x := he5.up (hXc.trans Uc)
                   have he7x := he7.up hu8
                   have hs3x := hs3.sm.up (hXa.trans Ua)
                   have hs4x := hs4.sm.up (hXb.trans Ub)
                   have hs5x := hs5.sm.up (hXc.trans Uc)
                   have hs6x := hs6.sm.up (hXd.trans Ud)
                   have ht7x := ht7.up hu8)
                | (go_at_call 19; first
                    | ((with_reducible refine (says_any he3x (HG.out _ (hUX.trans hU8))).mono ?_); rintro r w9 ⟨rfl, hu9⟩; have hU9 := hU8.trans hu9; have hBa9 := hBa.up (Ua.trans hu9); have hBb9 := hBb.up (Ub.trans hu9))
                    | ((with_reducible refine (says_any (he5x.up (hu9.trans hu10)) (HG.out _ (hUX.trans hU10))).mono ?_); rintro r w11 ⟨rfl, hu11⟩; have hU11 := hU10.trans hu11; have hBc11 := hBc.up (Uc.trans ((hu9.trans hu10).trans hu11)); have hBd11 := hBd.up (Ud.trans ((hu9.trans hu10).trans hu11)))
                    | ((with_reducible refine (says_any (he7x.up (((hu9.trans hu10).trans hu11).trans hu12)) (HG.out _ (hUX.trans hU12))).mono ?_); rintro r w13 ⟨rfl, hu13⟩; have hU13 := hU12.trans hu13))
                | (go_at_call 20; first
                    | ((with_reducible refine (syms_eq (hs3x.up hu9) (hs4x.up hu9)).mono ?_); rintro r w10 ⟨rfl, hu10⟩; have hU10 := hU9.trans hu10)
                    | ((with_reducible refine (syms_eq (hs5x.up ((hu9.trans hu10).trans hu11)) (hs6x.up ((hu9.trans hu10).trans hu11))).mono ?_); rintro r w12 ⟨rfl, hu12⟩; have hU12 := hU11.trans hu12))
                | (go_at_call 21; (with_reducible refine (help_wides (ht7x.up ((((hu9.trans hu10).trans hu11).trans hu12).trans hu13)) (ht8.up ((((hu9.trans hu10).trans hu11).trans hu12).trans hu13)) HTB.out.1 HTB.out.2).mono ?_); rintro r w14 ⟨rfl, hu14⟩; have hU14 := hU13.trans hu14))
              go_roundg (2 - (k + 1))
              case measure => omega
              case rel => exact ⟨k + 1, by omega, Nat.le_refl _, rfl, HRX.out.trans hU14⟩
            · obtain rfl : k = 2 := by omega
              go_wp2_with fail
              go_ret
              exact ⟨rfl, hUE.trans hu⟩
        · go_loopg [56] 2 (fun g tk wr => ∃ k : Nat, k ≤ 2 ∧ 2 - k ≤ g ∧ tk = .int .i64 (k : Nat) ∧ Up wE wr)
          case atStart => exact ⟨0, by omega, by omega, rfl, Up.refl _⟩
          case round =>
            obtain ⟨k, hk, hkg, rfl, hu⟩ := hrel
            by_cases hlt : k < 2
            · obtain ⟨NM, pM, nM, cM, LM, hcM, hSM⟩ := HMM.out k hlt
              obtain ⟨hcx0, hcx1⟩ := hcM _ hu
              have HSM0 := hid hSM
              have dk : decide ((k : Int) < 2) = true := decide_eq_true (by omega)
              clear hcM hSM
              have hbm := Blk.new (w := wr) (b := wr.heap.size) 24 #[.int .i64 NM, .slice pM nM cM] rfl
              have hub := Up.alloc wr (.cells #[.int .i64 NM, .slice pM nM cM] 24)
              have hsm := HSM0.out.up (hu.trans hub)
              have huA := hUE.trans (hu.trans hub)
              have huR := hu.trans hub
              have hNM : I64 NM := by obtain ⟨_, _, _, h, _⟩ := HSM0.out; exact h
              have hbm0 := hbm.cell 0 rfl
              obtain ⟨wY, hwY⟩ : ∃ y, wr.alloc (.cells #[.int .i64 NM, .slice pM nM cM] 24) = y := ⟨_, rfl⟩
              obtain ⟨bX, hbX⟩ : ∃ y, wr.heap.size = y := ⟨_, rfl⟩
              rw [hwY] at hsm hbm hbm0 huA huR
              rw [hbX] at hbm hbm0
              clear hub
              have HPL := hid (place_any NM hNM)
              go_wp2_with (first
                | (go_at_call 12; (with_reducible refine (HPL.out _).mono ?_); rintro r w2 ⟨q, hq8, rfl, hu2⟩)
                | (go_at_call 11; (with_reducible refine (vec_any q false rfl hq8 (HVK.out _ (huA.trans hu2)) HI.out (by omega)).mono ?_); rintro r w4 ⟨z4, b4, rfl, hu4, hb4, hO4⟩; obtain ⟨p4, c4, rfl, -, -⟩ := hO4.vw; rw [vecL_len]))
              have hK4 : KInv b4 (.slice p4 q c4) q w4 := ⟨_, by rw [vecL_len] at hO4; exact hO4, vecL_len _ _ _, vecL_in HI.out false q (by omega)⟩
              have HSMY := hid (hsm.up hu2)
              have HBY := hid (hbm.up hu2)
              have HUY := hid (huA.trans hu2)
              have HRY := hid (huR.trans hu2)
              clear hwY hbX hO4 hbm0 hsm hbm huA huR hcx0 hcx1 HPL
              go_loopg [21] q (fun g ta wr => ∃ a : Nat, a ≤ q ∧ q - a ≤ g ∧ ta = .int .i64 (a : Nat) ∧ KInv b4 (.slice p4 q c4) q wr ∧ Up w2 wr)
              case atStart => exact ⟨0, Nat.zero_le _, by omega, rfl, hK4, hu4⟩
              case round =>
                clear hK4 hu4
                obtain ⟨a, ha, hag, rfl, ⟨K, hO, hKl, hKI⟩, hu⟩ := hrel
                by_cases hltq : a < q
                · obtain ⟨g, cp, C, hv, hbg, -⟩ := hO.open (by omega)
                  injection hv with x1 x2 x3
                  subst x1 x3
                  obtain ⟨hcA, hfA⟩ := hO.cells (k := a) (by omega)
                  have hO7 := hO.set (k := a) (by omega) ((zth K a).tmod 3000)
                  have hu7 := hu.setCell (p := ⟨g, a, none⟩) (show w2.heap.size ≤ g by omega) (.int .i64 ((zth K a).tmod 3000))
                  have hI7 := in64_set hKI a (z := (zth K a).tmod 3000) (by have := tmod_bound (zth K a) (m := 3000) (by decide); unfold I64; omega)
                  have HF := hid (show KInv b4 (.slice (some ⟨g, 0, none⟩) q c4) q _ from ⟨_, hO7, by rw [List.length_set]; exact hKl, hI7⟩)
                  clear hO7 hI7 x2
                  generalize zth K a = z at *
                  go_wp2_with fail
                  go_roundg (q - (a + 1))
                  case measure => omega
                  case rel => exact ⟨a + 1, by omega, Nat.le_refl _, rfl, HF.out, hu7⟩
                · have HKX := hid hO.vw
                  have HKI := hid hKI
                  have HKl : Hid (K.length ≤ 1000) := hid (by omega)
                  have HXX : Hid (I64 (wt.tmod 100)) := hid (by have := tmod_bound wt (m := 100) (by decide); unfold I64; omega)
                  have HSMX := hid (HSMY.out.up hu)
                  have hBX := HBY.out.up hu
                  have hUX := HUY.out.trans hu
                  have HRX := hid (HRY.out.trans hu)
                  have hKq : K.length = q := hKl
                  obtain rfl : a = q := by omega
                  subst hKq
                  obtain ⟨wX, hwX⟩ : ∃ y, wr = y := ⟨_, rfl⟩
                  rw [hwX] at HKX HSMX hBX hUX HRX ⊢
                  clear hwX hO hKI hKl hu hltq hag ha hq8 hb4 hu2 hNM
                  have HA := hid (HSMX.out)
                  have HO := hid (fun w' (hu : Up wX w') => outer_any (wt.tmod 100) (HSMX.out.up hu) (Vw.up hu HKX.out) HXX.out HKI.out HKl.out)
                  have HRO := hid (fun w' (hu : Up wX w') => router_any (wt.tmod 100) (HSMX.out.up hu) (Vw.up hu HKX.out) HXX.out HKI.out HKl.out)
                  have HDI := hid (fun w' (hu : Up wX w') => diag_any v (HSMX.out.up hu) HV.out)
                  have HRD := hid (fun w' (hu : Up wX w') => rdiag_any v (HSMX.out.up hu) HV.out)
                  have HTI := hid (fun w' (hu : Up wX w') => times_w (HSMX.out.up hu) (Vw.up hu HKX.out) HKI.out HKl.out)
                  have HRT := hid (fun w' (hu : Up wX w') => rtimes_w (HSMX.out.up hu) (Vw.up hu HKX.out) HKI.out HKl.out)
                  have HTB := hid (tmR_bp (N := NM) (l := LM) HKI.out HKl.out)
                  generalize ouN NM LM (wt.tmod 100) K = NO at *
                  generalize ouR NM LM (wt.tmod 100) K = LO at *
                  generalize ouC NM LM (wt.tmod 100) K = CO at *
                  generalize diN NM LM v = ND at *
                  generalize diR NM LM v = LD at *
                  generalize diC NM LM v = CD at *
                  generalize tmR NM LM K = LT at *
                  generalize tmC NM LM K = CT at *
                  have HBX := hid hBX
                  clear hBX
                  have hBX := HBX.out
                  go_wp2_with (first
                    | ((with_reducible apply ldM_P); exact rfl; exact rfl; (first | exact hBX | exact hBX4 | exact hBX5 | exact hBX6 | exact hBX7 | exact hBX8 | exact hBa9 | exact hBb9 | exact hBc11 | exact hBd11); exact rfl)
                    | (go_at_call 13; (with_reducible refine (HO.out _ (Up.refl _)).mono ?_); rintro r w3 ⟨z3, u3, rfl, hu3, hs3, he3⟩
                       obtain ⟨s3, b3, rfl, hO3, hr3⟩ := id hs3
                       obtain ⟨p3, n3, c3, rfl⟩ := OwnI.slice hO3
                       have hXa := Up.alloc w3 (.cells #[.int .i64 NO, .slice p3 n3 c3] 24)
                       have hBa := Blk.new (w := w3) (b := w3.heap.size) 24 #[.int .i64 NO, .slice p3 n3 c3] rfl
                       have hU3 := hu3.trans hXa
                       have hBX4 := HBX.out.up hU3
                       clear hO3 hr3)
                    | (go_at_call 14; (with_reducible refine (HRO.out _ hU3).mono ?_); rintro r w4 ⟨z4, rfl, hu4, hs4⟩
                       obtain ⟨s4, b4, rfl, hO4, hr4⟩ := id hs4
                       obtain ⟨p4, n4, c4, rfl⟩ := OwnI.slice hO4
                       have hXb := Up.alloc w4 (.cells #[.int .i64 NO, .slice p4 n4 c4] 24)
                       have hBb := Blk.new (w := w4) (b := w4.heap.size) 24 #[.int .i64 NO, .slice p4 n4 c4] rfl
                       have hU4 := hU3.trans (hu4.trans hXb)
                       have hBX5 := HBX.out.up hU4
                       clear hO4 hr4)
                    | (go_at_call 15; (with_reducible refine (HDI.out _ hU4).mono ?_); rintro r w5 ⟨z5, u5, rfl, hu5, hs5, he5⟩
                       obtain ⟨s5, b5, rfl, hO5, hr5⟩ := id hs5
                       obtain ⟨p5, n5, c5, rfl⟩ := OwnI.slice hO5
                       have hXc := Up.alloc w5 (.cells #[.int .i64 ND, .slice p5 n5 c5] 24)
                       have hBc := Blk.new (w := w5) (b := w5.heap.size) 24 #[.int .i64 ND, .slice p5 n5 c5] rfl
                       have hU5 := hU4.trans (hu5.trans hXc)
                       have hBX6 := HBX.out.up hU5
                       clear hO5 hr5)
                    | (go_at_call 16; (with_reducible refine (HRD.out _ hU5).mono ?_); rintro r w6 ⟨z6, rfl, hu6, hs6⟩
                       obtain ⟨s6, b6, rfl, hO6, hr6⟩ := id hs6
                       obtain ⟨p6, n6, c6, rfl⟩ := OwnI.slice hO6
                       have hXd := Up.alloc w6 (.cells #[.int .i64 ND, .slice p6 n6 c6] 24)
                       have hBd := Blk.new (w := w6) (b := w6.heap.size) 24 #[.int .i64 ND, .slice p6 n6 c6] rfl
                       have hU6 := hU5.trans (hu6.trans hXd)
                       have hBX7 := HBX.out.up hU6
                       clear hO6 hr6)
                    | (go_at_call 17; (with_reducible refine (HTI.out _ hU6).mono ?_); rintro r w7 ⟨z7, u7, rfl, hu7, ht7, he7⟩
                       have hU7 := hU6.trans hu7
                       have hBX8 := HBX.out.up hU7)
                    | (go_at_call 18; (with_reducible refine (HRT.out _ hU7).mono ?_); rintro r w8 ⟨z8, rfl, hu8, ht8⟩
                       have hU8 := hU7.trans hu8
                       have Ud := hu7.trans hu8
                       have Uc := (hu6.trans hXd).trans Ud
                       have Ub := (hu5.trans hXc).trans Uc
                       have Ua := (hu4.trans hXb).trans Ub
                       have he3x := he3.up (hXa.trans Ua)
                       have he5x := he5.up (hXc.trans Uc)
                       have he7x := he7.up hu8
                       have hs3x := hs3.sm.up (hXa.trans Ua)
                       have hs4x := hs4.sm.up (hXb.trans Ub)
                       have hs5x := hs5.sm.up (hXc.trans Uc)
                       have hs6x := hs6.sm.up (hXd.trans Ud)
                       have ht7x := ht7.up hu8)
                    | (go_at_call 19; first
                        | ((with_reducible refine (says_any he3x (HG.out _ (hUX.trans hU8))).mono ?_); rintro r w9 ⟨rfl, hu9⟩; have hU9 := hU8.trans hu9; have hBa9 := hBa.up (Ua.trans hu9); have hBb9 := hBb.up (Ub.trans hu9))
                        | ((with_reducible refine (says_any (he5x.up (hu9.trans hu10)) (HG.out _ (hUX.trans hU10))).mono ?_); rintro r w11 ⟨rfl, hu11⟩; have hU11 := hU10.trans hu11; have hBc11 := hBc.up (Uc.trans ((hu9.trans hu10).trans hu11)); have hBd11 := hBd.up (Ud.trans ((hu9.trans hu10).trans hu11)))
                        | ((with_reducible refine (says_any (he7x.up (((hu9.trans hu10).trans hu11).trans hu12)) (HG.out _ (hUX.trans hU12))).mono ?_); rintro r w13 ⟨rfl, hu13⟩; have hU13 := hU12.trans hu13))
                    | (go_at_call 20; first
                        | ((with_reducible refine (syms_eq (hs3x.up hu9) (hs4x.up hu9)).mono ?_); rintro r w10 ⟨rfl, hu10⟩; have hU10 := hU9.trans hu10)
                        | ((with_reducible refine (syms_eq (hs5x.up ((hu9.trans hu10).trans hu11)) (hs6x.up ((hu9.trans hu10).trans hu11))).mono ?_); rintro r w12 ⟨rfl, hu12⟩; have hU12 := hU11.trans hu12))
                    | (go_at_call 21; (with_reducible refine (help_wides (ht7x.up ((((hu9.trans hu10).trans hu11).trans hu12).trans hu13)) (ht8.up ((((hu9.trans hu10).trans hu11).trans hu12).trans hu13)) HTB.out.1 HTB.out.2).mono ?_); rintro r w14 ⟨rfl, hu14⟩; have hU14 := hU13.trans hu14))
                  go_roundg (2 - (k + 1))
                  case measure => omega
                  case rel => exact ⟨k + 1, by omega, Nat.le_refl _, rfl, HRX.out.trans hU14⟩
            · obtain rfl : k = 2 := by omega
              go_wp2_with fail
              go_ret
              exact ⟨rfl, hUE.trans hu⟩
      · have d40 : decide ((40 : Int) < (hl.length : Int)) = true := decide_eq_true (by omega)
        clear hraw ha0 hli hhc h16 hlen
        go_enter Tryz.func3, Tryz.ntmps3
        go_wp2_with (first
          | ((with_reducible apply ldM_P); exact rfl; exact rfl; exact hB; exact rfl)
          | (go_at_call 8; (with_reducible refine (HK.out _ hU).mono ?_); rintro r w1 ⟨rfl, hu1⟩; replace hB := hB.up hu1; replace hU := hU.trans hu1)
          | (go_at_call 9; (with_reducible refine (HLI.out _).mono ?_); rintro r w2 ⟨rfl, hu2⟩; replace hU := hU.trans hu2))
        go_ret
        exact ⟨rfl, hU⟩
    · have d60 : decide ((60 : Int) < (hs.length : Int)) = true := decide_eq_true (by omega)
      clear hraw ha0 hli hhc h16 hlen
      go_enter Tryz.func3, Tryz.ntmps3
      go_wp2_with (first
        | ((with_reducible apply ldM_P); exact rfl; exact rfl; exact hB; exact rfl)
        | (go_at_call 8; (with_reducible refine (HK.out _ hU).mono ?_); rintro r w1 ⟨rfl, hu1⟩; replace hB := hB.up hu1; replace hU := hU.trans hu1)
        | (go_at_call 9; (with_reducible refine (HLI.out _).mono ?_); rintro r w2 ⟨rfl, hu2⟩; replace hU := hU.trans hu2))
      go_ret
      exact ⟨rfl, hU⟩
  · rw [decide_eq_false hA] at HLI
    clear hraw ha0 hli hhc h16 hlen
    go_enter Tryz.func3, Tryz.ntmps3
    go_wp2_with (first
      | ((with_reducible apply ldM_P); exact rfl; exact rfl; exact hB; exact rfl)
      | (go_at_call 8; (with_reducible refine (HK.out _ hU).mono ?_); rintro r w1 ⟨rfl, hu1⟩; replace hB := hB.up hu1; replace hU := hU.trans hu1)
      | (go_at_call 9; (with_reducible refine (HLI.out _).mono ?_); rintro r w2 ⟨rfl, hu2⟩; replace hU := hU.trans hu2))
    go_ret
    exact ⟨rfl, hU⟩
end Go.Proofs.YtdcpoamjmoceiaaGreatDoor
/-
  What came in, as the walks want it.
-/
namespace Go.Proofs.YtdcpoamjmoceiaaGreatDoor
open Go Go.RowKit
set_option maxRecDepth 100000

def IsRowX (k : IntKind) (w : World) (a : Option Addr) (len cap : Nat) (zs : List Int) : Prop :=
  (a = none ∧ len = 0 ∧ cap = 0 ∧ zs = []) ∨
  ∃ x, a = some x ∧ len ≤ cap ∧ cap ≤ maxLen ∧ zs.length = cap ∧ (∀ i, i < zs.length → w.cell? (x.add i) = some (.int k (zs.getD i 0))) ∧ ∀ n ∈ zs, (Lit.int k n).wf = true
theorem zth_take {l : List Int} {k i : Nat} (h : i < k) : zth (l.take k) i = zth l i := by
  unfold zth
  rw [List.getD_eq_getElem?_getD, List.getD_eq_getElem?_getD, List.getElem?_take_of_lt h]
theorem wf_i64 {z : Int} (h : (Lit.int .i64 z).wf = true) : I64 z := by
  have := (Lit.wf_int_iff .i64 z).1 h
  rw [IntKind.min_i64, IntKind.max_i64] at this
  unfold I64; omega
theorem wf_nat {k : IntKind} {z : Int} {m : Nat} (h : (Lit.int k z).wf = true) (h0 : k.min = 0) (h1 : k.max = (m : Int)) : ∃ n : Nat, z = (n : Int) ∧ n < m + 1 := by
  have := (Lit.wf_int_iff k z).1 h
  rw [h0, h1] at this
  exact ⟨z.toNat, by omega, by omega⟩
theorem vw_row {w : World} {a : Option Addr} {len cap : Nat} {zs : List Int} (h : IsRowX .i64 w a len cap zs) : Vw w (.slice a len cap) (zs.take len) ∧ In64 (zs.take len) := by
  rcases h with ⟨rfl, rfl, rfl, rfl⟩ | ⟨x, rfl, hl, hm, hz, hc, hw⟩
  · exact ⟨⟨none, 0, rfl, ⟨Nat.le_refl _, fun _ => rfl⟩, fun i hi => absurd hi (Nat.not_lt_zero _)⟩, fun i hi => absurd hi (Nat.not_lt_zero _)⟩
  · have e : (zs.take len).length = len := by rw [List.length_take]; omega
    refine ⟨⟨some x, cap, by rw [e], ⟨by rw [e]; exact hl, fun e => by cases e⟩, fun i hi => ⟨x, rfl, ?_⟩⟩, fun i hi => ?_⟩
    · rw [e] at hi
      rw [zth_take hi]
      exact hc i (by omega)
    · rw [e] at hi
      rw [zth_take hi, zth_get (by omega)]
      exact wf_i64 (hw _ (List.getElem_mem _))
theorem vh_row {w : World} {a : Option Addr} {len cap : Nat} {zs : List Int} (h : IsRowX .i16 w a len cap zs) : Vh w (.slice a len cap) (zs.take len) ∧ In16 (zs.take len) := by
  rcases h with ⟨rfl, rfl, rfl, rfl⟩ | ⟨x, rfl, hl, hm, hz, hc, hw⟩
  · exact ⟨⟨none, 0, rfl, fun i hi => absurd hi (Nat.not_lt_zero _)⟩, fun i hi => absurd hi (Nat.not_lt_zero _)⟩
  · have e : (zs.take len).length = len := by rw [List.length_take]; omega
    refine ⟨⟨some x, cap, by rw [e], fun i hi => ⟨x, rfl, ?_⟩⟩, fun i hi => ?_⟩
    · rw [e] at hi
      rw [zth_take hi]
      exact hc i (by omega)
    · rw [e] at hi
      rw [zth_take hi, zth_get (by omega)]
      have := (Lit.wf_int_iff .i16 _).1 (hw (zs[i]'(by omega)) (List.getElem_mem _))
      rw [IntKind.min_i16, IntKind.max_i16] at this
      omega
end Go.Proofs.YtdcpoamjmoceiaaGreatDoor
/-
  What came in, as SymAdds' walk wants it.
-/
namespace Go.Proofs.YtdcpoamjmoceiaaGreatDoor
open Go Go.RowKit
set_option maxRecDepth 100000

theorem adds_row {w : World} {a0 a1 a2 a4 a6 : Int} {a7 : Bool} {p0 p3 p5 : Option Addr} {len0 cap0 len3 cap3 len5 cap5 : Nat} {z0 z3 z5 : List Int} (hg : Glob w) (wf0 : (Lit.int .i64 a0).wf = true) (w0 : IsRowX .i64 w p0 len0 cap0 z0) (w1 : (Lit.int .u8 a1).wf = true) (w2 : (Lit.int .u16 a2).wf = true)
    (w3 : IsRowX .i16 w p3 len3 cap3 z3) (w4 : (Lit.int .i64 a4).wf = true) (w5 : IsRowX .i64 w p5 len5 cap5 z5) (w6 : (Lit.int .i64 a6).wf = true) :
    Calls Tryz.prog 3 #[.agg #[.int .i64 a0, .slice p0 len0 cap0], .int .u8 a1, .int .u16 a2, .slice p3 len3 cap3, .int .i64 a4, .slice p5 len5 cap5, .int .i64 a6, .bool a7] w fun r w' => r = .returned (.bool true) ∧ Up w w' := by
  obtain ⟨n, rfl, hn⟩ := wf_nat (m := 255) w1 IntKind.min_u8 IntKind.max_u8
  obtain ⟨d, rfl, hd⟩ := wf_nat (m := 65535) w2 IntKind.min_u16 IntKind.max_u16
  exact adds_w n d a4 a6 a7 hg (vw_row w0).1 (wf_i64 wf0) (vw_row w0).2 hn hd (vh_row w3).1 (vh_row w3).2 (vw_row w5).1 (vw_row w5).2 (wf_i64 w4) (wf_i64 w6)
end Go.Proofs.YtdcpoamjmoceiaaGreatDoor
/-
  What the laws of faults share: the variable errors.errorType, a world that meets the condition.
-/
namespace Go.Proofs.YtdcpoamjmoceiaaGreatDoor
open Go.ChangeShapes Go.WideShapes Go.RowKit
set_option maxRecDepth 100000

theorem own4 : ownKnob Tryz.prog.godebug = none := by kernel_rfl
theorem et4 : Tryz.prog.globalNamed "errors.errorType" = some 0 := by kernel_rfl
theorem rt4 : (Tryz.prog.cutTypes.find? (·.1 == "internal/reflectlite.rtype")).map (·.2) = some 171 := by kernel_rfl
theorem oneRow4 : ((List.range 222).filter fun t => Tryz.prog.rowNamed t [101, 114, 114, 111, 114]) = [34] := by kernel_rfl
theorem size4 : Tryz.prog.types.size = 222 := by kernel_rfl
/-- What the condition gives a walk: the variable's one cell. -/
theorem glob_of_laid {W : World} (h : laidMetH Tryz.prog [("errors.errorType", Rows.laid_errors_errorType)] W) : Glob W := by
  have h' : laidMet Tryz.prog [] W ∧ handlesMet Tryz.prog [("errors.errorType", Rows.laid_errors_errorType)] W := h
  obtain ⟨name, u, ty, e1, e2, e3, e4, e5⟩ := h'.2 _ (List.mem_singleton.2 rfl)
  have en : name = [101, 114, 114, 111, 114] := (Option.some.inj e1).symm
  subst en
  obtain rfl := Option.some.inj (rt4.symm.trans e2)
  have hm : ty ∈ (List.range 222).filter fun t => Tryz.prog.rowNamed t [101, 114, 114, 111, 114] := List.mem_filter.2 ⟨List.mem_range.2 (by rw [← size4]; exact e3), e4⟩
  rw [oneRow4] at hm
  obtain rfl := List.mem_singleton.1 hm
  have hh : typeHandle Tryz.prog 34 = .pointer (some ⟨3, 34, none⟩) := by kernel_rfl
  rw [hh] at e5
  unfold Glob
  simpa using World.var?_cell et4 e5 0
/-- A world that meets the condition: the settled one, the variable's cell laid. -/
noncomputable def laidWorld (os : Os) : World :=
  let w0 := World.holding Tryz.prog os ⟨#[], #[], []⟩
  { w0 with heap := w0.heap.modify 0 fun
      | .cells _ t frozen => .cells #[.iface 171 (.agg #[.pointer (some ⟨3, 34, none⟩)])] t frozen
      | o => o }
theorem laidWorld_met (os : Os) (args : Array Value) : laidMetH Tryz.prog [("errors.errorType", Rows.laid_errors_errorType)] ((laidWorld os).forCall (fun _ _ => 0) ⟨#[], args, []⟩).memory :=
  laidMetH_of_parts (laidMet_nil _ _) (by kernel_rfl)
end Go.Proofs.YtdcpoamjmoceiaaGreatDoor
