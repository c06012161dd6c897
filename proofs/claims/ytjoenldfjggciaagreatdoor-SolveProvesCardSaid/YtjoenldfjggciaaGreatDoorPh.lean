import Derived.Test.YtjoenldfjggciaaGreatDoorPg
import Derived.Lib.MinMax
namespace Go.Proofs.YtjoenldfjggciaaGreatDoor
open Go Go.RowKit
set_option maxRecDepth 100000
theorem vfit_false_of {z : Int} (h : vfit z = false) : 72057594037927936 < z ∨ z < -72057594037927936 := by
  unfold vfit at h
  have := of_decide_eq_false h
  omega
set_option maxHeartbeats 8000000 in
theorem rfine_any {v vl : Value} {N : Int} {l : List Int} {Ls : List (List Int)} {w : World} (hm : Sm w v N l) (hL : Lv w vl Ls) (hI : ∀ i, In64 (Ls.getD i [])) (hs : ∀ i, (Ls.getD i []).length ≤ 1000) (h9 : Ls.length ≤ 9) :
    Calls Tryz.prog 72 #[v, vl] w fun r w' => r = .returned (.int .i64 (ftC N l Ls)) ∧ Up w w' := by
  have HR := hid (fun w' (hu : Up w w') => rright_any (hm.up hu))
  obtain ⟨s, rfl, ⟨p, cap, rfl, -, -⟩, -, -, -⟩ := hm
  obtain ⟨pL, cL, rfl, hE⟩ := hL
  obtain ⟨W0, hW0⟩ : ∃ W0, w.alloc (.cells #[.int .i64 N, .slice p l.length cap] 24) = W0 := ⟨_, rfl⟩
  have hB : Blk W0 w.heap.size 24 #[.int .i64 N, .slice p l.length cap] := by rw [← hW0]; exact Blk.new _ _ rfl
  have hU : Up w W0 := by rw [← hW0]; exact Up.alloc _ _
  cases hR : rt N l with
  | false =>
    have e : ftC N l Ls = 23 := by unfold ftC; rw [if_neg (by rw [hR]; simp)]
    rw [e]
    rw [hR] at HR
    clear e hR hE hI hs h9
    go_enter Tryz.func72, Tryz.ntmps72
    go_wp2_with (first
      | ((with_reducible apply ldM_P); exact rfl; exact rfl; exact hB; exact rfl)
      | (go_at_call 17; (with_reducible refine (HR.out _ hU).mono ?_); rintro r w1 ⟨rfl, hu1⟩))
    go_ret
    exact ⟨rfl, hU.trans hu1⟩
  | true =>
    rw [hR] at HR
    have HE := hid (fun w' (hu : Up w w') i (hi : i < Ls.length) => show ∃ a s, pL = some a ∧ w'.cell? (a.add i) = some s ∧ Vw w' s (Ls.getD i []) from by obtain ⟨a, s, h1, h2, h3⟩ := hE i hi; exact ⟨a, s, h1, hu.cellEq h2, h3.up hu⟩)
    have HI := hid hI
    have HS := hid hs
    have HC : Hid (ftC N l Ls = if (∀ i, i < Ls.length → ((Ls.getD i []).length : Int) = N) then (if ∀ i, i < Ls.length → (Ls.getD i []).all vfit = true then 0 else 21) else 23) := hid (by unfold ftC; simp only [hR, true_and])
    have hn9 : Ls.length < 1000000 := by omega
    clear hE hI hs hR
    obtain ⟨C, hC⟩ : ∃ C, ftC N l Ls = C := ⟨_, rfl⟩
    rw [hC] at HC ⊢
    clear hC
    go_enter Tryz.func72, Tryz.ntmps72
    go_wp2_with (first
      | ((with_reducible apply ldM_P); exact rfl; exact rfl; exact hB; exact rfl)
      | (go_at_call 17; (with_reducible refine (HR.out _ hU).mono ?_); rintro r w1 ⟨rfl, hu1⟩; replace hB := hB.up hu1; replace hU := hU.trans hu1))
    clear hu1 hW0
    go_loopg [5] Ls.length (fun g ti wr => ∃ i : Nat, i ≤ Ls.length ∧ Ls.length - i ≤ g ∧ ti = .int .i64 (i : Nat) ∧ (∀ j, j < i → ((Ls.getD j []).length : Int) = N) ∧ Up w1 wr)
    case atStart => exact ⟨0, Nat.zero_le _, by omega, rfl, fun j hj => absurd hj (Nat.not_lt_zero _), Up.refl _⟩
    case round =>
      obtain ⟨i, hi, hig, rfl, hz, hu⟩ := hrel
      have HZ := hid hz
      clear hz
      have hc0 := (hB.up hu).cell 0 rfl
      by_cases hlt : i < Ls.length
      · obtain ⟨ad, s, rfl, hcx, hV⟩ := HE.out _ (hU.trans hu) i hlt
        obtain ⟨ps, cs, rfl, -, -⟩ := hV
        have e1 : IntKind.i64.wrap ((i : Int) + 1) = (i : Int) + 1 := IntWalk.i64_in _ (by omega)
        obtain ⟨n, hn⟩ : ∃ n, (Ls.getD i []).length = n := ⟨_, rfl⟩
        have HN := hid hn
        rw [hn] at hcx
        clear hn
        by_cases hne : (n : Int) = N
        · have d1 : ((n : Int) != N) = false := by rw [hne]; simp
          have HNe := hid hne
          clear hne
          go_wp2_with fail
          refine wp_region_sp (n := 58) 8 [17, 18, 19, 20, 21, 22, 23, 24] [SP.is (.slice (some ad) Ls.length cL), SP.is (.int .i64 (i : Nat)), SP.is (.pointer (some (ad.add i))), SP.is (.slice ps n cs), SP.is (.int .i64 (n : Nat)), SP.is (.pointer (some ⟨w.heap.size, 0, none⟩)), SP.is (.int .i64 N), SP.is (.bool false)] (fun wq => wq.cell? (ad.add i) = some (.slice ps n cs) ∧ wq.cell? ⟨w.heap.size, 0, none⟩ = some (.int .i64 N) ∧ Up wr wq ∧ Below w.heap.size w wq) (by kernel_rfl) (by rfl) (by kernel_rfl) (by kernel_rfl) (fun _ _ h hu => ⟨hu.cell (h.1), hu.cell (h.2.1), (h.2.2.1).trans hu, below_up (h.2.2.2) hu⟩) ⟨(by assumption), (by assumption), (by first | exact Up.refl _ | assumption), gUp⟩ (fun ev w9 hS9 i o hne hi hev => ?_) (fun gR wE hq hSE huE => ?_)
          · have ⟨hS1, hS2, hS3, hSB⟩ := hS9
            have hcC := hev.const
            have hcF := hev.func
            have hcG := hev.global
            rcases i with _ | _ | _ | _ | _ | _ | _ | _ | i
            · obtain rfl := Option.some.inj (show some _ = some o from hi)
              have e1 := hev.other 1 (by kernel_rfl)
              simp [Act.eval] at e1
              exact leavesR_value (u := .slice (some ad) Ls.length cL) (by first | (go_simp; done) | (go_simp; exact rfl)) rfl
            · obtain rfl := Option.some.inj (show some _ = some o from hi)
              have e5 := hev.other 5 (by kernel_rfl)
              simp [Act.eval] at e5
              exact leavesR_value (u := .int .i64 (i : Nat)) (by first | (go_simp; done) | (go_simp; exact rfl)) rfl
            · obtain rfl := Option.some.inj (show some _ = some o from hi)
              have e17 : ev (.tmp 17) = (.slice (some ad) Ls.length cL) := hev.dep 0 17 (by kernel_rfl)
              have e18 : ev (.tmp 18) = (.int .i64 (i : Nat)) := hev.dep 1 18 (by kernel_rfl)
              exact leavesR_value (u := .pointer (some (ad.add i))) (by first | (go_simp; done) | (go_simp; exact rfl)) rfl
            · obtain rfl := Option.some.inj (show some _ = some o from hi)
              have e19 : ev (.tmp 19) = (.pointer (some (ad.add i))) := hev.dep 2 19 (by kernel_rfl)
              exact leavesR_value (u := .slice ps n cs) (by go_simp) rfl
            · obtain rfl := Option.some.inj (show some _ = some o from hi)
              have e20 : ev (.tmp 20) = (.slice ps n cs) := hev.dep 3 20 (by kernel_rfl)
              exact leavesR_value (u := .int .i64 (n : Nat)) (by first | (go_simp; done) | (go_simp; exact rfl)) rfl
            · obtain rfl := Option.some.inj (show some _ = some o from hi)
              have e2 := hev.other 2 (by kernel_rfl)
              simp [Act.eval] at e2
              exact leavesR_value (u := .pointer (some ⟨w.heap.size, 0, none⟩)) (by first | (go_simp; done) | (go_simp; exact rfl)) rfl
            · obtain rfl := Option.some.inj (show some _ = some o from hi)
              have e22 : ev (.tmp 22) = (.pointer (some ⟨w.heap.size, 0, none⟩)) := hev.dep 5 22 (by kernel_rfl)
              exact leavesR_value (u := .int .i64 N) (by go_simp) rfl
            · obtain rfl := Option.some.inj (show some _ = some o from hi)
              have e21 : ev (.tmp 21) = (.int .i64 (n : Nat)) := hev.dep 4 21 (by kernel_rfl)
              have e23 : ev (.tmp 23) = (.int .i64 N) := hev.dep 6 23 (by kernel_rfl)
              exact leavesR_value (u := .bool false) (by first | (go_simp; done) | (go_simp; exact rfl)) rfl
            · exact absurd (show i + 8 < 8 from (Array.getElem?_eq_some_iff.1 hi).1) (by omega)
          have ⟨hS1, hS2, hS3, hSB⟩ := hSE
          have q0 : gR 17 = (.slice (some ad) Ls.length cL) := hq 0 17 (by decide) (by kernel_rfl)
          have q1 : gR 18 = (.int .i64 (i : Nat)) := hq 1 18 (by decide) (by kernel_rfl)
          have q2 : gR 19 = (.pointer (some (ad.add i))) := hq 2 19 (by decide) (by kernel_rfl)
          have q3 : gR 20 = (.slice ps n cs) := hq 3 20 (by decide) (by kernel_rfl)
          have q4 : gR 21 = (.int .i64 (n : Nat)) := hq 4 21 (by decide) (by kernel_rfl)
          have q5 : gR 22 = (.pointer (some ⟨w.heap.size, 0, none⟩)) := hq 5 22 (by decide) (by kernel_rfl)
          have q6 : gR 23 = (.int .i64 N) := hq 6 23 (by decide) (by kernel_rfl)
          have q7 : gR 24 = (.bool false) := hq 7 24 (by decide) (by kernel_rfl)
          refine ⟨fun _ => ?_, fun o ho => by simp at ho⟩
          simp only [putL, List.map_cons, List.map_nil, q0, q1, q2, q3, q4, q5, q6, q7, Act.put, pu1, pu2, pu3]
          clear hq hSE q0 q1 q2 q3 q4 q5 q6 q7
          clear hS1 hS2 hSB huE
          go_wp2_with fail
          go_roundg (Ls.length - (i + 1))
          case measure => omega
          case rel => exact ⟨i + 1, hlt, Nat.le_refl _, rfl, fun j hj => by
            rcases Nat.lt_succ_iff_lt_or_eq.1 hj with h | h
            · exact HZ.out j h
            · rw [h, HN.out]; exact HNe.out, hu.trans hS3⟩
        · have d1 : ((n : Int) != N) = true := by simpa using hne
          have HC2 : Hid (C = 23) := hid (by rw [HC.out]; exact if_neg fun h => hne (by have := h i hlt; rw [HN.out] at this; exact this))
          clear hne
          go_wp2_with fail
          refine wp_region_sp (n := 58) 8 [17, 18, 19, 20, 21, 22, 23, 24] [SP.is (.slice (some ad) Ls.length cL), SP.is (.int .i64 (i : Nat)), SP.is (.pointer (some (ad.add i))), SP.is (.slice ps n cs), SP.is (.int .i64 (n : Nat)), SP.is (.pointer (some ⟨w.heap.size, 0, none⟩)), SP.is (.int .i64 N), SP.is (.bool true)] (fun wq => wq.cell? (ad.add i) = some (.slice ps n cs) ∧ wq.cell? ⟨w.heap.size, 0, none⟩ = some (.int .i64 N) ∧ Up wr wq ∧ Below w.heap.size w wq) (by kernel_rfl) (by rfl) (by kernel_rfl) (by kernel_rfl) (fun _ _ h hu => ⟨hu.cell (h.1), hu.cell (h.2.1), (h.2.2.1).trans hu, below_up (h.2.2.2) hu⟩) ⟨(by assumption), (by assumption), (by first | exact Up.refl _ | assumption), gUp⟩ (fun ev w9 hS9 i o hne hi hev => ?_) (fun gR wE hq hSE huE => ?_)
          · have ⟨hS1, hS2, hS3, hSB⟩ := hS9
            have hcC := hev.const
            have hcF := hev.func
            have hcG := hev.global
            rcases i with _ | _ | _ | _ | _ | _ | _ | _ | i
            · obtain rfl := Option.some.inj (show some _ = some o from hi)
              have e1 := hev.other 1 (by kernel_rfl)
              simp [Act.eval] at e1
              exact leavesR_value (u := .slice (some ad) Ls.length cL) (by first | (go_simp; done) | (go_simp; exact rfl)) rfl
            · obtain rfl := Option.some.inj (show some _ = some o from hi)
              have e5 := hev.other 5 (by kernel_rfl)
              simp [Act.eval] at e5
              exact leavesR_value (u := .int .i64 (i : Nat)) (by first | (go_simp; done) | (go_simp; exact rfl)) rfl
            · obtain rfl := Option.some.inj (show some _ = some o from hi)
              have e17 : ev (.tmp 17) = (.slice (some ad) Ls.length cL) := hev.dep 0 17 (by kernel_rfl)
              have e18 : ev (.tmp 18) = (.int .i64 (i : Nat)) := hev.dep 1 18 (by kernel_rfl)
              exact leavesR_value (u := .pointer (some (ad.add i))) (by first | (go_simp; done) | (go_simp; exact rfl)) rfl
            · obtain rfl := Option.some.inj (show some _ = some o from hi)
              have e19 : ev (.tmp 19) = (.pointer (some (ad.add i))) := hev.dep 2 19 (by kernel_rfl)
              exact leavesR_value (u := .slice ps n cs) (by go_simp) rfl
            · obtain rfl := Option.some.inj (show some _ = some o from hi)
              have e20 : ev (.tmp 20) = (.slice ps n cs) := hev.dep 3 20 (by kernel_rfl)
              exact leavesR_value (u := .int .i64 (n : Nat)) (by first | (go_simp; done) | (go_simp; exact rfl)) rfl
            · obtain rfl := Option.some.inj (show some _ = some o from hi)
              have e2 := hev.other 2 (by kernel_rfl)
              simp [Act.eval] at e2
              exact leavesR_value (u := .pointer (some ⟨w.heap.size, 0, none⟩)) (by first | (go_simp; done) | (go_simp; exact rfl)) rfl
            · obtain rfl := Option.some.inj (show some _ = some o from hi)
              have e22 : ev (.tmp 22) = (.pointer (some ⟨w.heap.size, 0, none⟩)) := hev.dep 5 22 (by kernel_rfl)
              exact leavesR_value (u := .int .i64 N) (by go_simp) rfl
            · obtain rfl := Option.some.inj (show some _ = some o from hi)
              have e21 : ev (.tmp 21) = (.int .i64 (n : Nat)) := hev.dep 4 21 (by kernel_rfl)
              have e23 : ev (.tmp 23) = (.int .i64 N) := hev.dep 6 23 (by kernel_rfl)
              exact leavesR_value (u := .bool true) (by first | (go_simp; done) | (go_simp; exact rfl)) rfl
            · exact absurd (show i + 8 < 8 from (Array.getElem?_eq_some_iff.1 hi).1) (by omega)
          have ⟨hS1, hS2, hS3, hSB⟩ := hSE
          have q0 : gR 17 = (.slice (some ad) Ls.length cL) := hq 0 17 (by decide) (by kernel_rfl)
          have q1 : gR 18 = (.int .i64 (i : Nat)) := hq 1 18 (by decide) (by kernel_rfl)
          have q2 : gR 19 = (.pointer (some (ad.add i))) := hq 2 19 (by decide) (by kernel_rfl)
          have q3 : gR 20 = (.slice ps n cs) := hq 3 20 (by decide) (by kernel_rfl)
          have q4 : gR 21 = (.int .i64 (n : Nat)) := hq 4 21 (by decide) (by kernel_rfl)
          have q5 : gR 22 = (.pointer (some ⟨w.heap.size, 0, none⟩)) := hq 5 22 (by decide) (by kernel_rfl)
          have q6 : gR 23 = (.int .i64 N) := hq 6 23 (by decide) (by kernel_rfl)
          have q7 : gR 24 = (.bool true) := hq 7 24 (by decide) (by kernel_rfl)
          refine ⟨fun _ => ?_, fun o ho => by simp at ho⟩
          simp only [putL, List.map_cons, List.map_nil, q0, q1, q2, q3, q4, q5, q6, q7, Act.put, pu1, pu2, pu3]
          clear hq hSE q0 q1 q2 q3 q4 q5 q6 q7
          clear hS1 hS2 hSB huE
          go_wp2_with fail
          go_ret
          exact ⟨by rw [HC2.out]; rfl, (hU.trans hu).trans hS3⟩
      · obtain rfl : i = Ls.length := by omega
        have HC2 : Hid (C = if ∀ i, i < Ls.length → (Ls.getD i []).all vfit = true then 0 else 21) := hid (by rw [HC.out]; exact if_pos HZ.out)
        go_wp2_with fail
        obtain ⟨wO, hwO⟩ : ∃ y, wr = y := ⟨_, rfl⟩
        rw [hwO] at hu hc0 ⊢
        clear hwO
        go_loopg [6] Ls.length (fun g ti wr => ∃ i : Nat, i ≤ Ls.length ∧ Ls.length - i ≤ g ∧ ti = .int .i64 (i : Nat) ∧ (∀ j, j < i → (Ls.getD j []).all vfit = true) ∧ wr = wO)
        case atStart => exact ⟨0, Nat.zero_le _, by omega, rfl, fun j hj => absurd hj (Nat.not_lt_zero _), rfl⟩
        case round =>
          clear hc0
          obtain ⟨i, hi, hig, rfl, hz, rfl⟩ := hrel
          have HY := hid hz
          clear hz
          by_cases hlt : i < Ls.length
          · obtain ⟨ad, s, rfl, hcx, hV⟩ := HE.out _ (hU.trans hu) i hlt
            have HV := hid hV
            obtain ⟨ps, cs, rfl, -, -⟩ := hV
            have e1 : IntKind.i64.wrap ((i : Int) + 1) = (i : Int) + 1 := IntWalk.i64_in _ (by omega)
            have hLi := HS.out i
            obtain ⟨x, hx⟩ : ∃ x, Ls.getD i [] = x := ⟨_, rfl⟩
            have HX := hid hx
            rw [hx] at hcx HV hLi
            clear hx
            go_wp2_with fail
            obtain ⟨wI, hwI⟩ : ∃ y, wr = y := ⟨_, rfl⟩
            rw [hwI] at hu hcx HV ⊢
            go_loopg [7] x.length (fun g tk wr => ∃ k : Nat, k ≤ x.length ∧ x.length - k ≤ g ∧ tk = .int .i64 (k : Nat) ∧ (∀ j, j < k → vfit (zth x j) = true) ∧ wr = wI)
            case atStart => exact ⟨0, Nat.zero_le _, by omega, rfl, fun j hj => absurd hj (Nat.not_lt_zero _), rfl⟩
            case round =>
              obtain ⟨k, hk, hkg, rfl, hy, rfl⟩ := hrel
              have HK := hid hy
              clear hy
              by_cases hkl : k < x.length
              · obtain ⟨q', cq', xq, _, hcq⟩ := HV.out
                injection xq with y1 y2 y3
                subst y1 y3
                obtain ⟨a2, rfl, hck⟩ := hcq k hkl
                have e2 : IntKind.i64.wrap ((k : Int) + 1) = (k : Int) + 1 := IntWalk.i64_in _ (by omega)
                clear hcq y2
                obtain ⟨z, hz⟩ : ∃ z, zth x k = z := ⟨_, rfl⟩
                rw [hz] at hck
                have HZz := hid hz
                clear hz
                cases hf : vfit z with
                | true =>
                  have Hf := hid hf
                  unfold vfit at hf
                  have hf := of_decide_eq_true hf
                  have d1 : decide ((72057594037927936 : Int) < z) = false := decide_eq_false (by omega)
                  have d2 : decide (z < (-72057594037927936 : Int)) = false := decide_eq_false (by omega)
                  clear hf
                  go_wp2_with fail
                  go_roundg (x.length - (k + 1))
                  case measure => omega
                  case rel => exact ⟨k + 1, hkl, Nat.le_refl _, rfl, fun j hj => by
                    rcases Nat.lt_succ_iff_lt_or_eq.1 hj with h | h
                    · exact HK.out j h
                    · rw [h, HZz.out]; exact Hf.out, rfl⟩
                | false =>
                  have HC3 : Hid (C = 21) := hid (by
                    rw [HC2.out]
                    refine if_neg fun h => ?_
                    have h1 := List.all_eq_true.1 (h i hlt) (zth x k) (by rw [HX.out, zth_get hkl]; exact List.getElem_mem _)
                    rw [HZz.out, hf] at h1
                    cases h1)
                  by_cases hb : (72057594037927936 : Int) < z
                  · have d1 : decide ((72057594037927936 : Int) < z) = true := decide_eq_true hb
                    clear hf hb
                    go_wp2_with fail
                    go_ret
                    exact ⟨by rw [HC3.out]; rfl, hU.trans hu⟩
                  · have d1 : decide ((72057594037927936 : Int) < z) = false := decide_eq_false hb
                    have d2 : decide (z < (-72057594037927936 : Int)) = true := decide_eq_true (by have := vfit_false_of hf; omega)
                    clear hf hb
                    go_wp2_with fail
                    go_ret
                    exact ⟨by rw [HC3.out]; rfl, hU.trans hu⟩
              · obtain rfl : k = x.length := by omega
                have hall : x.all vfit = true := List.all_eq_true.2 fun y hy => by
                  obtain ⟨j, hj, rfl⟩ := List.mem_iff_getElem.1 hy
                  have := HK.out j hj
                  rw [zth_get hj] at this
                  exact this
                have HA := hid hall
                clear hall
                go_wp2_with fail
                go_roundg (Ls.length - (i + 1))
                case measure => omega
                case rel => exact ⟨i + 1, hlt, Nat.le_refl _, rfl, fun j hj => by
                  rcases Nat.lt_succ_iff_lt_or_eq.1 hj with h | h
                  · exact HY.out j h
                  · rw [h, HX.out]; exact HA.out, hwI.symm⟩
          · obtain rfl : i = Ls.length := by omega
            have HC3 : Hid (C = 0) := hid (by rw [HC2.out]; exact if_pos HY.out)
            go_wp2_with fail
            go_ret
            exact ⟨by rw [HC3.out]; rfl, hU.trans hu⟩
theorem amount_bigA {z : Int} {v : Value} {w : World} (h : Big w v z) :
    Calls Tryz.prog 88 #[v] w fun e w' => Up w w' ∧ ∃ v, e = .returned v ∧ Big w' v (z.natAbs : Int) := by
  obtain ⟨a, c, rfl, hA⟩ := h
  refine (amount_any _ _ _ _ _).mono ?_
  rintro e w' ⟨rfl, hu⟩
  refine ⟨hu, _, rfl, a, c, ?_, ?_⟩
  · rw [decide_eq_false (by omega), show (((z.natAbs : Nat) : Int)).natAbs = z.natAbs from by omega]
  · rw [show (((z.natAbs : Nat) : Int)).natAbs = z.natAbs from by omega]; exact hA.up hu
set_option maxHeartbeats 16000000 in
theorem rresidual_any {mv xv vv : Value} {N : Int} {l x v : List Int} {w : World} (hm : Sm w mv N l) (hx : Vw w xv x) (hv : Vw w vv v) (hIx : In64 x) (hIv : In64 v) (hsx : x.length ≤ 1000) (hsv : v.length ≤ 1000) :
    Calls Tryz.prog 44 #[mv, xv, vv] w fun r w' => r = .returned (.tuple #[.int .i64 (rsV N l x v), .int .i64 (rsC N l x v)]) ∧ Up w w' := by
  have HF := hid (fun w' (hu : Up w w') => rfine_any (hm.up (hu.trans (Up.alloc w' (.cells #[xv, vv] 22)))) (lv_two (hx.up hu) (hv.up hu)) (fun i => by rcases i with _ | _ | i; exact hIx; exact hIv; exact fun j hj => absurd hj (Nat.not_lt_zero _)) (fun i => by rcases i with _ | _ | i; exact hsx; exact hsv; exact Nat.zero_le _) (by simp))
  have HT := hid (fun w' (hu : Up w w') => rtimes_w (hm.up hu) (hx.up hu) hIx hsx)
  have HV := hid hv
  have HIX := hid hIx
  have HIV := hid hIv
  obtain ⟨px, cx, rfl, -, -⟩ := hx
  obtain ⟨pv, cv, rfl, -, -⟩ := hv
  obtain ⟨s, rfl, ⟨p, cap, rfl, -, -⟩, -, -, -⟩ := hm
  obtain ⟨W0, hW0⟩ : ∃ W0, w.alloc (.cells #[.int .i64 N, .slice p l.length cap] 24) = W0 := ⟨_, rfl⟩
  have hB : Blk W0 w.heap.size 24 #[.int .i64 N, .slice p l.length cap] := by rw [← hW0]; exact Blk.new _ _ rfl
  have hU : Up w W0 := by rw [← hW0]; exact Up.alloc _ _
  have HFW := hid (HF.out W0 hU)
  have hBa := hB.up (Up.alloc W0 (.cells #[.slice px x.length cx, .slice pv v.length cv] 22))
  have hUa := hU.trans (Up.alloc W0 (.cells #[.slice px x.length cx, .slice pv v.length cv] 22))
  unfold RWidesPost at HT
  obtain ⟨F, hF⟩ : ∃ F, ftC N l [x, v] = F := ⟨_, rfl⟩
  obtain ⟨C, hC⟩ : ∃ C, rsC N l x v = C := ⟨_, rfl⟩
  obtain ⟨V, hVv⟩ : ∃ V, rsV N l x v = V := ⟨_, rfl⟩
  have HFF := hid hF
  have HC := hid hC
  have HVv := hid hVv
  rw [hF] at HFW
  rw [hC, hVv]
  clear hF hC hVv HF hIx hIv hsx hsv
  by_cases h0 : F = 0
  · obtain ⟨n, rfl, hR, hxl, hvl⟩ := ftC_two (HFF.out.trans h0)
    have hn8 : n ≤ 8 := by have := (rt_spec hR).2.1; omega
    have etc : tmC (n : Int) l x = 0 := by unfold tmC; rw [hR, decide_eq_true (by omega)]; rfl
    have etr : tmR (n : Int) l x = tmL n l x := by unfold tmR; rw [if_pos etc]; rfl
    rw [etc, etr] at HT
    have hTl : (tmL n l x).length = n := mk_len _ _
    have HTl := hid hTl
    have HTa := hid (fun i (hi : i < n) => show zth (tmL n l x) i = tmS n l x i n from mk_at hi)
    have HTb := hid (fun i (hi : i < n) => tmS_bp hR HIX.out hxl hi (Nat.le_refl n) hn8)
    have HVi := hid (fun i (hi : i < n) => HIV.out i (by omega))
    have HRb := hid (rsM_bp HTb.out HVi.out)
    have HC2 : Hid (C = if rsM n l x v n < 9223372036854775808 then 0 else 21) := hid (by rw [← HC.out]; unfold rsC; rw [if_pos (HFF.out.trans h0)]; rfl)
    have HV2 : Hid (V = if C = 0 then rsM n l x v n else 0) := hid (by rw [← HVv.out, ← HC.out]; rfl)
    have HOV := hid (fun i (hi : i < n) w => of_big (zth v i) (HVi.out i hi).1 (HVi.out i hi).2 w)
    have HVL := hid hvl
    rw [h0] at HFW
    rw [hxl] at HT HFW hBa hUa ⊢
    rw [hvl] at HV HFW hBa hUa ⊢
    clear etc etr hTl hR hxl hvl h0 HFF
    go_enter Tryz.func44, Tryz.ntmps44
    go_wp2_with (first
      | ((with_reducible apply ldM_P); exact rfl; exact rfl; (first | exact hB | exact hB1); exact rfl)
      | (go_at_call 72; (with_reducible refine HFW.out.mono ?_); rintro r w1 ⟨rfl, hu1⟩; have hB1 := hBa.up hu1; have hU1 := hUa.trans hu1)
      | (go_at_call 87; (with_reducible refine (HT.out _ hU1).mono ?_); rintro r w2 ⟨z2, rfl, hu2, hW2⟩; obtain ⟨pz, cz, rfl⟩ := hW2.slice; have hU2 := hU1.trans hu2
         rw [HTl.out])
      | ((with_reducible apply stB_P); exact rfl; exact rfl; exact Blk.new _ _ rfl; exact rfl; exact rfl; exact one2 _ _ _ _
         refine wpL_folded (fun wd => Up w2 wd ∧ Blk wd w2.heap.size 46 #[.bool false, .slice none 0 0]) ⟨below_setRow (Up.alloc _ _) (Nat.le_refl _) _, Blk.setRow (Blk.new _ _ rfl) _⟩ ?_
         rintro wM ⟨hXM, hBs⟩))
    obtain ⟨bG, hbG⟩ : ∃ y, w2.heap.size = y := ⟨_, rfl⟩
    rw [hbG] at hBs ⊢
    rw [HTl.out] at hW2
    have HW2 := hid hW2
    clear hW2 hu2 hB1 hBa hUa hW0 hB hU hu1 hU1 HFW HT
    go_loopg [12] n (fun g ti wr => ∃ (i : Nat) (b0 : Bool) (p0 : Option Addr) (n0 c0 : Nat), i ≤ n ∧ n - i ≤ g ∧ ti = .int .i64 (i : Nat) ∧ Blk wr bG 46 #[.bool b0, .slice p0 n0 c0] ∧ Big wr (.agg #[.bool b0, .slice p0 n0 c0]) (rsM n l x v i) ∧ Up w2 wr)
    case atStart => exact ⟨0, false, none, 0, 0, Nat.zero_le _, by omega, rfl, hBs, big_zero _, hXM⟩
    case round =>
      clear hBs hXM
      obtain ⟨i, b0, p0, n0, c0, hi, hig, rfl, hBs, hBg, hu⟩ := hrel
      have hGn := nl_bp (k := 3) (by omega) (HRb.out i hi).2
      by_cases hlt : i < n
      · obtain ⟨gZ, cZ, CZ, hv, -, hBZ, hE⟩ := (show Bv w2 (.slice pz (tmL n l x).length cz) (tmL n l x) from by rw [HTl.out]; exact HW2.out).open (by rw [HTl.out]; omega)
        rw [HTl.out] at hv
        injection hv with x1 x2 x3
        subst x1 x3
        obtain ⟨bt, pt, nt, ct, h1, h2, h3⟩ := hE i (by rw [HTl.out]; exact hlt)
        rw [HTa.out i hlt] at h3
        have HRg := hid (fun w' (hB : Blk w' gZ 46 CZ) => bigAt_range hB h1 h2)
        have hBZr := hBZ.up hu
        have hbt := h3.up hu
        have hVr := Vw.up (hU2.trans hu) HV.out
        obtain ⟨q', cq', xq, _, hcq⟩ := hVr
        injection xq with y1 y2 y3
        subst y1
        obtain ⟨ad, rfl, hck⟩ := hcq i (by rw [HVL.out]; exact hlt)
        have hp2 := HTb.out i hlt
        have hv64 := HVi.out i hlt
        have HOf := hid (HOV.out i hlt)
        have hRs : rsM n l x v (i + 1) = if rsM n l x v i < (((tmS n l x i n - zth v i).natAbs : Nat) : Int) then (((tmS n l x i n - zth v i).natAbs : Nat) : Int) else rsM n l x v i := rfl
        have e3 : bp 3 = bp 2 * 18446744073709551616 := bp_succ 2
        have e2' : bp 2 = bp 1 * 18446744073709551616 := bp_succ 1
        have e1' : bp 1 = bp 0 * 18446744073709551616 := bp_succ 0
        rw [bp_zero] at e1'
        have hd3 : (tmS n l x i n - zth v i).natAbs < bp 3 := by unfold I64 at hv64; omega
        have hAn := nl_bp (k := 3) (z := (((tmS n l x i n - zth v i).natAbs : Nat) : Int)) (by omega) (by omega)
        have HSb := hid (fun (va vb : Value) (w : World) (h1 : Big w va (tmS n l x i n)) (h2 : Big w vb (zth v i)) => sub_big h1 h2 (nl_bp (k := 2) (by omega) hp2) (nl_bp (k := 2) (by omega) (show (zth v i).natAbs < bp 2 by unfold I64 at hv64; omega)))
        have HRs := hid hRs
        have e1 : IntKind.i64.wrap ((i : Int) + 1) = (i : Int) + 1 := IntWalk.i64_in _ (by omega)
        clear hE h1 h2 h3 x2 hBZ hcq y2 y3 hRs e3 e2' e1' hd3 hp2 hv64
        obtain ⟨vi, hvi⟩ : ∃ y, zth v i = y := ⟨_, rfl⟩
        rw [hvi] at hck HOf HSb HRs hAn
        clear hvi
        generalize tmS n l x i n = S at *
        obtain ⟨dd, hdd⟩ : ∃ dd, S - vi = dd := ⟨_, rfl⟩
        rw [hdd] at HSb HRs hAn
        clear hdd
        have HAm := hid (fun (va : Value) (w : World) (h : Big w va dd) => amount_bigA h)
        obtain ⟨A, hA⟩ : ∃ A, ((dd.natAbs : Nat) : Int) = A := ⟨_, rfl⟩
        rw [hA] at HAm HRs hAn
        clear hA
        obtain ⟨G, hGg⟩ : ∃ G, rsM n l x v i = G := ⟨_, rfl⟩
        rw [hGg] at hBg HRs hGn
        clear hGg
        have HCm := hid (fun (va vb : Value) (w : World) (h1 : Big w va A) (h2 : Big w vb G) => cmp_big h1 h2 hAn hGn)
        clear hAn hGn
        go_wp2_with fail
        refine wp_region_sp (n := 61) 12 [37, 38, 39, 40, 41, 42, 43, 44, 45, 46, 47, 13] [SP.is (.slice (some ⟨gZ, 0, none⟩) n cz), SP.is (.int .i64 (i : Nat)), SP.is (.pointer (some ⟨gZ, i * 2, none⟩)), SP.is (.agg #[.bool bt, .slice pt nt ct]), SP.is (.slice (some ad) n cv), SP.is (.int .i64 (i : Nat)), SP.is (.pointer (some (ad.add i))), SP.is (.int .i64 vi), SP.of (fun v w1 => Big w1 v vi) (fun _ _ _ h hu => h.up hu), SP.of (fun v w1 => Big w1 v dd) (fun _ _ _ h hu => h.up hu), SP.of (fun v w1 => Big w1 v A) (fun _ _ _ h hu => h.up hu), SP.of (fun v w1 => ∃ b, v = .pointer (some ⟨b, 0, none⟩) ∧ wr.heap.size ≤ b ∧ Blk w1 b 46 #[.bool false, .slice none 0 0]) (fun _ _ _ h hu => h.imp fun _ k => ⟨k.1, k.2.1, k.2.2.up hu⟩), SP.any] (fun wq => Blk wq gZ 46 CZ ∧ wq.cell? (ad.add i) = some (.int .i64 vi) ∧ Up wr wq ∧ Below w.heap.size w wq) (by kernel_rfl) (by rfl) (by kernel_rfl) (by kernel_rfl) (fun _ _ h hu => ⟨(h.1).up hu, hu.cell (h.2.1), (h.2.2.1).trans hu, below_up (h.2.2.2) hu⟩) ⟨(by first | assumption | exact gBlk), (by assumption), (by first | exact Up.refl _ | assumption), gUp⟩ (fun ev w9 hS9 i o hne hi hev => ?_) (fun gR wE hq hSE huE => ?_)
        · have ⟨hS1, hS2, hS3, hSB⟩ := hS9
          have hcC := hev.const
          have hcF := hev.func
          have hcG := hev.global
          rcases i with _ | _ | _ | _ | _ | _ | _ | _ | _ | _ | _ | _ | _ | i
          · obtain rfl := Option.some.inj (show some _ = some o from hi)
            have e9 := hev.other 9 (by kernel_rfl)
            simp [Act.eval] at e9
            exact leavesR_value (u := .slice (some ⟨gZ, 0, none⟩) n cz) (by first | (go_simp; done) | (go_simp; exact rfl)) rfl
          · obtain rfl := Option.some.inj (show some _ = some o from hi)
            have e12 := hev.other 12 (by kernel_rfl)
            simp [Act.eval] at e12
            exact leavesR_value (u := .int .i64 (i : Nat)) (by first | (go_simp; done) | (go_simp; exact rfl)) rfl
          · obtain rfl := Option.some.inj (show some _ = some o from hi)
            have e37 : ev (.tmp 37) = (.slice (some ⟨gZ, 0, none⟩) n cz) := hev.dep 0 37 (by kernel_rfl)
            have e38 : ev (.tmp 38) = (.int .i64 (i : Nat)) := hev.dep 1 38 (by kernel_rfl)
            exact leavesR_value (u := .pointer (some ⟨gZ, i * 2, none⟩)) (by first | (go_simp; done) | (go_simp; exact rfl)) rfl
          · obtain rfl := Option.some.inj (show some _ = some o from hi)
            have e39 : ev (.tmp 39) = (.pointer (some ⟨gZ, i * 2, none⟩)) := hev.dep 2 39 (by kernel_rfl)
            exact leavesR_value (run_ldB2 rfl e39 (HRg.out _ hS1)) rfl
          · obtain rfl := Option.some.inj (show some _ = some o from hi)
            have e2 := hev.other 2 (by kernel_rfl)
            simp [Act.eval] at e2
            exact leavesR_value (u := .slice (some ad) n cv) (by first | (go_simp; done) | (go_simp; exact rfl)) rfl
          · obtain rfl := Option.some.inj (show some _ = some o from hi)
            have e12 := hev.other 12 (by kernel_rfl)
            simp [Act.eval] at e12
            exact leavesR_value (u := .int .i64 (i : Nat)) (by first | (go_simp; done) | (go_simp; exact rfl)) rfl
          · obtain rfl := Option.some.inj (show some _ = some o from hi)
            have e41 : ev (.tmp 41) = (.slice (some ad) n cv) := hev.dep 4 41 (by kernel_rfl)
            have e42 : ev (.tmp 42) = (.int .i64 (i : Nat)) := hev.dep 5 42 (by kernel_rfl)
            exact leavesR_value (u := .pointer (some (ad.add i))) (by first | (go_simp; done) | (go_simp; exact rfl)) rfl
          · obtain rfl := Option.some.inj (show some _ = some o from hi)
            have e43 : ev (.tmp 43) = (.pointer (some (ad.add i))) := hev.dep 6 43 (by kernel_rfl)
            exact leavesR_value (u := .int .i64 vi) (by go_simp) rfl
          · obtain rfl := Option.some.inj (show some _ = some o from hi)
            have e44 : ev (.tmp 44) = (.int .i64 vi) := hev.dep 7 44 (by kernel_rfl)
            refine leavesR_call ?_ (HOf.out _)
            go_simp
          · obtain rfl := Option.some.inj (show some _ = some o from hi)
            have e40 : ev (.tmp 40) = (.agg #[.bool bt, .slice pt nt ct]) := hev.dep 3 40 (by kernel_rfl)
            have e45 : (fun v w1 => Big w1 v vi) (ev (.tmp 45)) w9 := hev.dep 8 45 (by kernel_rfl)
            dsimp only at e45
            obtain ⟨v45, hv45⟩ : ∃ v, ev (.tmp 45) = v := ⟨_, rfl⟩
            rw [hv45] at e45
            refine leavesR_call ?_ (HSb.out _ _ _ (e40 ▸ hbt.up hS3) e45)
            go_simp
          · obtain rfl := Option.some.inj (show some _ = some o from hi)
            have e46 : (fun v w1 => Big w1 v dd) (ev (.tmp 46)) w9 := hev.dep 9 46 (by kernel_rfl)
            dsimp only at e46
            obtain ⟨v46, hv46⟩ : ∃ v, ev (.tmp 46) = v := ⟨_, rfl⟩
            rw [hv46] at e46
            refine leavesR_call ?_ (HAm.out _ _ e46)
            go_simp
          · obtain rfl := Option.some.inj (show some _ = some o from hi)
            exact leavesR_up (u := .pointer (some ⟨w9.heap.size, 0, none⟩)) (w' := w9.alloc (.cells #[.bool false, .slice none 0 0] 46)) (by go_simp) (Up.alloc _ _) ⟨_, rfl, hS3.size, Blk.new _ _ rfl⟩
          · exact absurd rfl hne
          · exact absurd (show i + 13 < 13 from (Array.getElem?_eq_some_iff.1 hi).1) (by omega)
        have ⟨hS1, hS2, hS3, hSB⟩ := hSE
        have q0 : gR 37 = (.slice (some ⟨gZ, 0, none⟩) n cz) := hq 0 37 (by decide) (by kernel_rfl)
        have q1 : gR 38 = (.int .i64 (i : Nat)) := hq 1 38 (by decide) (by kernel_rfl)
        have q2 : gR 39 = (.pointer (some ⟨gZ, i * 2, none⟩)) := hq 2 39 (by decide) (by kernel_rfl)
        have q3 : gR 40 = (.agg #[.bool bt, .slice pt nt ct]) := hq 3 40 (by decide) (by kernel_rfl)
        have q4 : gR 41 = (.slice (some ad) n cv) := hq 4 41 (by decide) (by kernel_rfl)
        have q5 : gR 42 = (.int .i64 (i : Nat)) := hq 5 42 (by decide) (by kernel_rfl)
        have q6 : gR 43 = (.pointer (some (ad.add i))) := hq 6 43 (by decide) (by kernel_rfl)
        have q7 : gR 44 = (.int .i64 vi) := hq 7 44 (by decide) (by kernel_rfl)
        have q8 : (fun v w1 => Big w1 v vi) (gR 45) wE := hq 8 45 (by decide) (by kernel_rfl)
        dsimp only at q8
        obtain ⟨v45, hv45⟩ : ∃ v, gR 45 = v := ⟨_, rfl⟩
        rw [hv45] at q8
        have q9 : (fun v w1 => Big w1 v dd) (gR 46) wE := hq 9 46 (by decide) (by kernel_rfl)
        dsimp only at q9
        obtain ⟨v46, hv46⟩ : ∃ v, gR 46 = v := ⟨_, rfl⟩
        rw [hv46] at q9
        have q10 : (fun v w1 => Big w1 v A) (gR 47) wE := hq 10 47 (by decide) (by kernel_rfl)
        dsimp only at q10
        obtain ⟨v47, hv47⟩ : ∃ v, gR 47 = v := ⟨_, rfl⟩
        rw [hv47] at q10
        have q11 : (fun v w1 => ∃ b, v = .pointer (some ⟨b, 0, none⟩) ∧ wr.heap.size ≤ b ∧ Blk w1 b 46 #[.bool false, .slice none 0 0]) (gR 13) wE := hq 11 13 (by decide) (by kernel_rfl)
        dsimp only at q11
        obtain ⟨v13, hv13⟩ : ∃ v, gR 13 = v := ⟨_, rfl⟩
        rw [hv13] at q11
        refine ⟨fun h => absurd h (by decide), fun o ho => ?_⟩
        obtain rfl := Option.some.inj (show some _ = some o from ho)
        simp only [putL, List.map_cons, List.map_nil, q0, q1, q2, q3, q4, q5, q6, q7, hv45, hv46, hv47, hv13, Act.put, pu1, pu2, pu3]
        clear hq hSE q0 q1 q2 q3 q4 q5 q6 q7
        obtain ⟨b7, rfl, hb7, hBz⟩ := q11
        obtain ⟨bb, ba, bn, bc, rfl⟩ := q10.shape
        refine wp_stB rfl rfl rfl rfl hBz rfl rfl (one2 _ _ _ _) ?_
        have hlG := hBs.lt
        have gB := hBz.setRow #[.bool bb, .slice ba bn bc]
        have gG := big_set (D := #[.bool bb, .slice ba bn bc]) hBz q10
        have gS := Blk.row_other (hBs.up hS3) #[.bool bb, .slice ba bn bc] (show bG ≠ b7 by omega)
        have gSb := big_set (D := #[.bool bb, .slice ba bn bc]) hBz (hBg.up hS3)
        have gU : Up w2 _ := below_setRow (hu.trans hS3) (show w2.heap.size ≤ b7 from Nat.le_trans hu.size hb7) #[.bool bb, .slice ba bn bc]
        obtain ⟨wK, hwK⟩ : ∃ wK, wE.setRow b7 #[.bool bb, .slice ba bn bc] = wK := ⟨_, rfl⟩
        rw [hwK] at gB gG gS gSb gU ⊢
        clear hwK hBz q8 q9 q10 hS1 hS2 hS3 hSB huE hBs hBg hlG hb7
        by_cases hc : G < A
        · have dc : decide (cmpZ A G > 0) = true := by unfold cmpZ; rw [if_neg (by omega), if_pos hc]; rfl
          rw [if_pos hc] at HRs
          clear hc
          go_wp2_with (first
            | ((with_reducible apply ldB_P); exact rfl; exact rfl; (first | exact gB | exact gS | exact gB.up hu5); exact rfl)
            | (go_at_call 48; (with_reducible refine (HCm.out _ _ _ gG gSb).mono ?_); rintro r w5 ⟨rfl, hu5⟩)
            | ((with_reducible apply stB_P); exact rfl; exact rfl; exact gS.up hu5; exact rfl; exact rfl; exact one2 _ _ _ _
               refine wpL_folded (fun wd => Up w2 wd ∧ Blk wd bG 46 #[.bool bb, .slice ba bn bc] ∧ Big wd (.agg #[.bool bb, .slice ba bn bc]) A) ⟨below_setRow (gU.trans hu5) (by omega) _, Blk.setRow (gS.up hu5) _, big_set (gS.up hu5) (gG.up hu5)⟩ ?_
               rintro w6 ⟨hX6, hB6, hG6⟩))
          go_roundg (n - (i + 1))
          case measure => omega
          case rel => exact ⟨i + 1, bb, ba, bn, bc, hlt, Nat.le_refl _, rfl, hB6, by rw [HRs.out]; exact hG6, hX6⟩
        · have dc : decide (cmpZ A G > 0) = false := by unfold cmpZ; by_cases h1 : A < G; rw [if_pos h1]; rfl; rw [if_neg h1, if_neg hc]; rfl
          rw [if_neg hc] at HRs
          clear hc
          go_wp2_with (first
            | ((with_reducible apply ldB_P); exact rfl; exact rfl; (first | exact gB | exact gS); exact rfl)
            | (go_at_call 48; (with_reducible refine (HCm.out _ _ _ gG gSb).mono ?_); rintro r w5 ⟨rfl, hu5⟩))
          go_roundg (n - (i + 1))
          case measure => omega
          case rel => exact ⟨i + 1, b0, p0, n0, c0, hlt, Nat.le_refl _, rfl, gS.up hu5, by rw [HRs.out]; exact gSb.up hu5, gU.trans hu5⟩
      · obtain rfl : i = n := by omega
        have HI64 := hid (fun (va : Value) (w : World) (h : Big w va (rsM i l x v i)) => int64_big h hGn)
        have h0R := (HRb.out i hi).1
        by_cases hc : rsM i l x v i < 9223372036854775808
        · rw [i64V_yes (by omega)] at HI64
          have HC3 : Hid (C = 0) := hid (by rw [HC2.out]; exact if_pos hc)
          have HV3 : Hid (V = rsM i l x v i) := hid (by rw [HV2.out, HC3.out]; rfl)
          clear hc h0R hGn
          generalize rsM i l x v i = G at *
          go_wp2_with (first
            | ((with_reducible apply ldB_P); exact rfl; exact rfl; exact hBs; exact rfl)
            | (go_at_call 78; (with_reducible refine (HI64.out _ _ hBg).mono ?_); rintro r w5 ⟨rfl, hu5⟩))
          go_ret2
          exact ⟨by rw [HV3.out, HC3.out]; rfl, hU2.trans (hu.trans hu5)⟩
        · rw [i64V_no (by omega)] at HI64
          have HC3 : Hid (C = 21) := hid (by rw [HC2.out]; exact if_neg hc)
          have HV3 : Hid (V = 0) := hid (by rw [HV2.out, HC3.out]; rfl)
          clear hc h0R hGn
          generalize rsM i l x v i = G at *
          go_wp2_with (first
            | ((with_reducible apply ldB_P); exact rfl; exact rfl; exact hBs; exact rfl)
            | (go_at_call 78; (with_reducible refine (HI64.out _ _ hBg).mono ?_); rintro r w5 ⟨rfl, hu5⟩))
          go_ret2
          exact ⟨by rw [HV3.out, HC3.out]; rfl, hU2.trans (hu.trans hu5)⟩
  · have HC2 : Hid (C = F) := hid (by rw [← HC.out]; unfold rsC; rw [HFF.out]; exact if_neg h0)
    have HV2 : Hid (V = 0) := hid (by rw [← HVv.out]; unfold rsV; rw [HC.out, HC2.out]; exact if_neg h0)
    have d0 : (F != 0) = true := by simpa using h0
    clear h0
    go_enter Tryz.func44, Tryz.ntmps44
    go_wp2_with (first
      | ((with_reducible apply ldM_P); exact rfl; exact rfl; exact hB; exact rfl)
      | (go_at_call 72; (with_reducible refine HFW.out.mono ?_); rintro r w1 ⟨rfl, hu1⟩))
    go_ret2
    exact ⟨by rw [HV2.out, HC2.out]; rfl, hUa.trans hu1⟩
theorem nr_half {D z : Int} (h0 : 0 < D) : (2 * (D * nrN D z - z)).natAbs ≤ D.natAbs := by
  unfold nrN
  have h1 := Int.mul_ediv_add_emod (2 * z + D) (2 * D)
  have h2 := Int.emod_nonneg (2 * z + D) (show 2 * D ≠ 0 by omega)
  have h3 := Int.emod_lt_of_pos (2 * z + D) (show 0 < 2 * D by omega)
  generalize (2 * z + D) / (2 * D) = t at *
  generalize (2 * z + D) % (2 * D) = r at *
  have h4 : 2 * D * t = 2 * (D * t) := by rw [Int.mul_assoc]
  generalize D * t = m at *
  omega
def raS (n : Nat) (l : List Int) (i k : Nat) : Int := sumN k fun j => max (ent n l i j) (-(ent n l i j))
theorem max_neg (x : Int) : max x (-x) = (x.natAbs : Int) := by omega
theorem raS_in {n : Nat} {l : List Int} (hR : rt n l = true) {i : Nat} (hi : i < n) : ∀ k, k ≤ n → 0 ≤ raS n l i k ∧ raS n l i k ≤ k * 1073741824 := by
  intro k
  induction k with
  | zero => intro _; exact ⟨Int.le_refl _, by show (0 : Int) ≤ _; omega⟩
  | succ k ih =>
    intro hk
    have h1 := ih (by omega)
    have h2 := ent_fit hR hi (show k < n by omega)
    have e : raS n l i (k + 1) = raS n l i k + max (ent n l i k) (-(ent n l i k)) := rfl
    rw [e, max_neg]
    omega
def raM (n : Nat) (l : List Int) : Nat → Int
  | 0 => 0
  | i + 1 => max (raM n l i) (raS n l i n)
theorem raM_in {n : Nat} {l : List Int} (hR : rt n l = true) (h8 : n ≤ 8) : ∀ i, i ≤ n → 0 ≤ raM n l i ∧ raM n l i ≤ 8589934592 := by
  intro i
  induction i with
  | zero => intro _; exact ⟨Int.le_refl _, by show (0 : Int) ≤ _; omega⟩
  | succ i ih =>
    intro hi
    have h1 := ih (by omega)
    have h2 := raS_in hR (show i < n by omega) n (Nat.le_refl n)
    show 0 ≤ max _ _ ∧ max _ _ ≤ _
    omega
theorem tmS_sum (n : Nat) (l y : List Int) (i : Nat) : ∀ k, tmS n l y i k = sumN k fun j => ent n l i j * zth y j := by
  intro k
  induction k with
  | zero => rfl
  | succ k ih => show tmS n l y i k + _ = sumN k _ + _; rw [ih]
theorem res_half {n : Nat} {l v : List Int} (h : Def n l v) {i : Nat} (hi : i < n) : 2 * (((tmS n l (nrL n l v) i n - zth v i).natAbs : Nat) : Int) ≤ raS n l i n := by
  have hD := h.den_pos
  have e1 : slD n l * (2 * (tmS n l (nrL n l v) i n - zth v i)) = sumN n fun j => ent n l i j * (2 * (slD n l * nrN (slD n l) (slX n l v j) - slX n l v j)) := by
    rw [tmS_sum]
    have e2 : sumN n (fun j => ent n l i j * zth (nrL n l v) j) = sumN n fun j => ent n l i j * nrN (slD n l) (slX n l v j) := sumN_congr fun j hj => by unfold nrL; rw [mk_at hj]
    rw [e2]
    have e3 : sumN n (fun j => ent n l i j * (2 * (slD n l * nrN (slD n l) (slX n l v j) - slX n l v j))) = (2 * slD n l) * sumN n (fun j => ent n l i j * nrN (slD n l) (slX n l v j)) + (-2) * sumN n (fun j => ent n l i j * slX n l v j) := sumN_lin fun j _ => by grind
    rw [e3, h.solves hi]
    grind
  have e4 : (sumN n fun j => ent n l i j * (2 * (slD n l * nrN (slD n l) (slX n l v j) - slX n l v j))).natAbs ≤ (slD n l * raS n l i n).toNat := by
    have key : ∀ k, ((sumN k fun j => ent n l i j * (2 * (slD n l * nrN (slD n l) (slX n l v j) - slX n l v j))).natAbs : Int) ≤ slD n l * raS n l i k := by
      intro k
      induction k with
      | zero => simp [sumN, raS]
      | succ k ih =>
        have f1 := nr_half (z := slX n l v k) hD
        have f2 := Int.natAbs_add_le (sumN k fun j => ent n l i j * (2 * (slD n l * nrN (slD n l) (slX n l v j) - slX n l v j))) (ent n l i k * (2 * (slD n l * nrN (slD n l) (slX n l v k) - slX n l v k)))
        have f3 : ((ent n l i k * (2 * (slD n l * nrN (slD n l) (slX n l v k) - slX n l v k))).natAbs : Int) ≤ slD n l * max (ent n l i k) (-(ent n l i k)) := by
          rw [Int.natAbs_mul, max_neg]
          have f4 : (ent n l i k).natAbs * (2 * (slD n l * nrN (slD n l) (slX n l v k) - slX n l v k)).natAbs ≤ (ent n l i k).natAbs * (slD n l).natAbs := Nat.mul_le_mul_left _ f1
          have f5 : (((slD n l).natAbs : Nat) : Int) = slD n l := by omega
          have f6 : (((ent n l i k).natAbs * (slD n l).natAbs : Nat) : Int) = slD n l * (((ent n l i k).natAbs : Nat) : Int) := by rw [Int.natCast_mul, f5, Int.mul_comm]
          rw [← f6]
          exact Int.ofNat_le.2 f4
        have e5 : raS n l i (k + 1) = raS n l i k + max (ent n l i k) (-(ent n l i k)) := rfl
        have e6 : (sumN (k + 1) fun j => ent n l i j * (2 * (slD n l * nrN (slD n l) (slX n l v j) - slX n l v j))) = (sumN k fun j => ent n l i j * (2 * (slD n l * nrN (slD n l) (slX n l v j) - slX n l v j))) + ent n l i k * (2 * (slD n l * nrN (slD n l) (slX n l v k) - slX n l v k)) := rfl
        rw [e5, e6, Int.mul_add]
        omega
    have := key n
    omega
  rw [← e1, Int.natAbs_mul, Int.natAbs_mul] at e4
  have h1 := (raS_in h.right hi n (Nat.le_refl n)).1
  have h2 : 0 ≤ slD n l * raS n l i n := Int.mul_nonneg (by omega) h1
  generalize (tmS n l (nrL n l v) i n - zth v i).natAbs = a at *
  have h3 : (((slD n l).natAbs * ((2 : Int).natAbs * a) : Nat) : Int) ≤ slD n l * raS n l i n := by omega
  rw [Int.natCast_mul, show (((slD n l).natAbs : Nat) : Int) = slD n l by omega] at h3
  have h4 := Int.le_of_mul_le_mul_left h3 hD
  rw [Int.natCast_mul] at h4
  exact h4
theorem rsM_half {n : Nat} {l v : List Int} (h : Def n l v) : ∀ i, i ≤ n → 2 * rsM n l (nrL n l v) v i ≤ raM n l i := by
  intro i
  induction i with
  | zero => intro _; exact Int.le_refl _
  | succ i ih =>
    intro hi
    have h1 := ih (by omega)
    have h2 := res_half h (show i < n by omega)
    have e1 : raM n l (i + 1) = max (raM n l i) (raS n l i n) := rfl
    rw [e1]
    unfold rsM
    split <;> omega
theorem near_bad {N : Int} {l x : List Int} {w w' : World} {r : Ending} (h : NearPost w N l x r w') (h0 : neC N l x ≠ 0) : ∃ t y, r = .returned (.tuple #[.slice none 0 0, .iface t y]) ∧ Up w w' := by
  obtain ⟨z, u, rfl, hu, -, hz, he⟩ := h
  obtain rfl := hz h0
  rcases he with ⟨h, -⟩ | ⟨-, t, y, rfl, -⟩
  · exact absurd h h0
  · exact ⟨t, y, rfl, hu⟩
theorem near_ok {n : Nat} {l x : List Int} {w w' : World} {r : Ending} (h : NearPost w n l x r w') (h0 : neC n l x = 0) : ∃ p c, r = .returned (.tuple #[.slice p n c, .nilIface]) ∧ Up w w' ∧ Vw w' (.slice p n c) (nrL n l x) := by
  obtain ⟨z, u, rfl, hu, hV, -, he⟩ := h
  have e : neL n l x = nrL n l x := by unfold neL; rw [if_pos h0]; rfl
  rw [e] at hV
  obtain ⟨p, c, rfl, -, -⟩ := id hV
  have hl : (nrL n l x).length = n := mk_len _ _
  rw [hl] at hV ⊢
  rcases he with ⟨-, rfl⟩ | ⟨h, -⟩
  · exact ⟨p, c, rfl, hu, hV⟩
  · exact absurd h0 h
theorem neC_spec {n : Nat} {l x : List Int} (h0 : neC n l x = 0) : Def n l x ∧ x.length = n ∧ (nrL n l x).all vfit = true := by
  unfold neC at h0
  by_cases h1 : slC n l x = 0
  · rw [if_pos h1] at h0
    by_cases h2 : (nrL n l x).all vfit = true
    · obtain ⟨m, hm, hD, hl⟩ := slC_def h1
      obtain rfl : n = m := by omega
      exact ⟨hD, hl, h2⟩
    · rw [if_neg (by exact h2)] at h0; omega
  · rw [if_neg h1] at h0; exact absurd h0 h1
theorem vfit_i64 {x : Int} (h : vfit x = true) : I64 x := by
  have := of_decide_eq_true h
  unfold I64; omega
theorem near_res {n : Nat} {l x : List Int} (hD : Def n l x) (hl : x.length = n) (hv : (nrL n l x).all vfit = true) : rsC n l (nrL n l x) x = 0 ∧ rsV n l (nrL n l x) x = rsM n l (nrL n l x) x n ∧ In64 (nrL n l x) := by
  have hyl : (nrL n l x).length = n := mk_len _ _
  have h8 := hD.n8
  have hf : ftC n l [nrL n l x, x] = 0 := by
    unfold ftC
    rw [if_pos ⟨hD.right, fun i hi => by
      rcases i with _ | _ | i
      · show (((nrL n l x).length : Nat) : Int) = _; rw [hyl]
      · show ((x.length : Nat) : Int) = _; rw [hl]
      · simp at hi; omega⟩]
    refine if_pos fun i hi => ?_
    rcases i with _ | _ | i
    · exact hv
    · refine List.all_eq_true.2 fun y hy => ?_
      obtain ⟨j, hj, rfl⟩ := List.mem_iff_getElem.1 hy
      have h1 := hD.vec j
      rw [zth_get (show j < x.length from hj)] at h1
      exact decide_eq_true h1
    · simp at hi; omega
  have h1 := rsM_half hD n (Nat.le_refl n)
  have h2 := raM_in hD.right h8 n (Nat.le_refl n)
  have hc : rsC n l (nrL n l x) x = 0 := by
    unfold rsC
    rw [if_pos hf]
    refine if_pos ?_
    show rsM n l (nrL n l x) x n < _
    omega
  refine ⟨hc, by unfold rsV; rw [if_pos hc]; rfl, fun i hi => ?_⟩
  have := List.all_eq_true.1 hv (zth (nrL n l x) i) (by rw [zth_get hi]; exact List.getElem_mem _)
  exact vfit_i64 this
set_option maxHeartbeats 32000000 in
theorem proves_w {w : World} {a0 : Int} {p0 : Option Addr} {len0 cap0 : Nat} {l0 : List Int} {vh vx vv : Value} {hs lx lv : List Int} (n d : Nat) (sm : Bool) (hg : Glob w) (hraw : Vw w (.slice p0 len0 cap0) l0) (ha0 : I64 a0) (hl0 : In64 l0)
    (hn : n < 256) (hd : d < 65536) (hvh : Vh w vh hs) (h16 : In16 hs) (hvx : Vw w vx lx) (hIx : In64 lx) (hvv : Vw w vv lv) (hIv : In64 lv) :
    Calls Tryz.prog 8 #[.agg #[.int .i64 a0, .slice p0 len0 cap0], .int .u8 (n : Nat), .int .u16 (d : Nat), vh, vx, vv, .bool sm] w fun r w' => r = .returned (.bool true) ∧ Up w w' := by
  have HK := hid (fun w' (hu : Up w w') => sknown_true (hg.up hu))
  have HG := hid (fun w' (hu : Up w w') => hg.up hu)
  have HVX := hid (fun w' (hu : Up w w') => Vw.up hu hvx)
  have HVV := hid (fun w' (hu : Up w w') => Vw.up hu hvv)
  have hlen : len0 = l0.length := by
    obtain ⟨p, c, e, _⟩ := hraw
    injection e
  obtain ⟨ph, ch, rfl, hhc⟩ := hvh
  obtain ⟨px, cx, rfl, -⟩ := hvx
  obtain ⟨pv, cv, rfl, -⟩ := hvv
  obtain ⟨W0, hW0⟩ : ∃ W0, w.alloc (.cells #[.int .i64 a0, .slice p0 len0 cap0] 24) = W0 := ⟨_, rfl⟩
  have hB : Blk W0 w.heap.size 24 #[.int .i64 a0, .slice p0 len0 cap0] := by rw [← hW0]; exact Blk.new _ _ rfl
  have hU : Up w W0 := by rw [← hW0]; exact Up.alloc _ _
  by_cases hA : len0 ≤ 60
  · have d1 : decide ((60 : Int) < (len0 : Int)) = false := decide_eq_false (by omega)
    by_cases hC : hs.length ≤ 60
    · have d2 : decide ((60 : Int) < (hs.length : Int)) = false := decide_eq_false (by omega)
      by_cases hDv : lv.length ≤ 40
      · have d3 : decide ((40 : Int) < (lv.length : Int)) = false := decide_eq_false (by omega)
        by_cases hDx : lx.length ≤ 40
        · have d4 : decide ((40 : Int) < (lx.length : Int)) = false := decide_eq_false (by omega)
          have HSm := hid (show Sm w (.agg #[.int .i64 a0, .slice p0 len0 cap0]) a0 l0 from ⟨_, rfl, hraw, ha0, hl0, by omega⟩)
          have HST := hid (fun w' (hu : Up w w') => seat_any n d hn hd (show Vh w' (.slice ph hs.length ch) hs from ⟨ph, ch, rfl, fun i hi => by obtain ⟨a, h1, h2⟩ := hhc i hi; exact ⟨a, h1, hu.cellEq h2⟩⟩) h16 hC)
          clear hraw ha0 hl0 hhc h16 hg hlen hn hd
          have HIX := hid hIx
          have HIV := hid hIv
          clear hIx hIv
          go_enter Tryz.func8, Tryz.ntmps8
          go_upto_region 8 with (first
            | (go_at_call 30; (with_reducible refine (HK.out _ hU).mono ?_); rintro r w1 ⟨rfl, hu1⟩; have hB1 := hB.up hu1; have hU1 := hU.trans hu1; have hc1 := hB1.cell 1 rfl)
            | (go_at_call 13; (with_reducible refine (HST.out _ hU1).mono ?_); rintro r w2 ⟨z, N, L, rfl, hu2, hs2, hR⟩; obtain ⟨m0, m8, -, -⟩ := rt_spec hR; obtain ⟨m, rfl⟩ : ∃ m : Nat, N = (m : Int) := ⟨N.toNat, by omega⟩; have hs2' := hs2; obtain ⟨s, base, rfl, hO2, hr2⟩ := hs2'; obtain ⟨p2, n2, c2, rfl⟩ := OwnI.slice hO2)
            | ((with_reducible apply stM_P); exact rfl; exact rfl; exact Blk.new _ _ rfl; exact rfl; exact rfl; exact two2 _ _ _ _ _
               have hub := below_setRow (Up.alloc w2 (.cells #[.int .i64 0, .slice none 0 0] 24)) (Nat.le_refl _) #[.int .i64 (m : Int), .slice p2 n2 c2]
               have hBm := (Blk.new (w := w2) (b := w2.heap.size) 24 #[.int .i64 0, .slice none 0 0] rfl).setRow #[.int .i64 (m : Int), .slice p2 n2 c2]
               have hSm := hs2.sm.up hub
               have hBr := (hB1.up hu2).up hub
               have hUm := (hU1.trans hu2).trans hub
               obtain ⟨wA, hwA⟩ : ∃ x, (w2.alloc (.cells #[.int .i64 0, .slice none 0 0] 24)).setRow w2.heap.size #[.int .i64 (m : Int), .slice p2 n2 c2] = x := ⟨_, rfl⟩
               obtain ⟨bm, hbm⟩ : ∃ x, w2.heap.size = x := ⟨_, rfl⟩
               rw [hwA] at hBm hSm hBr hUm ⊢
               rw [hbm] at hBm ⊢
               clear hub hwA hbm hs2 hO2 hu1 hu2)
            | ((with_reducible apply ldM_P); exact rfl; exact rfl; (first | exact hBr | exact hBr.up hu3); exact rfl)
            | (go_at_call 43; (with_reducible refine (residual_any (HSm.out.up hUm) (HVX.out _ hUm) (HVV.out _ hUm) HIX.out HIV.out (by omega) (by omega)).mono ?_); rintro r w3 ⟨u3, rfl, hu3, he3⟩; have hU3 := hUm.trans hu3)
            | (go_at_call 44; (with_reducible refine (rresidual_any (HSm.out.up hU3) (HVX.out _ hU3) (HVV.out _ hU3) HIX.out HIV.out (by omega) (by omega)).mono ?_); rintro r w4 ⟨rfl, hu4⟩))
          have hB4 := hBm.up (hu3.trans hu4)
          have hS4 := hid (hSm.up (hu3.trans hu4))
          have hU4 := hU3.trans hu4
          have hE4 := he3.up hu4
          generalize rsV a0 l0 lx lv = V1 at *
          generalize rsC a0 l0 lx lv = C1 at *
          try simp only [Act.put]
          have m8' : m ≤ 8 := by omega
          have HRt := hid hR
          have HVc1 := hid (fun w' (hu : Up w4 w') => show Calls Tryz.prog 31 #[.agg #[.int .i64 (m : Nat), .slice p2 n2 c2], .slice px lx.length cx, .bool sm] w' (fun e w'' => Up w' w'' ∧ ∃ v, e = .returned v ∧ Vw w'' v (vecL lx sm m)) from (vec_any m sm rfl (by omega) (HVX.out _ (hU4.trans hu)) HIX.out (by omega)).mono fun _ _ h => by obtain ⟨z, b, rfl, h1, -, h2⟩ := h; exact ⟨h1, z, rfl, h2.vw⟩)
          have HVc2 := hid (fun w' (hu : Up w4 w') => show Calls Tryz.prog 31 #[.agg #[.int .i64 (m : Nat), .slice p2 n2 c2], .slice pv lv.length cv, .bool sm] w' (fun e w'' => Up w' w'' ∧ ∃ v, e = .returned v ∧ Vw w'' v (vecL lv sm m)) from (vec_any m sm rfl (by omega) (HVV.out _ (hU4.trans hu)) HIV.out (by omega)).mono fun _ _ h => by obtain ⟨z, b, rfl, h1, -, h2⟩ := h; exact ⟨h1, z, rfl, h2.vw⟩)
          clear hu3 hu4 he3 hU3 hBm hSm hBr hUm hB1 hU1 hc1 hR hr2 hW0 hB hU m0 m8 d1 d2 d3 d4
          refine wp_region_sp (n := 165) 10 [73, 74, 75, 76, 77, 78, 79, 80, 20, 21] [SP.is (.agg #[.int .i64 (m : Nat), .slice p2 n2 c2]), SP.is (.slice px lx.length cx), SP.is (.bool sm), SP.of (fun v w1 => Vw w1 v (vecL lx sm m)) (fun _ _ _ h hu => Vw.up hu h), SP.is (.agg #[.int .i64 (m : Nat), .slice p2 n2 c2]), SP.is (.slice pv lv.length cv), SP.is (.bool sm), SP.of (fun v w1 => Vw w1 v (vecL lv sm m)) (fun _ _ _ h hu => Vw.up hu h), SP.of (fun v w1 => Vw w1 v (vecL lx sm m)) (fun _ _ _ h hu => Vw.up hu h), SP.of (fun v w1 => Vw w1 v (vecL lv sm m)) (fun _ _ _ h hu => Vw.up hu h)] (fun wq => Blk wq bm 24 #[.int .i64 (m : Int), .slice p2 n2 c2] ∧ Up w4 wq ∧ Below w.heap.size w wq) (by kernel_rfl) (by rfl) (by kernel_rfl) (by kernel_rfl) (fun _ _ h hu => ⟨(h.1).up hu, (h.2.1).trans hu, below_up (h.2.2) hu⟩) ⟨(by first | assumption | exact gBlk), (by first | exact Up.refl _ | assumption), gUp⟩ (fun ev w9 hS9 i o hne hi hev => ?_) (fun gR wE hq hSE huE => ?_)
          · have ⟨hS1, hS2, hSB⟩ := hS9
            have hcC := hev.const
            have hcF := hev.func
            have hcG := hev.global
            rcases i with _ | _ | _ | _ | _ | _ | _ | _ | _ | _ | i
            · obtain rfl := Option.some.inj (show some _ = some o from hi)
              have e15 := hev.other 15 (by kernel_rfl)
              simp [Act.eval] at e15
              exact leavesR_value (run_ldME rfl (by go_simp) hS1 rfl) rfl
            · obtain rfl := Option.some.inj (show some _ = some o from hi)
              have e4 := hev.other 4 (by kernel_rfl)
              simp [Act.eval] at e4
              exact leavesR_value (u := .slice px lx.length cx) (by first | (go_simp; done) | (go_simp; exact rfl)) rfl
            · obtain rfl := Option.some.inj (show some _ = some o from hi)
              have e6 := hev.other 6 (by kernel_rfl)
              simp [Act.eval] at e6
              exact leavesR_value (u := .bool sm) (by first | (go_simp; done) | (go_simp; exact rfl)) rfl
            · obtain rfl := Option.some.inj (show some _ = some o from hi)
              have e73 : ev (.tmp 73) = (.agg #[.int .i64 (m : Nat), .slice p2 n2 c2]) := hev.dep 0 73 (by kernel_rfl)
              have e74 : ev (.tmp 74) = (.slice px lx.length cx) := hev.dep 1 74 (by kernel_rfl)
              have e75 : ev (.tmp 75) = (.bool sm) := hev.dep 2 75 (by kernel_rfl)
              refine leavesR_call ?_ (HVc1.out _ hS2)
              go_simp
            · obtain rfl := Option.some.inj (show some _ = some o from hi)
              have e15 := hev.other 15 (by kernel_rfl)
              simp [Act.eval] at e15
              exact leavesR_value (run_ldME rfl (by go_simp) hS1 rfl) rfl
            · obtain rfl := Option.some.inj (show some _ = some o from hi)
              have e5 := hev.other 5 (by kernel_rfl)
              simp [Act.eval] at e5
              exact leavesR_value (u := .slice pv lv.length cv) (by first | (go_simp; done) | (go_simp; exact rfl)) rfl
            · obtain rfl := Option.some.inj (show some _ = some o from hi)
              have e6 := hev.other 6 (by kernel_rfl)
              simp [Act.eval] at e6
              exact leavesR_value (u := .bool sm) (by first | (go_simp; done) | (go_simp; exact rfl)) rfl
            · obtain rfl := Option.some.inj (show some _ = some o from hi)
              have e77 : ev (.tmp 77) = (.agg #[.int .i64 (m : Nat), .slice p2 n2 c2]) := hev.dep 4 77 (by kernel_rfl)
              have e78 : ev (.tmp 78) = (.slice pv lv.length cv) := hev.dep 5 78 (by kernel_rfl)
              have e79 : ev (.tmp 79) = (.bool sm) := hev.dep 6 79 (by kernel_rfl)
              refine leavesR_call ?_ (HVc2.out _ hS2)
              go_simp
            · obtain rfl := Option.some.inj (show some _ = some o from hi)
              have e76 : (fun v w1 => Vw w1 v (vecL lx sm m)) (ev (.tmp 76)) w9 := hev.dep 3 76 (by kernel_rfl)
              dsimp only at e76
              obtain ⟨v76, hv76⟩ : ∃ v, ev (.tmp 76) = v := ⟨_, rfl⟩
              rw [hv76] at e76
              exact leavesR_value (u := v76) (by go_simp) e76
            · obtain rfl := Option.some.inj (show some _ = some o from hi)
              have e80 : (fun v w1 => Vw w1 v (vecL lv sm m)) (ev (.tmp 80)) w9 := hev.dep 7 80 (by kernel_rfl)
              dsimp only at e80
              obtain ⟨v80, hv80⟩ : ∃ v, ev (.tmp 80) = v := ⟨_, rfl⟩
              rw [hv80] at e80
              exact leavesR_value (u := v80) (by go_simp) e80
            · exact absurd (show i + 10 < 10 from (Array.getElem?_eq_some_iff.1 hi).1) (by omega)
          have ⟨hS1, hS2, hSB⟩ := hSE
          have q0 : gR 73 = (.agg #[.int .i64 (m : Nat), .slice p2 n2 c2]) := hq 0 73 (by decide) (by kernel_rfl)
          have q1 : gR 74 = (.slice px lx.length cx) := hq 1 74 (by decide) (by kernel_rfl)
          have q2 : gR 75 = (.bool sm) := hq 2 75 (by decide) (by kernel_rfl)
          have q3 : (fun v w1 => Vw w1 v (vecL lx sm m)) (gR 76) wE := hq 3 76 (by decide) (by kernel_rfl)
          dsimp only at q3
          obtain ⟨v76, hv76⟩ : ∃ v, gR 76 = v := ⟨_, rfl⟩
          rw [hv76] at q3
          have q4 : gR 77 = (.agg #[.int .i64 (m : Nat), .slice p2 n2 c2]) := hq 4 77 (by decide) (by kernel_rfl)
          have q5 : gR 78 = (.slice pv lv.length cv) := hq 5 78 (by decide) (by kernel_rfl)
          have q6 : gR 79 = (.bool sm) := hq 6 79 (by decide) (by kernel_rfl)
          have q7 : (fun v w1 => Vw w1 v (vecL lv sm m)) (gR 80) wE := hq 7 80 (by decide) (by kernel_rfl)
          dsimp only at q7
          obtain ⟨v80, hv80⟩ : ∃ v, gR 80 = v := ⟨_, rfl⟩
          rw [hv80] at q7
          have q8 : (fun v w1 => Vw w1 v (vecL lx sm m)) (gR 20) wE := hq 8 20 (by decide) (by kernel_rfl)
          dsimp only at q8
          obtain ⟨v20, hv20⟩ : ∃ v, gR 20 = v := ⟨_, rfl⟩
          rw [hv20] at q8
          have q9 : (fun v w1 => Vw w1 v (vecL lv sm m)) (gR 21) wE := hq 9 21 (by decide) (by kernel_rfl)
          dsimp only at q9
          obtain ⟨v21, hv21⟩ : ∃ v, gR 21 = v := ⟨_, rfl⟩
          rw [hv21] at q9
          refine ⟨fun _ => ?_, fun o ho => by simp at ho⟩
          simp only [putL, List.map_cons, List.map_nil, q0, q1, q2, hv76, q4, q5, q6, hv80, hv20, hv21, Act.put, pu1, pu2, pu3]
          clear hq hSE q0 q1 q2 q4 q5 q6
          clear q3 q7 hSB hS2
          have HSE := hid (hS4.out.up huE)
          have hUE := hU4.trans huE
          have hEE := hE4.up huE
          have hBE := hS1
          clear huE hS1 hB4 hS4 hU4 hE4 HVc1 HVc2 HVX HVV HSm HST HK
          have hXl := vecL_len lx sm m
          have hVl := vecL_len lv sm m
          have HXi := hid (vecL_in HIX.out sm m (by omega))
          have HVi := hid (vecL_in HIV.out sm m (by omega))
          generalize vecL lx sm m = X at *
          generalize vecL lv sm m = V at *
          have HXE := hid q8
          have HVE := hid q9
          have HXl := hid hXl
          have HVl := hid hVl
          obtain ⟨pX, cX, rfl, -, -⟩ := id q8
          obtain ⟨pV, cV, rfl, -, -⟩ := id q9
          clear q8 q9 hXl hVl
          go_upto_region 11 with (first
            | ((with_reducible apply ldM_P); exact rfl; exact rfl; (first | exact hBE | exact hBE.up hu5); exact rfl)
            | (go_at_call 43; (with_reducible refine (residual_any HSE.out HXE.out HVE.out HXi.out HVi.out (by rw [HXl.out]; omega) (by rw [HVl.out]; omega)).mono ?_); rintro r w5 ⟨u5, rfl, hu5, he5⟩)
            | (go_at_call 44; (with_reducible refine (rresidual_any (HSE.out.up hu5) (Vw.up hu5 HXE.out) (Vw.up hu5 HVE.out) HXi.out HVi.out (by rw [HXl.out]; omega) (by rw [HVl.out]; omega)).mono ?_); rintro r w6 ⟨rfl, hu6⟩))
          have hU6 := hUE.trans (hu5.trans hu6)
          have hB6 := hBE.up (hu5.trans hu6)
          have hS6 := hid (HSE.out.up (hu5.trans hu6))
          have hV6 := hid (Vw.up (hu5.trans hu6) HVE.out)
          have k1 := hEE.up (hu5.trans hu6)
          have k2 := he5.up hu6
          clear hu5 hu6 he5 hEE hBE hUE HXE HVE HSE
          generalize rsV (m : Int) L X V = V2 at *
          generalize rsC (m : Int) L X V = C2 at *
          by_cases h9 : neC m L V = 0
          · have HNr := hid (fun w' (hu : Up w6 w') => (near_sol (hS6.out.up hu) (Vw.up hu hV6.out) HVi.out (by rw [HVl.out]; omega)).mono fun _ _ h => near_ok h h9)
            obtain ⟨hDf, hVL, hyf⟩ := neC_spec h9
            obtain ⟨hr0, hrv, hYi⟩ := near_res hDf hVL hyf
            have hyl : (nrL m L V).length = m := mk_len _ _
            have HYl := hid hyl
            have HYi := hid hYi
            have HRh := hid (rsM_half hDf m (Nat.le_refl m))
            have HRs := hid (fun w' (hS : Sm w' (.agg #[.int .i64 (m : Nat), .slice p2 n2 c2]) m L) yv qv (hy : Vw w' yv (nrL m L V)) (hq : Vw w' qv V) => show Calls Tryz.prog 43 #[.agg #[.int .i64 (m : Nat), .slice p2 n2 c2], yv, qv] w' (fun r w'' => r = .returned (.tuple #[.int .i64 (rsM m L (nrL m L V) V m), .nilIface]) ∧ Up w' w'') from (residual_any hS hy hq HYi.out HVi.out (by rw [HYl.out]; omega) (by rw [HVl.out]; omega)).mono fun _ _ h => by
              unfold ResPost at h
              obtain ⟨u, rfl, hu, he⟩ := h
              rw [hr0] at he
              rw [hrv]
              rcases he with ⟨-, rfl⟩ | ⟨h, -⟩
              · exact ⟨rfl, hu⟩
              · exact absurd rfl h)
            have HMi := hid (fun i (hi : i ≤ m) => raM_in HRt.out m8' i hi)
            have HSi := hid (fun i (hi : i < m) k (hk : k ≤ m) => raS_in HRt.out hi k hk)
            have hr1 : 0 ≤ rsM m L (nrL m L V) V m := by
              have : ∀ i, 0 ≤ rsM m L (nrL m L V) V i := fun i => by
                induction i with
                | zero => exact Int.le_refl _
                | succ i ih => unfold rsM; split <;> omega
              exact this m
            have HR1 := hid hr1
            clear hDf hVL hyf hr0 hrv hYi hyl h9 hr1
            generalize rsM m L (nrL m L V) V m = R at *
            generalize nrL m L V = Y at *
            go_wp2_with (first
            | (go_at_call 36; first
                | ((with_reducible refine (ssays_any k1 (HG.out _ hU6)).mono ?_); rintro r w7 ⟨rfl, hu7⟩; have hU7 := hU6.trans hu7)
                | ((with_reducible refine (ssays_any (k2.up hu7) (HG.out _ hU7)).mono ?_); rintro r w8 ⟨rfl, hu8⟩; have hU8 := hU7.trans hu8; have hu78 := hu7.trans hu8; have hB8 := hB6.up hu78))
              | ((with_reducible apply ldM_P); exact rfl; exact rfl; (first | exact hB8 | exact hB8.up hu9); exact rfl)
              | (go_at_call 34; (with_reducible refine (HNr.out _ hu78).mono ?_); rintro r w9 ⟨p9, c9, rfl, hu9, hY9⟩)
              | (go_at_call 43; (with_reducible refine (HRs.out _ (hS6.out.up (hu78.trans hu9)) _ _ hY9 (Vw.up (hu78.trans hu9) hV6.out)).mono ?_); rintro r w10 ⟨rfl, hu10⟩))
            have hU10 := hU8.trans (hu9.trans hu10)
            have hBX := hB8.up (hu9.trans hu10)
            have HSX := hid ((hS6.out.up (hu78.trans hu9)).up hu10)
            clear hu7 hu8 hu9 hu10 hU8 hU7 hU6 hB8 hB6 hu78 hY9 k1 k2
            go_loopg [30, 31] m (fun g tm ti wr => ∃ i : Nat, i ≤ m ∧ m - i ≤ g ∧ ti = .int .i64 (i : Nat) ∧ tm = .int .i64 (raM m L i) ∧ Up w10 wr)
            case atStart => exact ⟨0, Nat.zero_le _, by omega, rfl, rfl, Up.refl _⟩
            case round =>
              obtain ⟨i, hi, hig, rfl, rfl, hu⟩ := hrel
              have hcm := (hBX.up hu).cell 0 rfl
              by_cases hlt : i < m
              · have e1 : IntKind.i64.wrap ((i : Int) + 1) = (i : Int) + 1 := IntWalk.i64_in _ (by omega)
                have HMs : Hid (raM m L (i + 1) = max (raM m L i) (raS m L i m)) := hid rfl
                go_wp2_with fail
                clear hcm
                obtain ⟨wO, hwO⟩ : ∃ y, wr = y := ⟨_, rfl⟩
                rw [hwO] at hu ⊢
                clear hwO
                go_loopg [32, 33] m (fun g tt tk wr => ∃ k : Nat, k ≤ m ∧ m - k ≤ g ∧ tk = .int .i64 (k : Nat) ∧ tt = .int .i64 (raS m L i k) ∧ Up wO wr)
                case atStart => exact ⟨0, Nat.zero_le _, by omega, rfl, rfl, Up.refl _⟩
                case round =>
                  obtain ⟨k, hk, hkg, rfl, rfl, huk⟩ := hrel
                  have hBk := hBX.up (hu.trans huk)
                  have hcm := hBk.cell 0 rfl
                  by_cases hkl : k < m
                  · have e2 : IntKind.i64.wrap ((k : Int) + 1) = (k : Int) + 1 := IntWalk.i64_in _ (by omega)
                    have HAk := hid (fun w' (hu' : Up wr w') => rat_ent (i : Int) (k : Int) (HSX.out.up ((hu.trans huk).trans hu')) HRt.out (show rng (m : Int) i k = true from decide_eq_true (by omega)))
                    have h1 := ent_fit HRt.out hlt hkl
                    have h2 := HSi.out i hlt k hk
                    have h3 := HSi.out i hlt (k + 1) hkl
                    have hSs : raS m L i (k + 1) = raS m L i k + max (ent m L i k) (-(ent m L i k)) := rfl
                    obtain ⟨e, he⟩ : ∃ e, ent m L i k = e := ⟨_, rfl⟩
                    rw [he] at HAk h1 hSs
                    obtain ⟨T, hT⟩ : ∃ T, raS m L i k = T := ⟨_, rfl⟩
                    rw [hT] at h2 hSs ⊢
                    rw [hSs] at h3
                    have w1 : IntKind.i64.wrap (-e) = -e := IntWalk.i64_in _ (by omega)
                    have w2 : IntKind.i64.wrap (T + max e (-e)) = T + max e (-e) := IntWalk.i64_in _ (by omega)
                    have HSs := hid hSs
                    clear he hT h1 h2 h3 hSs
                    go_wp2_with fail
                    refine wp_region_upH (S := (fun wq => Blk wq bm 24 #[.int .i64 (m : Int), .slice p2 n2 c2] ∧ Up wr wq ∧ Below w.heap.size w wq)) (req := (fun _ => true)) (by kernel_rfl) (fun _ _ h hu => ⟨(h.1).up hu, (h.2.1).trans hu, below_up (h.2.2) hu⟩) ⟨gBlk, (by first | exact Up.refl _ | assumption), gUp⟩ (fun wS hSS hSu => ?_)
                    have ⟨hS1, hS2, hSB⟩ := hSS
                    refine wpAnyU_pure (i := 0) (d := (some 142)) (v := ?_) rfl rfl (by kernel_rfl) (fun _ _ _ h => h) hSu.out (Or.inl ⟨by rfl, fun w' _ => yu_value ?_⟩) ?_
                    rotate_left
                    · (go_simp; (try exact rfl))
                    try simp only [Act.put, pu1, pu2, pu3]
                    refine wpAnyU_take (i := 1) (d := (some 143)) (v := _) rfl rfl (by kernel_rfl) (fun _ _ _ h => h) hSu.out hSS (Or.inl ⟨by rfl, fun w' hSw => yu_value (run_ldM rfl rfl hSw.1 rfl)⟩) ?_
                    try simp only [Act.put, pu1, pu2, pu3]
                    refine wpAnyU_pure (i := 2) (d := (some 144)) (v := ?_) rfl rfl (by kernel_rfl) (fun _ _ _ h => h) hSu.out (Or.inl ⟨by rfl, fun w' _ => yu_value ?_⟩) ?_
                    rotate_left
                    · (go_simp; (try exact rfl))
                    try simp only [Act.put, pu1, pu2, pu3]
                    refine wpAnyU_pure (i := 3) (d := (some 145)) (v := ?_) rfl rfl (by kernel_rfl) (fun _ _ _ h => h) hSu.out (Or.inl ⟨by rfl, fun w' _ => yu_value ?_⟩) ?_
                    rotate_left
                    · (go_simp; (try exact rfl))
                    try simp only [Act.put, pu1, pu2, pu3]
                    refine wpAnyU_take (i := 4) (d := (some 146)) (v := _) rfl rfl (by kernel_rfl) (fun _ _ _ h => h) hSu.out hSS (Or.inl ⟨by rfl, fun w' hSw => yu_call ?_ (HAk.out _ hSw.2.1)⟩) ?_
                    · go_simp
                    try simp only [Act.put, pu1, pu2, pu3]
                    refine wpAnyU_take (i := 5) (d := (some 147)) (v := _) rfl rfl (by kernel_rfl) (fun _ _ _ h => h) hSu.out hSS (Or.inl ⟨by rfl, fun w' hSw => yu_value (run_ldM rfl rfl hSw.1 rfl)⟩) ?_
                    try simp only [Act.put, pu1, pu2, pu3]
                    refine wpAnyU_pure (i := 6) (d := (some 148)) (v := ?_) rfl rfl (by kernel_rfl) (fun _ _ _ h => h) hSu.out (Or.inl ⟨by rfl, fun w' _ => yu_value ?_⟩) ?_
                    rotate_left
                    · (go_simp; (try exact rfl))
                    try simp only [Act.put, pu1, pu2, pu3]
                    refine wpAnyU_pure (i := 7) (d := (some 149)) (v := ?_) rfl rfl (by kernel_rfl) (fun _ _ _ h => h) hSu.out (Or.inl ⟨by rfl, fun w' _ => yu_value ?_⟩) ?_
                    rotate_left
                    · (go_simp; (try exact rfl))
                    try simp only [Act.put, pu1, pu2, pu3]
                    refine wpAnyU_take (i := 8) (d := (some 150)) (v := _) rfl rfl (by kernel_rfl) (fun _ _ _ h => h) hSu.out hSS (Or.inl ⟨by rfl, fun w' hSw => yu_call ?_ (HAk.out _ hSw.2.1)⟩) ?_
                    · go_simp
                    try simp only [Act.put, pu1, pu2, pu3]
                    refine wpAnyU_pure (i := 9) (d := (some 151)) (v := ?_) rfl rfl (by kernel_rfl) (fun _ _ _ h => h) hSu.out (Or.inl ⟨by rfl, fun w' _ => yu_value ?_⟩) ?_
                    rotate_left
                    · (go_simp; (try exact rfl))
                    try simp only [Act.put, pu1, pu2, pu3]
                    refine wpAnyU_pure (i := 10) (d := (some 152)) (v := ?_) rfl rfl (by kernel_rfl) (fun _ _ _ h => h) hSu.out (Or.inl ⟨by rfl, fun w' _ => yu_value ?_⟩) ?_
                    rotate_left
                    · (go_simp; (try exact rfl))
                    try simp only [Act.put, pu1, pu2, pu3]
                    refine wpAnyU_pure (i := 11) (d := (some 153)) (v := ?_) rfl rfl (by kernel_rfl) (fun _ _ _ h => h) hSu.out (Or.inl ⟨by rfl, fun w' _ => yu_value ?_⟩) ?_
                    rotate_left
                    · (go_simp; (try exact rfl))
                    try simp only [Act.put, pu1, pu2, pu3]
                    refine wpAnyU_pure (i := 12) (d := (some 32)) (v := ?_) rfl rfl (by kernel_rfl) (fun _ _ _ h => h) hSu.out (Or.inl ⟨by rfl, fun w' _ => yu_value ?_⟩) ?_
                    rotate_left
                    · (go_simp; (try exact rfl))
                    try simp only [Act.put, pu1, pu2, pu3]
                    refine wpAnyU_done (by kernel_rfl) (fun wF huE => ?_) _
                    have fU := (huk.trans hS2).trans huE
                    clear hS1 hS2 hSB hSS huE
                    go_wp2_with fail
                    go_roundg (m - (k + 1))
                    case measure => omega
                    case rel => exact ⟨k + 1, hkl, Nat.le_refl _, rfl, by rw [HSs.out], fU⟩
                  · obtain rfl : k = m := by omega
                    go_wp2_with fail
                    go_roundg (k - (i + 1))
                    case measure => omega
                    case rel => exact ⟨i + 1, hlt, Nat.le_refl _, rfl, by rw [HMs.out], hu.trans huk⟩
              · obtain rfl : i = m := by omega
                have h1 := HRh.out
                have h2 := HMi.out i hi
                have h3 := HR1.out
                have w1 : IntKind.i64.wrap (2 * R) = 2 * R := IntWalk.i64_in _ (by omega)
                have d9 : decide (2 * R ≤ raM i L i) = true := decide_eq_true h1
                clear h1 h2 h3
                go_wp2_with fail
                go_ret
                exact ⟨rfl, hU10.trans hu⟩
          · have HNr := hid (fun w' (hu : Up w6 w') => (near_sol (hS6.out.up hu) (Vw.up hu hV6.out) HVi.out (by rw [HVl.out]; omega)).mono fun _ _ h => near_bad h h9)
            clear h9
            go_wp2_with (first
            | (go_at_call 36; first
                | ((with_reducible refine (ssays_any k1 (HG.out _ hU6)).mono ?_); rintro r w7 ⟨rfl, hu7⟩; have hU7 := hU6.trans hu7)
                | ((with_reducible refine (ssays_any (k2.up hu7) (HG.out _ hU7)).mono ?_); rintro r w8 ⟨rfl, hu8⟩; have hU8 := hU7.trans hu8; have hu78 := hu7.trans hu8; have hB8 := hB6.up hu78))
              | ((with_reducible apply ldM_P); exact rfl; exact rfl; exact hB8; exact rfl)
              | (go_at_call 34; (with_reducible refine (HNr.out _ hu78).mono ?_); rintro r w9 ⟨t9, y9, rfl, hu9⟩))
            go_ret
            exact ⟨rfl, hU8.trans hu9⟩
        · have d4 : decide ((40 : Int) < (lx.length : Int)) = true := decide_eq_true (by omega)
          clear hraw ha0 hl0 hhc h16 hg hlen hn hd
          go_enter Tryz.func8, Tryz.ntmps8
          go_wp2_with (first
            | (go_at_call 30; (with_reducible refine (HK.out _ hU).mono ?_); rintro r w1 ⟨rfl, hu1⟩; have hc1 := (hB.up hu1).cell 1 rfl))
          go_ret
          exact ⟨rfl, hU.trans hu1⟩
      · have d3 : decide ((40 : Int) < (lv.length : Int)) = true := decide_eq_true (by omega)
        clear hraw ha0 hl0 hhc h16 hg hlen hn hd
        go_enter Tryz.func8, Tryz.ntmps8
        go_wp2_with (first
          | (go_at_call 30; (with_reducible refine (HK.out _ hU).mono ?_); rintro r w1 ⟨rfl, hu1⟩; have hc1 := (hB.up hu1).cell 1 rfl))
        go_ret
        exact ⟨rfl, hU.trans hu1⟩
    · have d2 : decide ((60 : Int) < (hs.length : Int)) = true := decide_eq_true (by omega)
      clear hraw ha0 hl0 hhc h16 hg hlen hn hd
      go_enter Tryz.func8, Tryz.ntmps8
      go_wp2_with (first
        | (go_at_call 30; (with_reducible refine (HK.out _ hU).mono ?_); rintro r w1 ⟨rfl, hu1⟩; have hc1 := (hB.up hu1).cell 1 rfl))
      go_ret
      exact ⟨rfl, hU.trans hu1⟩
  · have d1 : decide ((60 : Int) < (len0 : Int)) = true := decide_eq_true (by omega)
    clear hraw ha0 hl0 hhc h16 hg hlen hn hd
    go_enter Tryz.func8, Tryz.ntmps8
    go_wp2_with (first
      | (go_at_call 30; (with_reducible refine (HK.out _ hU).mono ?_); rintro r w1 ⟨rfl, hu1⟩; have hc1 := (hB.up hu1).cell 1 rfl))
    go_ret
    exact ⟨rfl, hU.trans hu1⟩
theorem proves_row {w : World} {a0 a1 a2 : Int} {a6 : Bool} {p0 p3 p4 p5 : Option Addr} {len0 cap0 len3 cap3 len4 cap4 len5 cap5 : Nat} {z0 z3 z4 z5 : List Int} (hg : Glob w) (wf0 : (Lit.int .i64 a0).wf = true) (w0 : IsRowX .i64 w p0 len0 cap0 z0)
    (w1 : (Lit.int .u8 a1).wf = true) (w2 : (Lit.int .u16 a2).wf = true) (w3 : IsRowX .i16 w p3 len3 cap3 z3) (w4 : IsRowX .i64 w p4 len4 cap4 z4) (w5 : IsRowX .i64 w p5 len5 cap5 z5) :
    Calls Tryz.prog 8 #[.agg #[.int .i64 a0, .slice p0 len0 cap0], .int .u8 a1, .int .u16 a2, .slice p3 len3 cap3, .slice p4 len4 cap4, .slice p5 len5 cap5, .bool a6] w fun r w' => r = .returned (.bool true) ∧ Up w w' := by
  obtain ⟨n, rfl, hn⟩ := wf_nat (m := 255) w1 IntKind.min_u8 IntKind.max_u8
  obtain ⟨d, rfl, hd⟩ := wf_nat (m := 65535) w2 IntKind.min_u16 IntKind.max_u16
  exact proves_w n d a6 hg (vw_row w0).1 (wf_i64 wf0) (vw_row w0).2 hn hd (vh_row w3).1 (vh_row w3).2 (vw_row w4).1 (vw_row w4).2 (vw_row w5).1 (vw_row w5).2
end Go.Proofs.YtjoenldfjggciaaGreatDoor
