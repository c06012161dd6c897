/-
  Frames: whatever noise without a beginning stands ahead, and however a frame is cut, the one behind it is found (FrameHides).
-/
import Derived.Test.YtmpikkhfeogdcaaFrB
import Derived.Test.YtmpikkhfeogdcaaRelG
namespace Go.Proofs.Ytmpikkhfeogdcaa
open Go Go.RowKit
set_option maxRecDepth 100000

theorem hides_early {w : World} (pn pa pb : Option Addr) {kn ka kb : Nat} (cn ca cb : Nat) (n : Int) (h : 60 < kn ∨ 40 < ka ∨ 40 < kb ∨ ka = 0 ∨ kb = 0) :
    Calls Try.prog 4 #[.slice pn kn cn, .slice pa ka ca, .slice pb kb cb, .int .u8 n] w fun e w' => e = .returned (.bool true) ∧ Up w w' := by
  have HK := hid known_fr
  by_cases h1 : 60 < kn
  · clear h
    go_enter Try.func4, Try.ntmps4
    go_wp2_with (first
      | (go_at_call 7; with_reducible refine (HK.out _).mono ?_; rintro e w1 ⟨rfl, hu1⟩))
    go_ret
    exact ⟨rfl, hu1⟩
  · by_cases h2 : 40 < ka
    · clear h
      go_enter Try.func4, Try.ntmps4
      go_wp2_with (first
        | (go_at_call 7; with_reducible refine (HK.out _).mono ?_; rintro e w1 ⟨rfl, hu1⟩))
      go_ret
      exact ⟨rfl, hu1⟩
    · by_cases h3 : 40 < kb
      · clear h
        go_enter Try.func4, Try.ntmps4
        go_wp2_with (first
          | (go_at_call 7; with_reducible refine (HK.out _).mono ?_; rintro e w1 ⟨rfl, hu1⟩))
        go_ret
        exact ⟨rfl, hu1⟩
      · by_cases h4 : ka = 0
        · subst h4
          clear h
          go_enter Try.func4, Try.ntmps4
          go_wp2_with (first
            | (go_at_call 7; with_reducible refine (HK.out _).mono ?_; rintro e w1 ⟨rfl, hu1⟩))
          go_ret
          exact ⟨rfl, hu1⟩
        · obtain rfl : kb = 0 := by omega
          have e4 : ((ka : Int) == 0) = false := by simp; omega
          clear h
          go_enter Try.func4, Try.ntmps4
          go_wp2_with (first
            | (go_at_call 7; with_reducible refine (HK.out _).mono ?_; rintro e w1 ⟨rfl, hu1⟩))
          go_ret
          exact ⟨rfl, hu1⟩
theorem frDrew (w : World) (n : Nat) : Up w (w.drewN n) := ⟨rfl, rfl, rfl, Nat.le_refl _, fun _ _ => rfl⟩
theorem OwnU.lt {w : World} {base g N c : Nat} {l : List Nat} (h : OwnU w base (.slice (some ⟨g, 0, none⟩) N c) l) : g < w.heap.size := (World.ownsRow.lt h.2 g rfl).2
theorem pz_left_len (l : List Nat) : (pz l).2.2.length ≤ l.length := by
  obtain ⟨k, _, e⟩ := pz_left l
  rw [e, List.length_drop]
  omega
set_option maxHeartbeats 8000000 in
theorem hides_any {w : World} {pn pa pb : Option Addr} {kn ka kb cn ca cb n : Nat} {ln la lb : List Nat} (hkn : ln.length = kn) (hka : la.length = ka) (hkb : lb.length = kb) (hBn : Bw w (.slice pn kn cn) ln) (hBa : Bw w (.slice pa ka ca) la) (hBb : Bw w (.slice pb kb cb) lb)
    (hn60 : kn ≤ 60) (ha40 : ka ≤ 40) (hb40 : kb ≤ 40) (ha1 : 1 ≤ ka) (hb1 : 1 ≤ kb) (hn8 : n < 256) :
    Calls Try.prog 4 #[.slice pn kn cn, .slice pa ka ca, .slice pb kb cb, .int .u8 (n : Int)] w fun e w' => e = .returned (.bool true) ∧ Up w w' := by
  have HK := hid known_fr
  have HBN := hid (fun w' (hu : Up w w') => hBn.up hu)
  have HBA := hid (fun w' (hu : Up w w') => hBa.up hu)
  have HBB := hid (fun w' (hu : Up w w') => hBb.up hu)
  have HLN := hid hkn
  have HLA := hid hka
  have HLB := hid hkb
  have HAT := hid (hBn.at hkn)
  have E1 : (n : Int).tmod 9 = ((n % 9 : Nat) : Int) := (Int.ofNat_tmod n 9).symm
  obtain ⟨a1, ha1'⟩ : ∃ a, n % 9 = a := ⟨_, rfl⟩
  have ha9 : a1 < 9 := by omega
  rw [ha1'] at E1
  have E2 : IntKind.i64.wrap (a1 : Int) = (a1 : Int) := IntWalk.i64_in _ (by omega)
  have E3 : IntKind.i64.wrap (50 + (a1 : Int)) = 50 + (a1 : Int) := IntWalk.i64_in _ (by omega)
  have e2 : ((ka : Int) == 0) = false := by simp; omega
  have e3 : ((kb : Int) == 0) = false := by simp; omega
  clear hBn hBa hBb ha1' hkn hka hkb
  go_enter Try.func4, Try.ntmps4
  go_wp2_with (first
    | (go_at_call 7; with_reducible refine (HK.out _).mono ?_; rintro e w1 ⟨rfl, hu1⟩))
  go_loopg [9] kn (fun gg tj wr => ∃ j : Nat, j ≤ kn ∧ kn - j ≤ gg ∧ tj = .int .i64 (j : Nat) ∧ wr = w1 ∧ Hid (∀ i, i < j → ln.getD i 0 ≠ 170))
  case atStart => exact ⟨0, Nat.zero_le _, Nat.le_refl _, rfl, rfl, hid fun i hi => absurd hi (Nat.not_lt_zero _)⟩
  case round =>
    obtain ⟨j, hj, hjg, rfl, rfl, HQ⟩ := hrel
    by_cases hlt : j < kn
    · have ei : IntKind.i64.wrap ((j : Int) + 1) = (j : Int) + 1 := IntWalk.i64_in _ (by omega)
      obtain ⟨a, rfl, hc⟩ := HAT.out j hlt
      have hc := hu1.cell hc
      obtain ⟨y, hy⟩ : ∃ y, ln.getD j 0 = y := ⟨_, rfl⟩
      rw [hy] at hc
      have HY := hid hy
      clear hy
      by_cases hyy : y = 170
      · subst hyy
        clear E1 E2 E3
        go_wp2_with fail
        go_ret
        exact ⟨rfl, hu1⟩
      · have ey : ((y : Int) == 170) = false := by simp; omega
        have HYY := hid hyy
        clear hyy E1 E2 E3
        go_wp2_with fail
        go_roundg (kn - (j + 1))
        case measure => omega
        case rel => exact ⟨j + 1, by omega, Nat.le_refl _, rfl, rfl, hid fun i hi => by
          by_cases h : i = j
          · subst h; rw [HY.out]; exact HYY.out
          · exact HQ.out i (by omega)⟩
    · obtain rfl : j = kn := by omega
      clear hlt hj hjg
      have hno : ∀ x ∈ ln, x ≠ 170 := fun x hx => by
        obtain ⟨i, hi, rfl⟩ := List.getElem_of_mem hx
        have := HQ.out i (by rw [← HLN.out]; exact hi)
        rw [List.getD_eq_getElem?_getD, List.getElem?_eq_getElem hi] at this
        exact this
      have HNO := hid hno
      have HP := hid (pz_hides (n := ln) (a := la) (b := lb) hno (by rw [HLA.out]; exact ha1) (by rw [HLA.out]; exact ha40) (by rw [HLB.out]; exact hb1) (by rw [HLB.out]; exact hb40))
      clear hno HQ
      go_wp2_with (first
        | (go_at_call 9; with_reducible refine (rframe_any HLA.out (HBA.out _ hu1) ha1 ha40).mono ?_; rintro e w2 ⟨v2, rfl, hv2, hu2⟩; obtain ⟨g2, c2, rfl, hc2, hg2, hO2⟩ := hv2.is (N := ka + 5) (by rw [fr_len, HLA.out]) (by omega))
        | (go_at_call 9; with_reducible refine (rframe_any HLB.out (HBB.out _ (hu1.trans hu2)) hb1 hb40).mono ?_; rintro e w3 ⟨v3, rfl, hv3, hu3⟩; obtain ⟨g3, c3, rfl, hc3, hg3, hO3⟩ := hv3.is (N := kb + 5) (by rw [fr_len, HLB.out]) (by omega))
        | (go_at_call 10; refine (new_any _).mono ?_; rintro e w4 ⟨rfl, hP4, hu4⟩)
        | ((with_reducible apply appU (l := []) (base := w4.heap.size)); exact rfl; exact rfl; exact OwnU.nil _ _; exact HBN.out _ (hu1.trans (hu2.trans (hu3.trans hu4))); exact Nat.le_refl _; (focus (rw [HLN.out]; simp; omega)); rintro v5 w5 hO5 hb5; rw [List.nil_append] at hO5; have hu5 : Up w4 w5 := hb5)
        | ((with_reducible apply appU (l := ln) (base := w4.heap.size)); exact rfl; exact rfl; exact hO5; exact hO2.bw.up (hu3.trans (hu4.trans hu5)); exact hu5.size; (focus (rw [HLN.out, fr_len, HLA.out]; omega)); rintro v6 w6 hO6 hb6; have hu6 : Up w4 w6 := Below.trans hu5 hb6)
        | ((with_reducible apply appU (l := ln ++ fr la) (base := w4.heap.size)); exact rfl; exact rfl; exact hO6; exact hO3.bw.up (hu4.trans hu6); exact hu6.size; (focus (rw [List.length_append, HLN.out, fr_len, HLA.out, fr_len, HLB.out]; omega)); rintro v7 w7 hO7 hb7; have hu7 : Up w4 w7 := Below.trans hu6 hb7)
        | (go_at_call 11; with_reducible refine (feed_any (L := ln ++ fr la ++ fr lb) (l := []) (m := ln ++ fr la ++ fr lb) (b := 0) rfl (hP4.up hu7) (OwnU.bw hO7) (by rw [List.length_append, List.length_append, HLN.out, fr_len, HLA.out, fr_len, HLB.out]; simp; omega) (by decide)).mono ?_; rintro e w8 ⟨v8, rfl, hv8, hP8, hg8⟩; rw [HP.out] at hv8 hP8; dsimp only at hv8 hP8; obtain ⟨a8, c8, s8, m8, k8, s8', m8', k8', rfl, hc8, hB8, hc8', hB8'⟩ := hv8.lw.two_at; have hu8 : Up w3 w8 := up_gb (hu4.trans hu7) hg8 (Nat.le_refl _); have huw := hu1.trans (hu2.trans (hu3.trans hu8))))
      obtain ⟨A1, hA1⟩ : ∃ A, a8.add 1 = A := ⟨_, rfl⟩
      rw [hA1] at hc8'
      have HA := hid hA1
      clear hA1
      refine wp_region_sg (n := 138) 26 [73, 74, 75, 76, 77, 78, 79, 80, 81, 82, 83, 84, 85, 86, 87, 88, 89, 90, 91, 92, 93, 94, 95, 96, 97, 98] [SG.is (.slice (some a8) 2 c8), SG.is (.int .i64 2), SG.is (.bool false), SG.tt false, SG.is (.slice (some a8) 2 c8), SG.is (.pointer (some a8)), SG.is (.slice s8 m8 k8), SG.is (.string (strB la)), SG.is (.slice pa ka ca), SG.is (.string (strB la)), SG.is (.bool false), SG.is (.bool false), SG.tt false, SG.is (.slice (some a8) 2 c8), SG.is (.pointer (some A1)), SG.is (.slice s8' m8' k8'), SG.is (.string (strB lb)), SG.is (.slice pb kb cb), SG.is (.string (strB lb)), SG.is (.bool false), SG.is (.bool false), SG.tt false, SG.is (.pointer (some ⟨w3.heap.size, 0, none⟩)), SG.is (.int .i64 0), SG.is (.bool false), SG.is (.bool false)] (fun wq => Up w8 wq ∧ Below w.heap.size w wq) (by kernel_rfl) (by rfl) (by kernel_rfl) (by kernel_rfl) (fun _ _ h hu => ⟨(h.1).trans hu, below_up (h.2) hu⟩) ⟨(by first | exact Up.refl _ | assumption), gUp⟩ (fun ev w9 hS9 i o hne hi hwt hev => ?_) (fun gR wE hq hSE huE => ?_)
      · have ⟨hS1, hSB⟩ := hS9
        have hcC := hev.const
        have hcF := hev.func
        have hcG := hev.global
        rcases i with _ | _ | _ | _ | _ | _ | _ | _ | _ | _ | _ | _ | _ | _ | _ | _ | _ | _ | _ | _ | _ | _ | _ | _ | _ | _ | i
        · obtain rfl := Option.some.inj (show some _ = some o from hi)
          have e15 := hev.other 15 (by kernel_rfl)
          simp [Act.eval] at e15
          exact leavesR_value (u := .slice (some a8) 2 c8) (by first | (go_simp; done) | (go_simp; exact rfl)) rfl
        · obtain rfl := Option.some.inj (show some _ = some o from hi)
          have e73 : ev (.tmp 73) = (.slice (some a8) 2 c8) := hev.dep 0 73 (by kernel_rfl)
          exact leavesR_value (u := .int .i64 2) (by first | (go_simp; done) | (go_simp; exact rfl)) rfl
        · obtain rfl := Option.some.inj (show some _ = some o from hi)
          have e74 : ev (.tmp 74) = (.int .i64 2) := hev.dep 1 74 (by kernel_rfl)
          exact leavesR_value (u := .bool false) (by first | (go_simp; done) | (go_simp; exact rfl)) rfl
        · obtain rfl := Option.some.inj (show some _ = some o from hi)
          have e75 : ev (.tmp 75) = (.bool false) := hev.dep 2 75 (by kernel_rfl)
          exact leavesR_value (u := .bool false) (by first | (go_simp; done) | (go_simp; exact rfl)) rfl
        · obtain rfl := Option.some.inj (show some _ = some o from hi)
          have e15 := hev.other 15 (by kernel_rfl)
          simp [Act.eval] at e15
          exact leavesR_value (u := .slice (some a8) 2 c8) (by first | (go_simp; done) | (go_simp; exact rfl)) rfl
        · obtain rfl := Option.some.inj (show some _ = some o from hi)
          have e77 : ev (.tmp 77) = (.slice (some a8) 2 c8) := hev.dep 4 77 (by kernel_rfl)
          exact leavesR_value (u := .pointer (some a8)) (by first | (go_simp; done) | (go_simp; exact rfl)) rfl
        · obtain rfl := Option.some.inj (show some _ = some o from hi)
          have e78 : ev (.tmp 78) = (.pointer (some a8)) := hev.dep 5 78 (by kernel_rfl)
          have hc9 := hS1.cell hc8; exact leavesR_value (u := .slice s8 m8 k8) (by go_simp) rfl
        · obtain rfl := Option.some.inj (show some _ = some o from hi)
          have e79 : ev (.tmp 79) = (.slice s8 m8 k8) := hev.dep 6 79 (by kernel_rfl)
          exact leavesR_value (run_cv e79 (hB8.bw.up hS1)) rfl
        · obtain rfl := Option.some.inj (show some _ = some o from hi)
          have e1 := hev.other 1 (by kernel_rfl)
          simp [Act.eval] at e1
          exact leavesR_value (u := .slice pa ka ca) (by first | (go_simp; done) | (go_simp; exact rfl)) rfl
        · obtain rfl := Option.some.inj (show some _ = some o from hi)
          have e81 : ev (.tmp 81) = (.slice pa ka ca) := hev.dep 8 81 (by kernel_rfl)
          exact leavesR_value (run_cv e81 (HBA.out _ (huw.trans hS1))) rfl
        · obtain rfl := Option.some.inj (show some _ = some o from hi)
          have e80 : ev (.tmp 80) = (.string (strB la)) := hev.dep 7 80 (by kernel_rfl)
          have e82 : ev (.tmp 82) = (.string (strB la)) := hev.dep 9 82 (by kernel_rfl)
          exact leavesR_value (u := .bool false) (by first | (go_simp; done) | (go_simp; exact rfl)) rfl
        · obtain rfl := Option.some.inj (show some _ = some o from hi)
          have e76 : ev (.tmp 76) = (.bool false) := hev.dep 3 76 (by kernel_rfl)
          have e83 : ev (.tmp 83) = (.bool false) := hev.dep 10 83 (by kernel_rfl)
          exact leavesR_value (u := .bool false) (by first | (go_simp; done) | (go_simp; exact rfl)) rfl
        · obtain rfl := Option.some.inj (show some _ = some o from hi)
          have e84 : ev (.tmp 84) = (.bool false) := hev.dep 11 84 (by kernel_rfl)
          exact leavesR_value (u := .bool false) (by first | (go_simp; done) | (go_simp; exact rfl)) rfl
        · obtain rfl := Option.some.inj (show some _ = some o from hi)
          have e15 := hev.other 15 (by kernel_rfl)
          simp [Act.eval] at e15
          exact leavesR_value (u := .slice (some a8) 2 c8) (by first | (go_simp; done) | (go_simp; exact rfl)) rfl
        · obtain rfl := Option.some.inj (show some _ = some o from hi)
          have e86 : ev (.tmp 86) = (.slice (some a8) 2 c8) := hev.dep 13 86 (by kernel_rfl)
          have hA := HA.out; exact leavesR_value (u := .pointer (some A1)) (by rw [← hA]; go_simp) rfl
        · obtain rfl := Option.some.inj (show some _ = some o from hi)
          have e87 : ev (.tmp 87) = (.pointer (some A1)) := hev.dep 14 87 (by kernel_rfl)
          have hc9 := hS1.cell hc8'; exact leavesR_value (u := .slice s8' m8' k8') (by go_simp) rfl
        · obtain rfl := Option.some.inj (show some _ = some o from hi)
          have e88 : ev (.tmp 88) = (.slice s8' m8' k8') := hev.dep 15 88 (by kernel_rfl)
          exact leavesR_value (run_cv e88 (hB8'.bw.up hS1)) rfl
        · obtain rfl := Option.some.inj (show some _ = some o from hi)
          have e2 := hev.other 2 (by kernel_rfl)
          simp [Act.eval] at e2
          exact leavesR_value (u := .slice pb kb cb) (by first | (go_simp; done) | (go_simp; exact rfl)) rfl
        · obtain rfl := Option.some.inj (show some _ = some o from hi)
          have e90 : ev (.tmp 90) = (.slice pb kb cb) := hev.dep 17 90 (by kernel_rfl)
          exact leavesR_value (run_cv e90 (HBB.out _ (huw.trans hS1))) rfl
        · obtain rfl := Option.some.inj (show some _ = some o from hi)
          have e89 : ev (.tmp 89) = (.string (strB lb)) := hev.dep 16 89 (by kernel_rfl)
          have e91 : ev (.tmp 91) = (.string (strB lb)) := hev.dep 18 91 (by kernel_rfl)
          exact leavesR_value (u := .bool false) (by first | (go_simp; done) | (go_simp; exact rfl)) rfl
        · obtain rfl := Option.some.inj (show some _ = some o from hi)
          have e85 : ev (.tmp 85) = (.bool false) := hev.dep 12 85 (by kernel_rfl)
          have e92 : ev (.tmp 92) = (.bool false) := hev.dep 19 92 (by kernel_rfl)
          exact leavesR_value (u := .bool false) (by first | (go_simp; done) | (go_simp; exact rfl)) rfl
        · obtain rfl := Option.some.inj (show some _ = some o from hi)
          have e93 : ev (.tmp 93) = (.bool false) := hev.dep 20 93 (by kernel_rfl)
          exact leavesR_value (u := .bool false) (by first | (go_simp; done) | (go_simp; exact rfl)) rfl
        · obtain rfl := Option.some.inj (show some _ = some o from hi)
          have e14 := hev.other 14 (by kernel_rfl)
          simp [Act.eval] at e14
          exact leavesR_value (u := .pointer (some ⟨w3.heap.size, 0, none⟩)) (by first | (go_simp; done) | (go_simp; exact rfl)) rfl
        · obtain rfl := Option.some.inj (show some _ = some o from hi)
          have e95 : ev (.tmp 95) = (.pointer (some ⟨w3.heap.size, 0, none⟩)) := hev.dep 22 95 (by kernel_rfl)
          refine leavesR_call ?_ ((left_any (l := []) (hP8.up hS1)).mono fun _ _ h => ⟨h.2 ▸ Up.refl _, _, h.1, rfl⟩)
          go_simp
        · obtain rfl := Option.some.inj (show some _ = some o from hi)
          have e96 : ev (.tmp 96) = (.int .i64 0) := hev.dep 23 96 (by kernel_rfl)
          exact leavesR_value (u := .bool false) (by first | (go_simp; done) | (go_simp; exact rfl)) rfl
        · obtain rfl := Option.some.inj (show some _ = some o from hi)
          have e94 : ev (.tmp 94) = (.bool false) := hev.dep 21 94 (by kernel_rfl)
          have e97 : ev (.tmp 97) = (.bool false) := hev.dep 24 97 (by kernel_rfl)
          exact leavesR_value (u := .bool false) (by first | (go_simp; done) | (go_simp; exact rfl)) rfl
        · exact absurd (show i + 26 < 26 from (Array.getElem?_eq_some_iff.1 hi).1) (by omega)
      have ⟨hS1, hSB⟩ := hSE
      have q0 : gR 73 = (.slice (some a8) 2 c8) := hq 0 73 (by decide) (by kernel_rfl)
      have q1 : gR 74 = (.int .i64 2) := hq 1 74 (by decide) (by kernel_rfl)
      have q2 : gR 75 = (.bool false) := hq 2 75 (by decide) (by kernel_rfl)
      have q3 : gR 76 = (.bool false) := hq 3 76 (by decide) (by kernel_rfl)
      have q4 : gR 77 = (.slice (some a8) 2 c8) := hq 4 77 (by decide) (by kernel_rfl)
      have q5 : gR 78 = (.pointer (some a8)) := hq 5 78 (by decide) (by kernel_rfl)
      have q6 : gR 79 = (.slice s8 m8 k8) := hq 6 79 (by decide) (by kernel_rfl)
      have q7 : gR 80 = (.string (strB la)) := hq 7 80 (by decide) (by kernel_rfl)
      have q8 : gR 81 = (.slice pa ka ca) := hq 8 81 (by decide) (by kernel_rfl)
      have q9 : gR 82 = (.string (strB la)) := hq 9 82 (by decide) (by kernel_rfl)
      have q10 : gR 83 = (.bool false) := hq 10 83 (by decide) (by kernel_rfl)
      have q11 : gR 84 = (.bool false) := hq 11 84 (by decide) (by kernel_rfl)
      have q12 : gR 85 = (.bool false) := hq 12 85 (by decide) (by kernel_rfl)
      have q13 : gR 86 = (.slice (some a8) 2 c8) := hq 13 86 (by decide) (by kernel_rfl)
      have q14 : gR 87 = (.pointer (some A1)) := hq 14 87 (by decide) (by kernel_rfl)
      have q15 : gR 88 = (.slice s8' m8' k8') := hq 15 88 (by decide) (by kernel_rfl)
      have q16 : gR 89 = (.string (strB lb)) := hq 16 89 (by decide) (by kernel_rfl)
      have q17 : gR 90 = (.slice pb kb cb) := hq 17 90 (by decide) (by kernel_rfl)
      have q18 : gR 91 = (.string (strB lb)) := hq 18 91 (by decide) (by kernel_rfl)
      have q19 : gR 92 = (.bool false) := hq 19 92 (by decide) (by kernel_rfl)
      have q20 : gR 93 = (.bool false) := hq 20 93 (by decide) (by kernel_rfl)
      have q21 : gR 94 = (.bool false) := hq 21 94 (by decide) (by kernel_rfl)
      have q22 : gR 95 = (.pointer (some ⟨w3.heap.size, 0, none⟩)) := hq 22 95 (by decide) (by kernel_rfl)
      have q23 : gR 96 = (.int .i64 0) := hq 23 96 (by decide) (by kernel_rfl)
      have q24 : gR 97 = (.bool false) := hq 24 97 (by decide) (by kernel_rfl)
      have q25 : gR 98 = (.bool false) := hq 25 98 (by decide) (by kernel_rfl)
      refine ⟨fun _ => ?_, fun o ho => by simp at ho⟩
      simp only [putL, List.map_cons, List.map_nil, q0, q1, q2, q3, q4, q5, q6, q7, q8, q9, q10, q11, q12, q13, q14, q15, q16, q17, q18, q19, q20, q21, q22, q23, q24, q25, Act.put, pu1, pu2, pu3]
      clear hq hSE q0 q1 q2 q3 q4 q5 q6 q7 q8 q9 q10 q11 q12 q13 q14 q15 q16 q17 q18 q19 q20 q21 q22 q23 q24 q25
      have hLL := pz_left_len (170 :: ln)
      have hBL := (pz_few (170 :: ln)).2
      rw [List.length_cons, HLN.out] at hLL hBL
      have HPB := hid (fun (h0 : ln.getD 0 0 ≠ 85) => pz_behind (n := ln) (b := lb) (z := List.replicate (50 + a1) 0) HNO.out h0 (fun x hx => by rw [List.eq_of_mem_replicate hx]; decide) (by rw [HLB.out]; exact hb1) (by rw [HLB.out]; exact hb40))
      obtain ⟨lf, hlf⟩ : ∃ x, (pz (170 :: ln)).2.2 = x := ⟨_, rfl⟩
      obtain ⟨nb, hnb⟩ : ∃ x, (pz (170 :: ln)).2.1 = x := ⟨_, rfl⟩
      rw [hlf] at hLL HPB
      rw [hnb] at hBL
      have HLF := hid hlf
      have HNB := hid hnb
      have HLL := hid hLL
      have HBL := hid hBL
      clear hLL hBL hlf hnb
      go_wp2_with (first
        | (go_at_call 10; refine (new_any _).mono ?_; rintro e w10 ⟨rfl, hP10, hu10⟩)
        | ((with_reducible apply appU (l := []) (base := w10.heap.size)); exact rfl; exact rfl; exact OwnU.nil _ _; exact ((hO2.bw.up (hu3.trans (hu8.trans (huE.trans hu10)))).take (by rw [fr_len, HLA.out]) (i := 1) (by omega)); exact Nat.le_refl _; (focus (rw [List.length_take, List.length_nil]; omega)); rintro v11 w11 hO11 hb11; rw [List.nil_append] at hO11; have hu11 : Up w10 w11 := hb11)
        | ((with_reducible apply appU (l := [170]) (base := w10.heap.size)); exact rfl; exact rfl; exact hO11; exact HBN.out _ (huw.trans (huE.trans (hu10.trans hu11))); exact hu11.size; (focus (rw [HLN.out]; simp; omega)); rintro v12 w12 hO12 hb12; have hu12 : Up w10 w12 := Below.trans hu11 hb12)
        | (go_at_call 11; with_reducible refine (feed_any (L := 170 :: ln) (l := []) (m := [170] ++ ln) (b := 0) rfl (hP10.up hu12) (OwnU.bw hO12) (by rw [List.length_append, HLN.out]; simp; omega) (by decide)).mono ?_; rintro e w13 ⟨v13, rfl, hv13, hP13, hg13⟩; rw [HLF.out, HNB.out] at hP13; have hu13 : Up wE w13 := up_gb (hu10.trans hu12) hg13 (Nat.le_refl _))
        | ((with_reducible apply appZU (k := 50 + a1) (base := w2.heap.size) (l := fr lb)); exact rfl; exact rfl; (focus omega); exact hO3.up (hu8.trans (huE.trans hu13)); exact (hu3.trans (hu8.trans (huE.trans hu13))).size; (focus (rw [fr_len]; omega)); (focus omega); (focus (rw [fr_len, HLB.out]; omega)); rintro v14 w14 hO14 hg14; have hP14 := Par.but (j := g3) hP13 hg14 (Nat.lt_of_lt_of_le hO3.lt (hu8.trans huE).size); have hu14 : Up w w14 := up_gb (huw.trans (huE.trans hu13)) hg14 (Nat.le_trans (hu1.trans hu2).size hg3))
        | (go_at_call 11; with_reducible refine (feed_any (L := lf ++ (fr lb ++ List.replicate (50 + a1) 0)) (l := lf) (m := fr lb ++ List.replicate (50 + a1) 0) (b := 0 + nb) rfl hP14 (OwnU.bw hO14) (by rw [List.length_append, fr_len, HLB.out, List.length_replicate]; have := HLL.out; omega) (by have := HBL.out; omega)).mono ?_; rintro e w15 ⟨v15, rfl, hv15, hP15, hg15⟩; have hu15 : Up w w15 := up_gb hu14 hg15 (huw.trans huE).size))
      by_cases hj0 : j = 0
      · obtain rfl := hj0
        have hv16 := hv15
        rw [HPB.out (by rw [List.length_eq_zero_iff.1 HLN.out]; decide)] at hv16
        obtain ⟨a16, c16, s16, m16, k16, rfl, hc16, hB16⟩ := hv16.lw.one_at
        have hcv1 := fun nq => conv_str ((RU.bw hB16).up (frDrew w15 nq))
        have hcv2 := fun nq => conv_str ((HBB.out _ hu15).up (frDrew w15 nq))
        clear hv15 hv16
        go_quiet (fail)
        go_wp2_with fail
        go_ret
        exact ⟨rfl, hu15.trans (frDrew _ _)⟩
      · obtain ⟨a0, rfl, hc0⟩ := HAT.out 0 (by omega)
        obtain ⟨y0, hy0⟩ : ∃ y, ln.getD 0 0 = y := ⟨_, rfl⟩
        have hc0 := hu15.cell hc0
        rw [hy0] at hc0 HPB
        simp [Addr.add] at hc0
        have hj1 : 0 < j := by omega
        by_cases h85 : y0 = 85
        · subst h85
          clear HPB hy0 hj0
          go_quiet (fail)
          go_wp2_with fail
          go_ret
          exact ⟨rfl, hu15.trans (frDrew _ _)⟩
        · have ey : ((y0 : Int) == 85) = false := by simp; omega
          have hv16 := hv15
          rw [HPB.out h85] at hv16
          obtain ⟨a16, c16, s16, m16, k16, rfl, hc16, hB16⟩ := hv16.lw.one_at
          have hcv1 := fun nq => conv_str ((RU.bw hB16).up (frDrew w15 nq))
          have hcv2 := fun nq => conv_str ((HBB.out _ hu15).up (frDrew w15 nq))
          clear hv15 hv16 HPB hy0 hj0 h85
          go_quiet (fail)
          go_wp2_with fail
          go_ret
          exact ⟨rfl, hu15.trans (frDrew _ _)⟩
theorem hides_row {w : World} {pn pa pb : Option Addr} {kn ka kb cn ca cb : Nat} {zn za zb : List Int} {n : Int} (w0 : ((pn = none ∧ kn = 0 ∧ cn = 0 ∧ zn = []) ∨
    ∃ x, pn = some x ∧ kn ≤ cn ∧ cn ≤ maxLen ∧ zn.length = cn ∧ (∀ i, i < zn.length → w.cell? (x.add i) = some (.int .u8 (zn.getD i 0))) ∧ ∀ n ∈ zn, (Lit.int .u8 n).wf = true)) (w1 : ((pa = none ∧ ka = 0 ∧ ca = 0 ∧ za = []) ∨
    ∃ x, pa = some x ∧ ka ≤ ca ∧ ca ≤ maxLen ∧ za.length = ca ∧ (∀ i, i < za.length → w.cell? (x.add i) = some (.int .u8 (za.getD i 0))) ∧ ∀ n ∈ za, (Lit.int .u8 n).wf = true)) (w2 : ((pb = none ∧ kb = 0 ∧ cb = 0 ∧ zb = []) ∨
    ∃ x, pb = some x ∧ kb ≤ cb ∧ cb ≤ maxLen ∧ zb.length = cb ∧ (∀ i, i < zb.length → w.cell? (x.add i) = some (.int .u8 (zb.getD i 0))) ∧ ∀ n ∈ zb, (Lit.int .u8 n).wf = true)) (w3 : (Lit.int .u8 n).wf = true) :
    Calls Try.prog 4 #[.slice pn kn cn, .slice pa ka ca, .slice pb kb cb, .int .u8 n] w fun e w' => e = .returned (.bool true) ∧ Below w.heap.size w w' := by
  obtain ⟨n, rfl, hn⟩ := wf_nat (m := 255) w3 IntKind.min_u8 IntKind.max_u8
  by_cases h : 60 < kn ∨ 40 < ka ∨ 40 < kb ∨ ka = 0 ∨ kb = 0
  · exact hides_early _ _ _ _ _ _ _ h
  · obtain ⟨ln, rfl, hn'⟩ := bw_in w0 (by omega)
    obtain ⟨la, rfl, ha⟩ := bw_in w1 (by omega)
    obtain ⟨lb, rfl, hb⟩ := bw_in w2 (by omega)
    exact hides_any rfl rfl rfl hn' ha hb (by omega) (by omega) (by omega) (by omega) (by omega) hn
end Go.Proofs.Ytmpikkhfeogdcaa
