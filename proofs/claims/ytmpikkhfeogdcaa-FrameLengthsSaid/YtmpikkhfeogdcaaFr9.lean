/-
  Frames: a frame whose length may not be is bad, and hides nothing (FrameLengths).
-/
import Derived.Test.YtmpikkhfeogdcaaFr8
import Derived.Test.YtmpikkhfeogdcaaRelG
namespace Go.Proofs.Ytmpikkhfeogdcaa
open Go Go.RowKit
set_option maxRecDepth 100000

theorem lens_early {w : World} (p : Option Addr) {k n : Nat} (c : Nat) (h : 40 < k ∨ k = 0 ∨ (1 ≤ n ∧ n ≤ 40)) :
    Calls Try.prog 6 #[.int .u8 (n : Int), .slice p k c] w fun e w' => e = .returned (.bool true) ∧ Up w w' := by
  have HK := hid known_fr
  by_cases h1 : 40 < k
  · clear h
    go_enter Try.func6, Try.ntmps6
    go_wp2_with (first
      | (go_at_call 7; with_reducible refine (HK.out _).mono ?_; rintro e w1 ⟨rfl, hu1⟩))
    go_ret
    exact ⟨rfl, hu1⟩
  · by_cases h2 : k = 0
    · subst h2
      clear h
      go_enter Try.func6, Try.ntmps6
      go_wp2_with (first
        | (go_at_call 7; with_reducible refine (HK.out _).mono ?_; rintro e w1 ⟨rfl, hu1⟩))
      go_ret
      exact ⟨rfl, hu1⟩
    · obtain ⟨h3, h4⟩ : 1 ≤ n ∧ n ≤ 40 := by omega
      have e2 : ((k : Int) == 0) = false := by simp; omega
      clear h
      go_enter Try.func6, Try.ntmps6
      go_wp2_with (first
        | (go_at_call 7; with_reducible refine (HK.out _).mono ?_; rintro e w1 ⟨rfl, hu1⟩))
      go_ret
      exact ⟨rfl, hu1⟩
set_option maxHeartbeats 1000000 in
theorem lens_170 {w : World} {p : Option Addr} {k c : Nat} {l : List Nat} (hk : l.length = k) (hB : Bw w (.slice p k c) l) (h1 : 1 ≤ k) (h40 : k ≤ 40) :
    Calls Try.prog 6 #[.int .u8 170, .slice p k c] w fun e w' => e = .returned (.bool true) ∧ Up w w' := by
  have HK := hid known_fr
  have HB := hid (fun w' (hu : Up w w') => hB.up hu)
  have HN := hid hk
  have HP := hid (pz_lengths (n := 170) (b := l) (by decide) (by omega) (by omega))
  have e2 : ((k : Int) == 0) = false := by simp; omega
  clear hB
  go_enter Try.func6, Try.ntmps6
  go_wp2_with (first
    | (go_at_call 7; with_reducible refine (HK.out _).mono ?_; rintro e w1 ⟨rfl, hu1⟩)
    | (go_at_call 8; with_reducible refine (put_any HN.out (HB.out _ hu1) h1 h40).mono ?_; rintro e w2 ⟨v2, rfl, hv2, hu2⟩)
    | (go_at_call 10; refine (new_any _).mono ?_; rintro e w3 ⟨rfl, hP3, hu3⟩)
    | ((with_reducible apply appU (l := [170, 85, 170]) (base := w3.heap.size)); exact rfl; exact rfl; exact OwnU.lit (l := [170, 85, 170]) (Nat.le_refl _) rfl (by simp) (by simp); exact hv2.bw.up (hu3.trans (Up.alloc _ _)); exact (Up.alloc _ _).size; (focus (rw [fr_len, HN.out]; simp; omega)); rintro v5 w5 hO5 hb5; have hu5 : Up w3 w5 := Below.trans (Up.alloc _ _) hb5; have hP5 := hP3.up hu5)
    | (go_at_call 11; with_reducible refine (feed_any (L := 170 :: 85 :: 170 :: fr l) (l := []) (m := [170, 85, 170] ++ fr l) (b := 0) rfl hP5 hO5.bw (by rw [List.length_append, fr_len, HN.out]; simp; omega) (by decide)).mono ?_; rintro e w6 ⟨v6, rfl, hv6, hP6, hg6⟩; rw [HP.out] at hv6 hP6; dsimp only at hv6 hP6; obtain ⟨a6, c6, sp, m6, k6, rfl, hc6, hB6⟩ := hv6.lw.one_at; have huw : Up w w6 := up_gb (hu1.trans (hu2.trans (hu3.trans hu5))) hg6 (hu1.trans hu2).size))
  refine wp_region_sg (n := 80) 18 [41, 42, 43, 44, 45, 46, 47, 48, 49, 50, 51, 52, 53, 54, 55, 56, 57, 4] [SG.is (.slice (some a6) 1 c6), SG.is (.int .i64 1), SG.is (.bool true), SG.tt true, SG.is (.slice (some a6) 1 c6), SG.is (.pointer (some a6)), SG.is (.slice sp m6 k6), SG.is (.string (strB l)), SG.is (.slice p k c), SG.is (.string (strB l)), SG.is (.bool true), SG.is (.bool true), SG.tt true, SG.is (.pointer (some ⟨w2.heap.size, 0, none⟩)), SG.is (.int .i64 1), SG.is (.bool true), SG.is (.bool true), SG.is (.bool true)] (fun wq => Up w6 wq ∧ Below w.heap.size w wq) (by kernel_rfl) (by rfl) (by kernel_rfl) (by kernel_rfl) (fun _ _ h hu => ⟨(h.1).trans hu, below_up (h.2) hu⟩) ⟨(by first | exact Up.refl _ | assumption), gUp⟩ (fun ev w9 hS9 i o hne hi hwt hev => ?_) (fun gR wE hq hSE huE => ?_)
  · have ⟨hS1, hSB⟩ := hS9
    have hcC := hev.const
    have hcF := hev.func
    have hcG := hev.global
    rcases i with _ | _ | _ | _ | _ | _ | _ | _ | _ | _ | _ | _ | _ | _ | _ | _ | _ | _ | i
    · obtain rfl := Option.some.inj (show some _ = some o from hi)
      have e8 := hev.other 8 (by kernel_rfl)
      simp [Act.eval] at e8
      exact leavesR_value (u := .slice (some a6) 1 c6) (by first | (go_simp; done) | (go_simp; exact rfl)) rfl
    · obtain rfl := Option.some.inj (show some _ = some o from hi)
      have e41 : ev (.tmp 41) = (.slice (some a6) 1 c6) := hev.dep 0 41 (by kernel_rfl)
      exact leavesR_value (u := .int .i64 1) (by first | (go_simp; done) | (go_simp; exact rfl)) rfl
    · obtain rfl := Option.some.inj (show some _ = some o from hi)
      have e42 : ev (.tmp 42) = (.int .i64 1) := hev.dep 1 42 (by kernel_rfl)
      exact leavesR_value (u := .bool true) (by first | (go_simp; done) | (go_simp; exact rfl)) rfl
    · obtain rfl := Option.some.inj (show some _ = some o from hi)
      have e43 : ev (.tmp 43) = (.bool true) := hev.dep 2 43 (by kernel_rfl)
      exact leavesR_value (u := .bool true) (by first | (go_simp; done) | (go_simp; exact rfl)) rfl
    · obtain rfl := Option.some.inj (show some _ = some o from hi)
      have e8 := hev.other 8 (by kernel_rfl)
      simp [Act.eval] at e8
      exact leavesR_value (u := .slice (some a6) 1 c6) (by first | (go_simp; done) | (go_simp; exact rfl)) rfl
    · obtain rfl := Option.some.inj (show some _ = some o from hi)
      have e45 : ev (.tmp 45) = (.slice (some a6) 1 c6) := hev.dep 4 45 (by kernel_rfl)
      exact leavesR_value (u := .pointer (some a6)) (by first | (go_simp; done) | (go_simp; exact rfl)) rfl
    · obtain rfl := Option.some.inj (show some _ = some o from hi)
      have e46 : ev (.tmp 46) = (.pointer (some a6)) := hev.dep 5 46 (by kernel_rfl)
      have hc9 := hS1.cell hc6; exact leavesR_value (u := .slice sp m6 k6) (by go_simp) rfl
    · obtain rfl := Option.some.inj (show some _ = some o from hi)
      have e47 : ev (.tmp 47) = (.slice sp m6 k6) := hev.dep 6 47 (by kernel_rfl)
      exact leavesR_value (run_cv e47 (hB6.bw.up hS1)) rfl
    · obtain rfl := Option.some.inj (show some _ = some o from hi)
      have e1 := hev.other 1 (by kernel_rfl)
      simp [Act.eval] at e1
      exact leavesR_value (u := .slice p k c) (by first | (go_simp; done) | (go_simp; exact rfl)) rfl
    · obtain rfl := Option.some.inj (show some _ = some o from hi)
      have e49 : ev (.tmp 49) = (.slice p k c) := hev.dep 8 49 (by kernel_rfl)
      exact leavesR_value (run_cv e49 (HB.out _ (huw.trans hS1))) rfl
    · obtain rfl := Option.some.inj (show some _ = some o from hi)
      have e48 : ev (.tmp 48) = (.string (strB l)) := hev.dep 7 48 (by kernel_rfl)
      have e50 : ev (.tmp 50) = (.string (strB l)) := hev.dep 9 50 (by kernel_rfl)
      exact leavesR_value (u := .bool true) (by first | (go_simp; done) | (go_simp; exact rfl)) rfl
    · obtain rfl := Option.some.inj (show some _ = some o from hi)
      have e44 : ev (.tmp 44) = (.bool true) := hev.dep 3 44 (by kernel_rfl)
      have e51 : ev (.tmp 51) = (.bool true) := hev.dep 10 51 (by kernel_rfl)
      exact leavesR_value (u := .bool true) (by first | (go_simp; done) | (go_simp; exact rfl)) rfl
    · obtain rfl := Option.some.inj (show some _ = some o from hi)
      have e52 : ev (.tmp 52) = (.bool true) := hev.dep 11 52 (by kernel_rfl)
      exact leavesR_value (u := .bool true) (by first | (go_simp; done) | (go_simp; exact rfl)) rfl
    · obtain rfl := Option.some.inj (show some _ = some o from hi)
      have e7 := hev.other 7 (by kernel_rfl)
      simp [Act.eval] at e7
      exact leavesR_value (u := .pointer (some ⟨w2.heap.size, 0, none⟩)) (by first | (go_simp; done) | (go_simp; exact rfl)) rfl
    · obtain rfl := Option.some.inj (show some _ = some o from hi)
      have e54 : ev (.tmp 54) = (.pointer (some ⟨w2.heap.size, 0, none⟩)) := hev.dep 13 54 (by kernel_rfl)
      refine leavesR_call ?_ ((bad_any (b := 1) (hP6.up hS1)).mono fun _ _ h => ⟨h.2 ▸ Up.refl _, _, h.1, rfl⟩)
      go_simp
    · obtain rfl := Option.some.inj (show some _ = some o from hi)
      have e55 : ev (.tmp 55) = (.int .i64 1) := hev.dep 14 55 (by kernel_rfl)
      exact leavesR_value (u := .bool true) (by first | (go_simp; done) | (go_simp; exact rfl)) rfl
    · obtain rfl := Option.some.inj (show some _ = some o from hi)
      have e53 : ev (.tmp 53) = (.bool true) := hev.dep 12 53 (by kernel_rfl)
      have e56 : ev (.tmp 56) = (.bool true) := hev.dep 15 56 (by kernel_rfl)
      exact leavesR_value (u := .bool true) (by first | (go_simp; done) | (go_simp; exact rfl)) rfl
    · obtain rfl := Option.some.inj (show some _ = some o from hi)
      have e57 : ev (.tmp 57) = (.bool true) := hev.dep 16 57 (by kernel_rfl)
      exact leavesR_value (u := .bool true) (by first | (go_simp; done) | (go_simp; exact rfl)) rfl
    · exact absurd (show i + 18 < 18 from (Array.getElem?_eq_some_iff.1 hi).1) (by omega)
  have ⟨hS1, hSB⟩ := hSE
  have q0 : gR 41 = (.slice (some a6) 1 c6) := hq 0 41 (by decide) (by kernel_rfl)
  have q1 : gR 42 = (.int .i64 1) := hq 1 42 (by decide) (by kernel_rfl)
  have q2 : gR 43 = (.bool true) := hq 2 43 (by decide) (by kernel_rfl)
  have q3 : gR 44 = (.bool true) := hq 3 44 (by decide) (by kernel_rfl)
  have q4 : gR 45 = (.slice (some a6) 1 c6) := hq 4 45 (by decide) (by kernel_rfl)
  have q5 : gR 46 = (.pointer (some a6)) := hq 5 46 (by decide) (by kernel_rfl)
  have q6 : gR 47 = (.slice sp m6 k6) := hq 6 47 (by decide) (by kernel_rfl)
  have q7 : gR 48 = (.string (strB l)) := hq 7 48 (by decide) (by kernel_rfl)
  have q8 : gR 49 = (.slice p k c) := hq 8 49 (by decide) (by kernel_rfl)
  have q9 : gR 50 = (.string (strB l)) := hq 9 50 (by decide) (by kernel_rfl)
  have q10 : gR 51 = (.bool true) := hq 10 51 (by decide) (by kernel_rfl)
  have q11 : gR 52 = (.bool true) := hq 11 52 (by decide) (by kernel_rfl)
  have q12 : gR 53 = (.bool true) := hq 12 53 (by decide) (by kernel_rfl)
  have q13 : gR 54 = (.pointer (some ⟨w2.heap.size, 0, none⟩)) := hq 13 54 (by decide) (by kernel_rfl)
  have q14 : gR 55 = (.int .i64 1) := hq 14 55 (by decide) (by kernel_rfl)
  have q15 : gR 56 = (.bool true) := hq 15 56 (by decide) (by kernel_rfl)
  have q16 : gR 57 = (.bool true) := hq 16 57 (by decide) (by kernel_rfl)
  have q17 : gR 4 = (.bool true) := hq 17 4 (by decide) (by kernel_rfl)
  refine ⟨fun _ => ?_, fun o ho => by simp at ho⟩
  simp only [putL, List.map_cons, List.map_nil, q0, q1, q2, q3, q4, q5, q6, q7, q8, q9, q10, q11, q12, q13, q14, q15, q16, q17, Act.put, pu1, pu2, pu3]
  clear hq hSE q0 q1 q2 q3 q4 q5 q6 q7 q8 q9 q10 q11 q12 q13 q14 q15 q16 q17
  go_wp2_with fail
  go_ret
  exact ⟨rfl, huw.trans huE⟩
set_option maxHeartbeats 2000000 in
theorem lens_else {w : World} {p : Option Addr} {k c n : Nat} {l : List Nat} (hk : l.length = k) (hB : Bw w (.slice p k c) l) (h1 : 1 ≤ k) (h40 : k ≤ 40) (hn : ¬ 1 ≤ n ∨ 40 < n) (h170 : n ≠ 170) (hn8 : n < 256) :
    Calls Try.prog 6 #[.int .u8 (n : Int), .slice p k c] w fun e w' => e = .returned (.bool true) ∧ Up w w' := by
  have HK := hid known_fr
  have HB := hid (fun w' (hu : Up w w') => hB.up hu)
  have HN := hid hk
  have HP := hid (pz_lengths (n := n) (b := l) (by omega) (by omega) (by omega))
  have e2 : ((k : Int) == 0) = false := by simp; omega
  have e3 : ((n : Int) == 170) = false := by simp; omega
  clear hB
  rcases hn with hn | hn
  all_goals
    go_enter Try.func6, Try.ntmps6
    go_wp2_with (first
      | (go_at_call 7; with_reducible refine (HK.out _).mono ?_; rintro e w1 ⟨rfl, hu1⟩)
      | (go_at_call 8; with_reducible refine (put_any HN.out (HB.out _ hu1) h1 h40).mono ?_; rintro e w2 ⟨v2, rfl, hv2, hu2⟩)
      | (go_at_call 10; refine (new_any _).mono ?_; rintro e w3 ⟨rfl, hP3, hu3⟩)
      | ((with_reducible apply appU (l := [170, 85, n]) (base := w3.heap.size)); exact rfl; exact rfl; exact OwnU.lit (l := [170, 85, n]) (Nat.le_refl _) rfl (by simp) (by simp; omega); exact hv2.bw.up (hu3.trans (Up.alloc _ _)); exact (Up.alloc _ _).size; (focus (rw [fr_len, HN.out]; simp; omega)); rintro v5 w5 hO5 hb5; have hu5 : Up w3 w5 := Below.trans (Up.alloc _ _) hb5; have hP5 := hP3.up hu5)
      | (go_at_call 11; with_reducible refine (feed_any (L := 170 :: 85 :: n :: fr l) (l := []) (m := [170, 85, n] ++ fr l) (b := 0) rfl hP5 hO5.bw (by rw [List.length_append, fr_len, HN.out]; simp; omega) (by decide)).mono ?_; rintro e w6 ⟨v6, rfl, hv6, hP6, hg6⟩; rw [HP.out] at hv6 hP6; dsimp only at hv6 hP6; obtain ⟨a6, c6, sp, m6, k6, rfl, hc6, hB6⟩ := hv6.lw.one_at; have huw : Up w w6 := up_gb (hu1.trans (hu2.trans (hu3.trans hu5))) hg6 (hu1.trans hu2).size))
    refine wp_region_sg (n := 80) 23 [58, 59, 60, 61, 62, 63, 64, 65, 66, 67, 68, 69, 70, 71, 72, 73, 74, 75, 76, 77, 78, 79, 4] [SG.is (.slice (some a6) 1 c6), SG.is (.int .i64 1), SG.is (.bool true), SG.tt true, SG.is (.slice (some a6) 1 c6), SG.is (.pointer (some a6)), SG.is (.slice sp m6 k6), SG.is (.string (strB l)), SG.is (.slice p k c), SG.is (.string (strB l)), SG.is (.bool true), SG.is (.bool true), SG.tt true, SG.is (.pointer (some ⟨w2.heap.size, 0, none⟩)), SG.is (.int .i64 1), SG.is (.bool true), SG.is (.bool true), SG.tt true, SG.is (.pointer (some ⟨w2.heap.size, 0, none⟩)), SG.is (.int .i64 0), SG.is (.bool true), SG.is (.bool true), SG.is (.bool true)] (fun wq => Up w6 wq ∧ Below w.heap.size w wq) (by kernel_rfl) (by rfl) (by kernel_rfl) (by kernel_rfl) (fun _ _ h hu => ⟨(h.1).trans hu, below_up (h.2) hu⟩) ⟨(by first | exact Up.refl _ | assumption), gUp⟩ (fun ev w9 hS9 i o hne hi hwt hev => ?_) (fun gR wE hq hSE huE => ?_)
    · have ⟨hS1, hSB⟩ := hS9
      have hcC := hev.const
      have hcF := hev.func
      have hcG := hev.global
      rcases i with _ | _ | _ | _ | _ | _ | _ | _ | _ | _ | _ | _ | _ | _ | _ | _ | _ | _ | _ | _ | _ | _ | _ | i
      · obtain rfl := Option.some.inj (show some _ = some o from hi)
        have e8 := hev.other 8 (by kernel_rfl)
        simp [Act.eval] at e8
        exact leavesR_value (u := .slice (some a6) 1 c6) (by first | (go_simp; done) | (go_simp; exact rfl)) rfl
      · obtain rfl := Option.some.inj (show some _ = some o from hi)
        have e58 : ev (.tmp 58) = (.slice (some a6) 1 c6) := hev.dep 0 58 (by kernel_rfl)
        exact leavesR_value (u := .int .i64 1) (by first | (go_simp; done) | (go_simp; exact rfl)) rfl
      · obtain rfl := Option.some.inj (show some _ = some o from hi)
        have e59 : ev (.tmp 59) = (.int .i64 1) := hev.dep 1 59 (by kernel_rfl)
        exact leavesR_value (u := .bool true) (by first | (go_simp; done) | (go_simp; exact rfl)) rfl
      · obtain rfl := Option.some.inj (show some _ = some o from hi)
        have e60 : ev (.tmp 60) = (.bool true) := hev.dep 2 60 (by kernel_rfl)
        exact leavesR_value (u := .bool true) (by first | (go_simp; done) | (go_simp; exact rfl)) rfl
      · obtain rfl := Option.some.inj (show some _ = some o from hi)
        have e8 := hev.other 8 (by kernel_rfl)
        simp [Act.eval] at e8
        exact leavesR_value (u := .slice (some a6) 1 c6) (by first | (go_simp; done) | (go_simp; exact rfl)) rfl
      · obtain rfl := Option.some.inj (show some _ = some o from hi)
        have e62 : ev (.tmp 62) = (.slice (some a6) 1 c6) := hev.dep 4 62 (by kernel_rfl)
        exact leavesR_value (u := .pointer (some a6)) (by first | (go_simp; done) | (go_simp; exact rfl)) rfl
      · obtain rfl := Option.some.inj (show some _ = some o from hi)
        have e63 : ev (.tmp 63) = (.pointer (some a6)) := hev.dep 5 63 (by kernel_rfl)
        have hc9 := hS1.cell hc6; exact leavesR_value (u := .slice sp m6 k6) (by go_simp) rfl
      · obtain rfl := Option.some.inj (show some _ = some o from hi)
        have e64 : ev (.tmp 64) = (.slice sp m6 k6) := hev.dep 6 64 (by kernel_rfl)
        exact leavesR_value (run_cv e64 (hB6.bw.up hS1)) rfl
      · obtain rfl := Option.some.inj (show some _ = some o from hi)
        have e1 := hev.other 1 (by kernel_rfl)
        simp [Act.eval] at e1
        exact leavesR_value (u := .slice p k c) (by first | (go_simp; done) | (go_simp; exact rfl)) rfl
      · obtain rfl := Option.some.inj (show some _ = some o from hi)
        have e66 : ev (.tmp 66) = (.slice p k c) := hev.dep 8 66 (by kernel_rfl)
        exact leavesR_value (run_cv e66 (HB.out _ (huw.trans hS1))) rfl
      · obtain rfl := Option.some.inj (show some _ = some o from hi)
        have e65 : ev (.tmp 65) = (.string (strB l)) := hev.dep 7 65 (by kernel_rfl)
        have e67 : ev (.tmp 67) = (.string (strB l)) := hev.dep 9 67 (by kernel_rfl)
        exact leavesR_value (u := .bool true) (by first | (go_simp; done) | (go_simp; exact rfl)) rfl
      · obtain rfl := Option.some.inj (show some _ = some o from hi)
        have e61 : ev (.tmp 61) = (.bool true) := hev.dep 3 61 (by kernel_rfl)
        have e68 : ev (.tmp 68) = (.bool true) := hev.dep 10 68 (by kernel_rfl)
        exact leavesR_value (u := .bool true) (by first | (go_simp; done) | (go_simp; exact rfl)) rfl
      · obtain rfl := Option.some.inj (show some _ = some o from hi)
        have e69 : ev (.tmp 69) = (.bool true) := hev.dep 11 69 (by kernel_rfl)
        exact leavesR_value (u := .bool true) (by first | (go_simp; done) | (go_simp; exact rfl)) rfl
      · obtain rfl := Option.some.inj (show some _ = some o from hi)
        have e7 := hev.other 7 (by kernel_rfl)
        simp [Act.eval] at e7
        exact leavesR_value (u := .pointer (some ⟨w2.heap.size, 0, none⟩)) (by first | (go_simp; done) | (go_simp; exact rfl)) rfl
      · obtain rfl := Option.some.inj (show some _ = some o from hi)
        have e71 : ev (.tmp 71) = (.pointer (some ⟨w2.heap.size, 0, none⟩)) := hev.dep 13 71 (by kernel_rfl)
        refine leavesR_call ?_ ((bad_any (b := 1) (hP6.up hS1)).mono fun _ _ h => ⟨h.2 ▸ Up.refl _, _, h.1, rfl⟩)
        go_simp
      · obtain rfl := Option.some.inj (show some _ = some o from hi)
        have e72 : ev (.tmp 72) = (.int .i64 1) := hev.dep 14 72 (by kernel_rfl)
        exact leavesR_value (u := .bool true) (by first | (go_simp; done) | (go_simp; exact rfl)) rfl
      · obtain rfl := Option.some.inj (show some _ = some o from hi)
        have e70 : ev (.tmp 70) = (.bool true) := hev.dep 12 70 (by kernel_rfl)
        have e73 : ev (.tmp 73) = (.bool true) := hev.dep 15 73 (by kernel_rfl)
        exact leavesR_value (u := .bool true) (by first | (go_simp; done) | (go_simp; exact rfl)) rfl
      · obtain rfl := Option.some.inj (show some _ = some o from hi)
        have e74 : ev (.tmp 74) = (.bool true) := hev.dep 16 74 (by kernel_rfl)
        exact leavesR_value (u := .bool true) (by first | (go_simp; done) | (go_simp; exact rfl)) rfl
      · obtain rfl := Option.some.inj (show some _ = some o from hi)
        have e7 := hev.other 7 (by kernel_rfl)
        simp [Act.eval] at e7
        exact leavesR_value (u := .pointer (some ⟨w2.heap.size, 0, none⟩)) (by first | (go_simp; done) | (go_simp; exact rfl)) rfl
      · obtain rfl := Option.some.inj (show some _ = some o from hi)
        have e76 : ev (.tmp 76) = (.pointer (some ⟨w2.heap.size, 0, none⟩)) := hev.dep 18 76 (by kernel_rfl)
        refine leavesR_call ?_ ((left_any (l := []) (hP6.up hS1)).mono fun _ _ h => ⟨h.2 ▸ Up.refl _, _, h.1, rfl⟩)
        go_simp
      · obtain rfl := Option.some.inj (show some _ = some o from hi)
        have e77 : ev (.tmp 77) = (.int .i64 0) := hev.dep 19 77 (by kernel_rfl)
        exact leavesR_value (u := .bool true) (by first | (go_simp; done) | (go_simp; exact rfl)) rfl
      · obtain rfl := Option.some.inj (show some _ = some o from hi)
        have e75 : ev (.tmp 75) = (.bool true) := hev.dep 17 75 (by kernel_rfl)
        have e78 : ev (.tmp 78) = (.bool true) := hev.dep 20 78 (by kernel_rfl)
        exact leavesR_value (u := .bool true) (by first | (go_simp; done) | (go_simp; exact rfl)) rfl
      · obtain rfl := Option.some.inj (show some _ = some o from hi)
        have e79 : ev (.tmp 79) = (.bool true) := hev.dep 21 79 (by kernel_rfl)
        exact leavesR_value (u := .bool true) (by first | (go_simp; done) | (go_simp; exact rfl)) rfl
      · exact absurd (show i + 23 < 23 from (Array.getElem?_eq_some_iff.1 hi).1) (by omega)
    have ⟨hS1, hSB⟩ := hSE
    have q0 : gR 58 = (.slice (some a6) 1 c6) := hq 0 58 (by decide) (by kernel_rfl)
    have q1 : gR 59 = (.int .i64 1) := hq 1 59 (by decide) (by kernel_rfl)
    have q2 : gR 60 = (.bool true) := hq 2 60 (by decide) (by kernel_rfl)
    have q3 : gR 61 = (.bool true) := hq 3 61 (by decide) (by kernel_rfl)
    have q4 : gR 62 = (.slice (some a6) 1 c6) := hq 4 62 (by decide) (by kernel_rfl)
    have q5 : gR 63 = (.pointer (some a6)) := hq 5 63 (by decide) (by kernel_rfl)
    have q6 : gR 64 = (.slice sp m6 k6) := hq 6 64 (by decide) (by kernel_rfl)
    have q7 : gR 65 = (.string (strB l)) := hq 7 65 (by decide) (by kernel_rfl)
    have q8 : gR 66 = (.slice p k c) := hq 8 66 (by decide) (by kernel_rfl)
    have q9 : gR 67 = (.string (strB l)) := hq 9 67 (by decide) (by kernel_rfl)
    have q10 : gR 68 = (.bool true) := hq 10 68 (by decide) (by kernel_rfl)
    have q11 : gR 69 = (.bool true) := hq 11 69 (by decide) (by kernel_rfl)
    have q12 : gR 70 = (.bool true) := hq 12 70 (by decide) (by kernel_rfl)
    have q13 : gR 71 = (.pointer (some ⟨w2.heap.size, 0, none⟩)) := hq 13 71 (by decide) (by kernel_rfl)
    have q14 : gR 72 = (.int .i64 1) := hq 14 72 (by decide) (by kernel_rfl)
    have q15 : gR 73 = (.bool true) := hq 15 73 (by decide) (by kernel_rfl)
    have q16 : gR 74 = (.bool true) := hq 16 74 (by decide) (by kernel_rfl)
    have q17 : gR 75 = (.bool true) := hq 17 75 (by decide) (by kernel_rfl)
    have q18 : gR 76 = (.pointer (some ⟨w2.heap.size, 0, none⟩)) := hq 18 76 (by decide) (by kernel_rfl)
    have q19 : gR 77 = (.int .i64 0) := hq 19 77 (by decide) (by kernel_rfl)
    have q20 : gR 78 = (.bool true) := hq 20 78 (by decide) (by kernel_rfl)
    have q21 : gR 79 = (.bool true) := hq 21 79 (by decide) (by kernel_rfl)
    have q22 : gR 4 = (.bool true) := hq 22 4 (by decide) (by kernel_rfl)
    refine ⟨fun _ => ?_, fun o ho => by simp at ho⟩
    simp only [putL, List.map_cons, List.map_nil, q0, q1, q2, q3, q4, q5, q6, q7, q8, q9, q10, q11, q12, q13, q14, q15, q16, q17, q18, q19, q20, q21, q22, Act.put, pu1, pu2, pu3]
    clear hq hSE q0 q1 q2 q3 q4 q5 q6 q7 q8 q9 q10 q11 q12 q13 q14 q15 q16 q17 q18 q19 q20 q21 q22
    go_wp2_with fail
    go_ret
    exact ⟨rfl, huw.trans huE⟩
theorem lens_row {w : World} {p : Option Addr} {len cap : Nat} {z : List Int} {n : Int} (w0 : (Lit.int .u8 n).wf = true) (w1 : (p = none ∧ len = 0 ∧ cap = 0 ∧ z = []) ∨
    ∃ x, p = some x ∧ len ≤ cap ∧ cap ≤ maxLen ∧ z.length = cap ∧ (∀ i, i < z.length → w.cell? (x.add i) = some (.int .u8 (z.getD i 0))) ∧ ∀ n ∈ z, (Lit.int .u8 n).wf = true) :
    Calls Try.prog 6 #[.int .u8 n, .slice p len cap] w fun e w' => e = .returned (.bool true) ∧ Below w.heap.size w w' := by
  obtain ⟨n, rfl, hn⟩ := wf_nat (m := 255) w0 IntKind.min_u8 IntKind.max_u8
  by_cases h : 40 < len ∨ len = 0 ∨ (1 ≤ n ∧ n ≤ 40)
  · exact lens_early _ _ h
  · obtain ⟨l, rfl, hB⟩ := bw_in w1 (by omega)
    by_cases h170 : n = 170
    · subst h170
      exact lens_170 rfl hB (by omega) (by omega)
    · exact lens_else rfl hB (by omega) (by omega) (by omega) h170 hn
end Go.Proofs.Ytmpikkhfeogdcaa
