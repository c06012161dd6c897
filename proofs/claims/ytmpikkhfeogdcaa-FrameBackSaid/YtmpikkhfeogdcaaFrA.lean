/-
  Frames: any payload that may be comes back, and no other is framed (FrameBack).
-/
import Derived.Test.YtmpikkhfeogdcaaFr8
import Derived.Test.YtmpikkhfeogdcaaRelG
import Derived.Lib.MinMax
namespace Go.Proofs.Ytmpikkhfeogdcaa
open Go Go.RowKit
set_option maxRecDepth 100000

theorem Pw.at {w : World} {v : Value} {ls : List (List Nat)} (h : Pw w v ls) {n : Nat} (hn : ls.length = n) : ∃ p c, v = .slice p n c ∧ n ≤ c ∧ ∀ i, i < n → ∃ a q m k, p = some a ∧ w.cell? (a.add i) = some (.slice q m k) ∧ (ls.getD i []).length = m ∧ Bw w (.slice q m k) (ls.getD i []) := by
  subst hn
  obtain ⟨p, cap, e, hc, _, h2⟩ := h
  refine ⟨p, cap, e, hc.1, fun i hi => ?_⟩
  obtain ⟨a, x, e1, e2, e3⟩ := h2 i hi
  have e4 := e3
  obtain ⟨q, k, rfl, _⟩ := e3
  exact ⟨a, q, _, k, e1, e2, rfl, e4⟩
theorem run_mkU {ev : Operand → Value} {w : World} {d : Option Tmp} {s : Operand} {ty : TypeId} {pos : String} {af : Array Edge} {gd : Option (Nat × Bool)} {z : Nat} (hl : ev s = .int .i64 (z : Int)) (hz : z ≤ 1000) :
    (execOp ev { dst := d, op := .makeSlice 22 s s, type := ty, pos := pos, after := af, guard := gd }).run Try.prog w = .ok (.value (.slice (some ⟨w.heap.size, 0, none⟩) z z)) (w.alloc (.cells (valU (List.replicate z 0)).toArray 5)) := by
  have hi := infoU
  cases hq : Try.prog.info? 5 with
  | none => rw [hq] at hi; simp at hi
  | some i =>
    rw [hq] at hi
    simp only [Option.map_some, Option.some.injEq, Prod.mk.injEq] at hi
    have hr := run_make (P := Try.prog) (w := w) 22 5 i (.int .u8 0) undU hq hi.1 .i64 .i64 (z : Int) (z : Int) (by omega) (by omega) (by rw [hi.2.2]; omega) (by omega)
    rw [hi.2.1, Nat.mul_one] at hr
    have hz : madeCells (Value.int .u8 0).cells (z : Int).toNat = (valU (List.replicate z 0)).toArray := by
      unfold madeCells valU
      apply Array.ext
      · simp [Value.cells]
      · intro i h1 h2; simp [Value.cells, Nat.mod_one]
    rw [hz] at hr
    unfold execOp
    simp only [hl, Sem.run_bind, Sem.run_pure, Result.andThen_ok, hr]
    rfl
theorem back_big {w : World} (p : Option Addr) {k : Nat} (c : Nat) (n : Int) (h : 200 < k) :
    Calls Try.prog 3 #[.slice p k c, .int .u8 n] w fun e w' => e = .returned (.bool true) ∧ Up w w' := by
  have HK := hid known_fr
  go_enter Try.func3, Try.ntmps3
  go_wp2_with (first
    | (go_at_call 7; with_reducible refine (HK.out _).mono ?_; rintro e w1 ⟨rfl, hu1⟩))
  go_ret
  exact ⟨rfl, hu1⟩
set_option maxHeartbeats 4000000 in
theorem back_any {w : World} {p : Option Addr} {k c n : Nat} {l : List Nat} (hk : l.length = k) (hB : Bw w (.slice p k c) l) (h200 : k ≤ 200) (hn8 : n < 256) :
    Calls Try.prog 3 #[.slice p k c, .int .u8 (n : Int)] w fun e w' => e = .returned (.bool true) ∧ Up w w' := by
  have HK := hid known_fr
  have HB := hid (fun w' (hu : Up w w') => hB.up hu)
  have HN := hid hk
  have hcap := hB.cap'
  have E1 : (n : Int).tmod 50 = ((n % 50 : Nat) : Int) := (Int.ofNat_tmod n 50).symm
  have E2 : (n : Int).tmod 5 = ((n % 5 : Nat) : Int) := (Int.ofNat_tmod n 5).symm
  obtain ⟨a1, ha1⟩ : ∃ a, n % 50 = a := ⟨_, rfl⟩
  obtain ⟨b1, hb1⟩ : ∃ a, n % 5 = a := ⟨_, rfl⟩
  have hb5 : b1 < 5 := by omega
  have ha5 : a1 < 50 := by omega
  rw [ha1] at E1
  rw [hb1] at E2
  obtain ⟨m1, hm1⟩ : ∃ m, min k a1 = m := ⟨_, rfl⟩
  have E3 : min (k : Int) (a1 : Int) = (m1 : Int) := by omega
  have hmk : m1 ≤ k := by omega
  have E4 : IntKind.i64.wrap (a1 : Int) = (a1 : Int) := IntWalk.i64_in _ (by omega)
  have E5 : IntKind.i64.wrap (b1 : Int) = (b1 : Int) := IntWalk.i64_in _ (by omega)
  have E6 : IntKind.i64.wrap (38 + (b1 : Int)) = 38 + (b1 : Int) := IntWalk.i64_in _ (by omega)
  clear hB ha1 hb1 hm1
  go_enter Try.func3, Try.ntmps3
  go_wp2_with (first
    | (go_at_call 7; with_reducible refine (HK.out _).mono ?_; rintro e w1 ⟨rfl, hu1⟩))
  refine wp_region_sg (n := 87) 17 [18, 19, 20, 21, 22, 23, 24, 25, 26, 27, 28, 29, 30, 31, 32, 33, 34] [SG.is (.slice p k c), SG.is (.slice p k c), SG.is (.slice p k c), SG.is (.int .i64 (k : Int)), SG.is (.int .u8 (n : Int)), SG.is (.int .u8 (a1 : Int)), SG.is (.int .i64 (a1 : Int)), SG.is (.int .i64 (m1 : Int)), SG.is (.slice p m1 c), SG.is (.int .u8 (n : Int)), SG.is (.int .u8 (b1 : Int)), SG.is (.int .i64 (b1 : Int)), SG.is (.int .i64 (38 + (b1 : Int))), SG.of (fun v w1 => (∃ g, v = .slice (some ⟨g, 0, none⟩) (38 + b1) (38 + b1)) ∧ Bw w1 v (List.replicate (38 + b1) 0)) (fun _ _ _ h hu => ⟨h.1, h.2.up hu⟩), SG.of (fun v w1 => (∃ a cc, v = .slice (some a) 3 cc) ∧ Pw w1 v [l, l.take m1, List.replicate (38 + b1) 0]) (fun _ _ _ h hu => ⟨h.1, h.2.up hu⟩), SG.is (.int .i64 3), SG.is (.int .i64 0)] (fun wq => Up w1 wq ∧ Below w.heap.size w wq) (by kernel_rfl) (by rfl) (by kernel_rfl) (by kernel_rfl) (fun _ _ h hu => ⟨(h.1).trans hu, below_up (h.2) hu⟩) ⟨(by first | exact Up.refl _ | assumption), gUp⟩ (fun ev w9 hS9 i o hne hi hwt hev => ?_) (fun gR wE hq hSE huE => ?_)
  · have ⟨hS1, hSB⟩ := hS9
    have hcC := hev.const
    have hcF := hev.func
    have hcG := hev.global
    rcases i with _ | _ | _ | _ | _ | _ | _ | _ | _ | _ | _ | _ | _ | _ | _ | _ | _ | i
    · obtain rfl := Option.some.inj (show some _ = some o from hi)
      have e0 := hev.other 0 (by kernel_rfl)
      simp [Act.eval] at e0
      exact leavesR_value (u := .slice p k c) (by first | (go_simp; done) | (go_simp; exact rfl)) rfl
    · obtain rfl := Option.some.inj (show some _ = some o from hi)
      have e0 := hev.other 0 (by kernel_rfl)
      simp [Act.eval] at e0
      exact leavesR_value (u := .slice p k c) (by first | (go_simp; done) | (go_simp; exact rfl)) rfl
    · obtain rfl := Option.some.inj (show some _ = some o from hi)
      have e0 := hev.other 0 (by kernel_rfl)
      simp [Act.eval] at e0
      exact leavesR_value (u := .slice p k c) (by first | (go_simp; done) | (go_simp; exact rfl)) rfl
    · obtain rfl := Option.some.inj (show some _ = some o from hi)
      have e20 : ev (.tmp 20) = (.slice p k c) := hev.dep 2 20 (by kernel_rfl)
      exact leavesR_value (u := .int .i64 (k : Int)) (by first | (go_simp; done) | (go_simp; exact rfl)) rfl
    · obtain rfl := Option.some.inj (show some _ = some o from hi)
      have e1 := hev.other 1 (by kernel_rfl)
      simp [Act.eval] at e1
      exact leavesR_value (u := .int .u8 (n : Int)) (by first | (go_simp; done) | (go_simp; exact rfl)) rfl
    · obtain rfl := Option.some.inj (show some _ = some o from hi)
      have e22 : ev (.tmp 22) = (.int .u8 (n : Int)) := hev.dep 4 22 (by kernel_rfl)
      exact leavesR_value (u := .int .u8 (a1 : Int)) (by first | (go_simp; done) | (go_simp; exact rfl)) rfl
    · obtain rfl := Option.some.inj (show some _ = some o from hi)
      have e23 : ev (.tmp 23) = (.int .u8 (a1 : Int)) := hev.dep 5 23 (by kernel_rfl)
      exact leavesR_value (u := .int .i64 (a1 : Int)) (by first | (go_simp; done) | (go_simp; exact rfl)) rfl
    · obtain rfl := Option.some.inj (show some _ = some o from hi)
      have e21 : ev (.tmp 21) = (.int .i64 (k : Int)) := hev.dep 3 21 (by kernel_rfl)
      have e24 : ev (.tmp 24) = (.int .i64 (a1 : Int)) := hev.dep 6 24 (by kernel_rfl)
      exact leavesR_value (u := .int .i64 (m1 : Int)) (by first | (go_simp; done) | (go_simp; exact rfl)) rfl
    · obtain rfl := Option.some.inj (show some _ = some o from hi)
      have e19 : ev (.tmp 19) = (.slice p k c) := hev.dep 1 19 (by kernel_rfl)
      have e25 : ev (.tmp 25) = (.int .i64 (m1 : Int)) := hev.dep 7 25 (by kernel_rfl)
      exact leavesR_value (run_T hmk hcap e19 e25) rfl
    · obtain rfl := Option.some.inj (show some _ = some o from hi)
      have e1 := hev.other 1 (by kernel_rfl)
      simp [Act.eval] at e1
      exact leavesR_value (u := .int .u8 (n : Int)) (by first | (go_simp; done) | (go_simp; exact rfl)) rfl
    · obtain rfl := Option.some.inj (show some _ = some o from hi)
      have e27 : ev (.tmp 27) = (.int .u8 (n : Int)) := hev.dep 9 27 (by kernel_rfl)
      exact leavesR_value (u := .int .u8 (b1 : Int)) (by first | (go_simp; done) | (go_simp; exact rfl)) rfl
    · obtain rfl := Option.some.inj (show some _ = some o from hi)
      have e28 : ev (.tmp 28) = (.int .u8 (b1 : Int)) := hev.dep 10 28 (by kernel_rfl)
      exact leavesR_value (u := .int .i64 (b1 : Int)) (by first | (go_simp; done) | (go_simp; exact rfl)) rfl
    · obtain rfl := Option.some.inj (show some _ = some o from hi)
      have e29 : ev (.tmp 29) = (.int .i64 (b1 : Int)) := hev.dep 11 29 (by kernel_rfl)
      exact leavesR_value (u := .int .i64 (38 + (b1 : Int))) (by first | (go_simp; done) | (go_simp; exact rfl)) rfl
    · obtain rfl := Option.some.inj (show some _ = some o from hi)
      have e30 : ev (.tmp 30) = (.int .i64 (38 + (b1 : Int))) := hev.dep 12 30 (by kernel_rfl)
      exact leavesR_up (run_mkU (z := 38 + b1) (by rw [e30]; rfl) (by omega)) (Up.alloc _ _) ⟨⟨_, rfl⟩, by have := (OwnU.lit (w := w9) (base := 0) (l := List.replicate (38 + b1) 0) (Nat.zero_le _) rfl (by rw [List.length_replicate]; omega) (fun x hx => by rw [List.eq_of_mem_replicate hx]; decide)).bw; rw [List.length_replicate] at this; exact this⟩
    · obtain rfl := Option.some.inj (show some _ = some o from hi)
      have e18 : ev (.tmp 18) = (.slice p k c) := hev.dep 0 18 (by kernel_rfl)
      have e26 : ev (.tmp 26) = (.slice p m1 c) := hev.dep 8 26 (by kernel_rfl)
      have e31 : (fun v w1 => (∃ g, v = .slice (some ⟨g, 0, none⟩) (38 + b1) (38 + b1)) ∧ Bw w1 v (List.replicate (38 + b1) 0)) (ev (.tmp 31)) w9 := hev.dep 13 31 (by kernel_rfl)
      dsimp only at e31
      obtain ⟨v31, hv31⟩ : ∃ v, ev (.tmp 31) = v := ⟨_, rfl⟩
      rw [hv31] at e31
      obtain ⟨⟨g9, rfl⟩, hE⟩ := e31; exact leavesR_up (u := .slice (some ⟨w9.heap.size, 0, none⟩) 3 3) (w' := w9.alloc (.cells #[.slice p k c, .slice p m1 c, .slice (some ⟨g9, 0, none⟩) (38 + b1) (38 + b1)] 22)) (by go_simp) (Up.alloc _ _) ⟨⟨_, _, rfl⟩, Pw.three (new_at rfl) (HB.out _ ((hu1.trans hS1).trans (Up.alloc _ _))) (Bw.take HN.out (HB.out _ ((hu1.trans hS1).trans (Up.alloc _ _))) hmk) (hE.up (Up.alloc _ _))⟩
    · obtain rfl := Option.some.inj (show some _ = some o from hi)
      have e32 : (fun v w1 => (∃ a cc, v = .slice (some a) 3 cc) ∧ Pw w1 v [l, l.take m1, List.replicate (38 + b1) 0]) (ev (.tmp 32)) w9 := hev.dep 14 32 (by kernel_rfl)
      dsimp only at e32
      obtain ⟨v32, hv32⟩ : ∃ v, ev (.tmp 32) = v := ⟨_, rfl⟩
      rw [hv32] at e32
      obtain ⟨⟨a9, c9, rfl⟩, hE⟩ := e32; exact leavesR_value (u := .int .i64 3) (by go_simp) rfl
    · obtain rfl := Option.some.inj (show some _ = some o from hi)
      exact leavesR_value (u := .int .i64 0) (by first | (go_simp; done) | (go_simp; exact rfl)) rfl
    · exact absurd (show i + 17 < 17 from (Array.getElem?_eq_some_iff.1 hi).1) (by omega)
  have ⟨hS1, hSB⟩ := hSE
  have q0 : gR 18 = (.slice p k c) := hq 0 18 (by decide) (by kernel_rfl)
  have q1 : gR 19 = (.slice p k c) := hq 1 19 (by decide) (by kernel_rfl)
  have q2 : gR 20 = (.slice p k c) := hq 2 20 (by decide) (by kernel_rfl)
  have q3 : gR 21 = (.int .i64 (k : Int)) := hq 3 21 (by decide) (by kernel_rfl)
  have q4 : gR 22 = (.int .u8 (n : Int)) := hq 4 22 (by decide) (by kernel_rfl)
  have q5 : gR 23 = (.int .u8 (a1 : Int)) := hq 5 23 (by decide) (by kernel_rfl)
  have q6 : gR 24 = (.int .i64 (a1 : Int)) := hq 6 24 (by decide) (by kernel_rfl)
  have q7 : gR 25 = (.int .i64 (m1 : Int)) := hq 7 25 (by decide) (by kernel_rfl)
  have q8 : gR 26 = (.slice p m1 c) := hq 8 26 (by decide) (by kernel_rfl)
  have q9 : gR 27 = (.int .u8 (n : Int)) := hq 9 27 (by decide) (by kernel_rfl)
  have q10 : gR 28 = (.int .u8 (b1 : Int)) := hq 10 28 (by decide) (by kernel_rfl)
  have q11 : gR 29 = (.int .i64 (b1 : Int)) := hq 11 29 (by decide) (by kernel_rfl)
  have q12 : gR 30 = (.int .i64 (38 + (b1 : Int))) := hq 12 30 (by decide) (by kernel_rfl)
  have q13 : (fun v w1 => (∃ g, v = .slice (some ⟨g, 0, none⟩) (38 + b1) (38 + b1)) ∧ Bw w1 v (List.replicate (38 + b1) 0)) (gR 31) wE := hq 13 31 (by decide) (by kernel_rfl)
  dsimp only at q13
  obtain ⟨v31, hv31⟩ : ∃ v, gR 31 = v := ⟨_, rfl⟩
  rw [hv31] at q13
  have q14 : (fun v w1 => (∃ a cc, v = .slice (some a) 3 cc) ∧ Pw w1 v [l, l.take m1, List.replicate (38 + b1) 0]) (gR 32) wE := hq 14 32 (by decide) (by kernel_rfl)
  dsimp only at q14
  obtain ⟨v32, hv32⟩ : ∃ v, gR 32 = v := ⟨_, rfl⟩
  rw [hv32] at q14
  have q15 : gR 33 = (.int .i64 3) := hq 15 33 (by decide) (by kernel_rfl)
  have q16 : gR 34 = (.int .i64 0) := hq 16 34 (by decide) (by kernel_rfl)
  refine ⟨fun _ => ?_, fun o ho => by simp at ho⟩
  simp only [putL, List.map_cons, List.map_nil, q0, q1, q2, q3, q4, q5, q6, q7, q8, q9, q10, q11, q12, hv31, hv32, q15, q16, Act.put, pu1, pu2, pu3]
  clear hq hSE q0 q1 q2 q3 q4 q5 q6 q7 q8 q9 q10 q11 q12 q15 q16
  obtain ⟨pl, cl, rfl, hcl, hat⟩ := q14.2.at (n := 3) rfl
  have HL := hid hat
  have hwE := hu1.trans huE
  clear hat q14 q13 E1 E2 E3 E4 E5 E6
  go_wp2_with fail
  go_loopg [34] 3 (fun gg tj wr => ∃ j : Nat, j ≤ 3 ∧ 3 - j ≤ gg ∧ tj = .int .i64 (j : Nat) ∧ Up wE wr)
  case atStart => exact ⟨0, by omega, Nat.le_refl _, rfl, Up.refl _⟩
  case round =>
    obtain ⟨j, hj, hjg, rfl, hur⟩ := hrel
    by_cases hlt : j < 3
    · have ei : IntKind.i64.wrap ((j : Int) + 1) = (j : Int) + 1 := IntWalk.i64_in _ (by omega)
      obtain ⟨aj, sj, mj, kj, rfl, hcj, hlj, hBj⟩ := HL.out j hlt
      have hcj := hur.cell hcj
      generalize [l, l.take m1, List.replicate (38 + b1) 0].getD j [] = x at *
      have HX := hid (fun w' (hu : Up wr w') => (hBj.up hur).up hu)
      have HLJ := hid hlj
      clear hBj hlj
      by_cases hf : 1 ≤ mj ∧ mj ≤ 40
      · obtain ⟨hf1, hf40⟩ := hf
        have HP := hid (pz_one (x := x) (by rw [HLJ.out]; exact hf1) (by rw [HLJ.out]; exact hf40))
        go_wp2_with (first
          | (go_at_call 8; with_reducible refine (put_any HLJ.out (HX.out _ (Up.refl _)) hf1 hf40).mono ?_; rintro e w4 ⟨v4, rfl, hv4, hu4⟩)
          | (go_at_call 9; with_reducible refine (rframe_any HLJ.out (HX.out _ hu4) hf1 hf40).mono ?_; rintro e w5 ⟨v5, rfl, hv5, hu5⟩; have hcv4 := conv_str (OwnU.bw (hv4.up hu5)); have hcv5 := conv_str (OwnU.bw hv5))
          | (go_at_call 10; refine (new_any _).mono ?_; rintro e w6 ⟨rfl, hP6, hu6⟩)
          | (go_at_call 11; with_reducible refine (feed_any (L := fr x) (l := []) (m := fr x) (b := 0) rfl hP6 (OwnU.bw (hv4.up (hu5.trans hu6))) (by rw [fr_len, HLJ.out]; simp; omega) (by decide)).mono ?_; rintro e w7 ⟨v7, rfl, hv7, hP7, hg7⟩; rw [HP.out] at hv7 hP7; dsimp only at hv7 hP7; obtain ⟨a7, c7, s7, m7, k7, rfl, hc7, hB7⟩ := hv7.lw.one_at; have hu7 : Up wr w7 := up_gb (hu4.trans (hu5.trans hu6)) hg7 (hu4.trans hu5).size; have huw := hwE.trans (hur.trans hu7)))
        refine wp_region_sg (n := 87) 22 [64, 65, 66, 67, 68, 69, 70, 71, 72, 73, 74, 75, 76, 77, 78, 79, 80, 81, 82, 83, 84, 85] [SG.is (.slice (some a7) 1 c7), SG.is (.int .i64 1), SG.is (.bool false), SG.tt false, SG.is (.slice (some a7) 1 c7), SG.is (.pointer (some a7)), SG.is (.slice s7 m7 k7), SG.is (.string (strB x)), SG.is (.slice sj mj kj), SG.is (.string (strB x)), SG.is (.bool false), SG.is (.bool false), SG.tt false, SG.is (.pointer (some ⟨w5.heap.size, 0, none⟩)), SG.is (.int .i64 0), SG.is (.bool false), SG.is (.bool false), SG.tt false, SG.is (.pointer (some ⟨w5.heap.size, 0, none⟩)), SG.is (.int .i64 0), SG.is (.bool false), SG.is (.bool false)] (fun wq => Up w7 wq ∧ Below w.heap.size w wq) (by kernel_rfl) (by rfl) (by kernel_rfl) (by kernel_rfl) (fun _ _ h hu => ⟨(h.1).trans hu, below_up (h.2) hu⟩) ⟨(by first | exact Up.refl _ | assumption), gUp⟩ (fun ev w9 hS9 i o hne hi hwt hev => ?_) (fun gR wE hq hSE huE => ?_)
        · have ⟨hS1, hSB⟩ := hS9
          have hcC := hev.const
          have hcF := hev.func
          have hcG := hev.global
          rcases i with _ | _ | _ | _ | _ | _ | _ | _ | _ | _ | _ | _ | _ | _ | _ | _ | _ | _ | _ | _ | _ | _ | i
          · obtain rfl := Option.some.inj (show some _ = some o from hi)
            have e12 := hev.other 12 (by kernel_rfl)
            simp [Act.eval] at e12
            exact leavesR_value (u := .slice (some a7) 1 c7) (by first | (go_simp; done) | (go_simp; exact rfl)) rfl
          · obtain rfl := Option.some.inj (show some _ = some o from hi)
            have e64 : ev (.tmp 64) = (.slice (some a7) 1 c7) := hev.dep 0 64 (by kernel_rfl)
            exact leavesR_value (u := .int .i64 1) (by first | (go_simp; done) | (go_simp; exact rfl)) rfl
          · obtain rfl := Option.some.inj (show some _ = some o from hi)
            have e65 : ev (.tmp 65) = (.int .i64 1) := hev.dep 1 65 (by kernel_rfl)
            exact leavesR_value (u := .bool false) (by first | (go_simp; done) | (go_simp; exact rfl)) rfl
          · obtain rfl := Option.some.inj (show some _ = some o from hi)
            have e66 : ev (.tmp 66) = (.bool false) := hev.dep 2 66 (by kernel_rfl)
            exact leavesR_value (u := .bool false) (by first | (go_simp; done) | (go_simp; exact rfl)) rfl
          · obtain rfl := Option.some.inj (show some _ = some o from hi)
            have e12 := hev.other 12 (by kernel_rfl)
            simp [Act.eval] at e12
            exact leavesR_value (u := .slice (some a7) 1 c7) (by first | (go_simp; done) | (go_simp; exact rfl)) rfl
          · obtain rfl := Option.some.inj (show some _ = some o from hi)
            have e68 : ev (.tmp 68) = (.slice (some a7) 1 c7) := hev.dep 4 68 (by kernel_rfl)
            exact leavesR_value (u := .pointer (some a7)) (by first | (go_simp; done) | (go_simp; exact rfl)) rfl
          · obtain rfl := Option.some.inj (show some _ = some o from hi)
            have e69 : ev (.tmp 69) = (.pointer (some a7)) := hev.dep 5 69 (by kernel_rfl)
            have hc9 := hS1.cell hc7; exact leavesR_value (u := .slice s7 m7 k7) (by go_simp) rfl
          · obtain rfl := Option.some.inj (show some _ = some o from hi)
            have e70 : ev (.tmp 70) = (.slice s7 m7 k7) := hev.dep 6 70 (by kernel_rfl)
            exact leavesR_value (run_cv e70 (hB7.bw.up hS1)) rfl
          · obtain rfl := Option.some.inj (show some _ = some o from hi)
            have e6 := hev.other 6 (by kernel_rfl)
            simp [Act.eval] at e6
            exact leavesR_value (u := .slice sj mj kj) (by first | (go_simp; done) | (go_simp; exact rfl)) rfl
          · obtain rfl := Option.some.inj (show some _ = some o from hi)
            have e72 : ev (.tmp 72) = (.slice sj mj kj) := hev.dep 8 72 (by kernel_rfl)
            exact leavesR_value (run_cv e72 (HX.out _ (hu7.trans hS1))) rfl
          · obtain rfl := Option.some.inj (show some _ = some o from hi)
            have e71 : ev (.tmp 71) = (.string (strB x)) := hev.dep 7 71 (by kernel_rfl)
            have e73 : ev (.tmp 73) = (.string (strB x)) := hev.dep 9 73 (by kernel_rfl)
            exact leavesR_value (u := .bool false) (by first | (go_simp; done) | (go_simp; exact rfl)) rfl
          · obtain rfl := Option.some.inj (show some _ = some o from hi)
            have e67 : ev (.tmp 67) = (.bool false) := hev.dep 3 67 (by kernel_rfl)
            have e74 : ev (.tmp 74) = (.bool false) := hev.dep 10 74 (by kernel_rfl)
            exact leavesR_value (u := .bool false) (by first | (go_simp; done) | (go_simp; exact rfl)) rfl
          · obtain rfl := Option.some.inj (show some _ = some o from hi)
            have e75 : ev (.tmp 75) = (.bool false) := hev.dep 11 75 (by kernel_rfl)
            exact leavesR_value (u := .bool false) (by first | (go_simp; done) | (go_simp; exact rfl)) rfl
          · obtain rfl := Option.some.inj (show some _ = some o from hi)
            have e11 := hev.other 11 (by kernel_rfl)
            simp [Act.eval] at e11
            exact leavesR_value (u := .pointer (some ⟨w5.heap.size, 0, none⟩)) (by first | (go_simp; done) | (go_simp; exact rfl)) rfl
          · obtain rfl := Option.some.inj (show some _ = some o from hi)
            have e77 : ev (.tmp 77) = (.pointer (some ⟨w5.heap.size, 0, none⟩)) := hev.dep 13 77 (by kernel_rfl)
            refine leavesR_call ?_ ((left_any (l := []) (hP7.up hS1)).mono fun _ _ h => ⟨h.2 ▸ Up.refl _, _, h.1, rfl⟩)
            go_simp
          · obtain rfl := Option.some.inj (show some _ = some o from hi)
            have e78 : ev (.tmp 78) = (.int .i64 0) := hev.dep 14 78 (by kernel_rfl)
            exact leavesR_value (u := .bool false) (by first | (go_simp; done) | (go_simp; exact rfl)) rfl
          · obtain rfl := Option.some.inj (show some _ = some o from hi)
            have e76 : ev (.tmp 76) = (.bool false) := hev.dep 12 76 (by kernel_rfl)
            have e79 : ev (.tmp 79) = (.bool false) := hev.dep 15 79 (by kernel_rfl)
            exact leavesR_value (u := .bool false) (by first | (go_simp; done) | (go_simp; exact rfl)) rfl
          · obtain rfl := Option.some.inj (show some _ = some o from hi)
            have e80 : ev (.tmp 80) = (.bool false) := hev.dep 16 80 (by kernel_rfl)
            exact leavesR_value (u := .bool false) (by first | (go_simp; done) | (go_simp; exact rfl)) rfl
          · obtain rfl := Option.some.inj (show some _ = some o from hi)
            have e11 := hev.other 11 (by kernel_rfl)
            simp [Act.eval] at e11
            exact leavesR_value (u := .pointer (some ⟨w5.heap.size, 0, none⟩)) (by first | (go_simp; done) | (go_simp; exact rfl)) rfl
          · obtain rfl := Option.some.inj (show some _ = some o from hi)
            have e82 : ev (.tmp 82) = (.pointer (some ⟨w5.heap.size, 0, none⟩)) := hev.dep 18 82 (by kernel_rfl)
            refine leavesR_call ?_ ((bad_any (b := 0) (hP7.up hS1)).mono fun _ _ h => ⟨h.2 ▸ Up.refl _, _, h.1, rfl⟩)
            go_simp
          · obtain rfl := Option.some.inj (show some _ = some o from hi)
            have e83 : ev (.tmp 83) = (.int .i64 0) := hev.dep 19 83 (by kernel_rfl)
            exact leavesR_value (u := .bool false) (by first | (go_simp; done) | (go_simp; exact rfl)) rfl
          · obtain rfl := Option.some.inj (show some _ = some o from hi)
            have e81 : ev (.tmp 81) = (.bool false) := hev.dep 17 81 (by kernel_rfl)
            have e84 : ev (.tmp 84) = (.bool false) := hev.dep 20 84 (by kernel_rfl)
            exact leavesR_value (u := .bool false) (by first | (go_simp; done) | (go_simp; exact rfl)) rfl
          · exact absurd (show i + 22 < 22 from (Array.getElem?_eq_some_iff.1 hi).1) (by omega)
        have ⟨hS1, hSB⟩ := hSE
        have q0 : gR 64 = (.slice (some a7) 1 c7) := hq 0 64 (by decide) (by kernel_rfl)
        have q1 : gR 65 = (.int .i64 1) := hq 1 65 (by decide) (by kernel_rfl)
        have q2 : gR 66 = (.bool false) := hq 2 66 (by decide) (by kernel_rfl)
        have q3 : gR 67 = (.bool false) := hq 3 67 (by decide) (by kernel_rfl)
        have q4 : gR 68 = (.slice (some a7) 1 c7) := hq 4 68 (by decide) (by kernel_rfl)
        have q5 : gR 69 = (.pointer (some a7)) := hq 5 69 (by decide) (by kernel_rfl)
        have q6 : gR 70 = (.slice s7 m7 k7) := hq 6 70 (by decide) (by kernel_rfl)
        have q7 : gR 71 = (.string (strB x)) := hq 7 71 (by decide) (by kernel_rfl)
        have q8 : gR 72 = (.slice sj mj kj) := hq 8 72 (by decide) (by kernel_rfl)
        have q9 : gR 73 = (.string (strB x)) := hq 9 73 (by decide) (by kernel_rfl)
        have q10 : gR 74 = (.bool false) := hq 10 74 (by decide) (by kernel_rfl)
        have q11 : gR 75 = (.bool false) := hq 11 75 (by decide) (by kernel_rfl)
        have q12 : gR 76 = (.bool false) := hq 12 76 (by decide) (by kernel_rfl)
        have q13 : gR 77 = (.pointer (some ⟨w5.heap.size, 0, none⟩)) := hq 13 77 (by decide) (by kernel_rfl)
        have q14 : gR 78 = (.int .i64 0) := hq 14 78 (by decide) (by kernel_rfl)
        have q15 : gR 79 = (.bool false) := hq 15 79 (by decide) (by kernel_rfl)
        have q16 : gR 80 = (.bool false) := hq 16 80 (by decide) (by kernel_rfl)
        have q17 : gR 81 = (.bool false) := hq 17 81 (by decide) (by kernel_rfl)
        have q18 : gR 82 = (.pointer (some ⟨w5.heap.size, 0, none⟩)) := hq 18 82 (by decide) (by kernel_rfl)
        have q19 : gR 83 = (.int .i64 0) := hq 19 83 (by decide) (by kernel_rfl)
        have q20 : gR 84 = (.bool false) := hq 20 84 (by decide) (by kernel_rfl)
        have q21 : gR 85 = (.bool false) := hq 21 85 (by decide) (by kernel_rfl)
        refine ⟨fun _ => ?_, fun o ho => by simp at ho⟩
        simp only [putL, List.map_cons, List.map_nil, q0, q1, q2, q3, q4, q5, q6, q7, q8, q9, q10, q11, q12, q13, q14, q15, q16, q17, q18, q19, q20, q21, Act.put, pu1, pu2, pu3]
        clear hq hSE q0 q1 q2 q3 q4 q5 q6 q7 q8 q9 q10 q11 q12 q13 q14 q15 q16 q17 q18 q19 q20 q21
        go_wp2_with fail
        go_roundg (3 - (j + 1))
        case measure => omega
        case rel => exact ⟨j + 1, by omega, Nat.le_refl _, rfl, hur.trans (hu7.trans huE)⟩
      · have hcn := fun w0 => conv_str (w := w0) (Bw.nil (p := none) (cap := 0) fun _ => rfl)
        go_wp2_with (first
          | (go_at_call 8; with_reducible refine (put_no hf).mono ?_; rintro e w4 ⟨rfl, rfl⟩)
          | (go_at_call 9; with_reducible refine (rframe_no hf).mono ?_; rintro e w5 ⟨rfl, rfl⟩))
        go_roundg (3 - (j + 1))
        case measure => omega
        case rel => exact ⟨j + 1, by omega, Nat.le_refl _, rfl, hur⟩
    · obtain rfl : j = 3 := by omega
      clear hlt hj
      go_wp2_with fail
      go_ret
      exact ⟨rfl, hwE.trans hur⟩
theorem back_row {w : World} {p : Option Addr} {len cap : Nat} {z : List Int} {n : Int} (w0 : (p = none ∧ len = 0 ∧ cap = 0 ∧ z = []) ∨
    ∃ x, p = some x ∧ len ≤ cap ∧ cap ≤ maxLen ∧ z.length = cap ∧ (∀ i, i < z.length → w.cell? (x.add i) = some (.int .u8 (z.getD i 0))) ∧ ∀ n ∈ z, (Lit.int .u8 n).wf = true) (w1 : (Lit.int .u8 n).wf = true) :
    Calls Try.prog 3 #[.slice p len cap, .int .u8 n] w fun e w' => e = .returned (.bool true) ∧ Below w.heap.size w w' := by
  by_cases h : 200 < len
  · exact back_big _ _ _ h
  · obtain ⟨n, rfl, hn⟩ := wf_nat (m := 255) w1 IntKind.min_u8 IntKind.max_u8
    obtain ⟨l, rfl, hB⟩ := bw_in w0 (by omega)
    exact back_any rfl hB (by omega) hn
end Go.Proofs.Ytmpikkhfeogdcaa
