/-
  Checksums: the sum of any bytes, wherever they are parted (CrcTells).
-/
import Derived.Test.YtlllaieoinehaaaCr4
namespace Go.Proofs.Ytlllaieoinehaaa
open Go Go.RowKit
set_option maxRecDepth 100000

theorem crW_lt {w : World} {v : Value} {l : List Nat} (h : Bw w v l) : crL 65535 l < 65536 := crL_lt (by decide) h.lt
theorem Bw.cap {w : World} {p : Option Addr} {n cap : Nat} {l : List Nat} (h : Bw w (.slice p n cap) l) : n ≤ cap := by
  obtain ⟨p', cap', e, hcap, _⟩ := h
  injection e with e1 e2 e3
  omega
theorem Bw.one {w : World} {g : Nat} {t : TypeId} {fr : Nat × Nat} {c : Nat} (hB : w.heap[g]? = some (.cells #[.int .u8 (c : Int)] t fr)) (hc : c < 256) : Bw w (.slice (some ⟨g, 0, none⟩) 1 1) [c] :=
  Bw.mk (l := [c]) hB (by simp) (by simp) (by simp; exact hc) fun i hi => by
    have h0 : i = 0 := by simp at hi; exact hi
    subst h0
    rfl
theorem flat_cut (l : List Nat) (i : Nat) : [l.take i, [], l.drop i].flatten = l := by simp
theorem flat_more (l : List Nat) (c : Nat) : crL 65535 [l, [c]].flatten = crM (crL 65535 l) c := by
  rw [show [l, [c]].flatten = l ++ [c] by simp, crL_app, crL_cons, crL_nil]
set_option maxHeartbeats 1000000 in
theorem tells_any {w : World} {p : Option Addr} {n cap : Nat} {l : List Nat} {a s c : Nat} (hn : l.length = n) (hB : Bw w (.slice p n cap) l) (h200 : n ≤ 200) (ha : a < 256) (hs : s < 65536) (hc : c < 256) :
    Calls Try.prog 3 #[.slice p n cap, .int .u8 (a : Int), .int .u16 (s : Int), .int .u8 (c : Int)] w fun e w' => e = .returned (.bool true) ∧ Up w w' := by
  have HK := hid known_true
  have HB := hid (fun w' (hu : Up w w') => hB.up hu)
  have HR := hid (fun w' (hu : Up w w') => rsum_any (hB.up hu))
  have HW1 := hid (crW_lt hB)
  have HC := hid hB.cap
  have e1 : (a : Int).tmod ((n : Int) + 1) = ((a % (n + 1) : Nat) : Int) := by rw [show (n : Int) + 1 = ((n + 1 : Nat) : Int) by omega]; exact (Int.ofNat_tmod a (n + 1)).symm
  have e2 : ((n : Int) + 1 == 0) = false := by simp; omega
  have hx : a % (n + 1) ≤ n := by have := Nat.mod_lt a (show 0 < n + 1 by omega); omega
  generalize a % (n + 1) = x at *
  go_enter Try.func3, Try.ntmps3
  go_wp2_with (first
    | (go_at_call 6; with_reducible refine (HK.out _).mono ?_; rintro e w1 ⟨rfl, hu1⟩)
    | (go_at_call 7; with_reducible refine (HR.out _ hu1).mono ?_; rintro e w2 ⟨rfl, rfl⟩))
  have h1 := HW1.out
  obtain ⟨W, hWe⟩ : ∃ W, crL 65535 l = W := ⟨_, rfl⟩
  rw [hWe] at h1 ⊢
  have HX := hid hWe
  have hcap := HC.out
  clear hWe e1 e2
  refine wp_region_sg (n := 61) 38 [24, 25, 26, 27, 28, 29, 30, 31, 32, 33, 34, 35, 36, 37, 38, 39, 40, 41, 42, 43, 44, 45, 46, 47, 48, 49, 50, 51, 52, 53, 54, 55, 56, 57, 58, 59, 60, 8] [SG.is (.slice p n cap), SG.of (fun v w1 => Pw w1 v [l]) (fun _ _ _ h hu => h.up hu), SG.is (.int .u16 (W : Int)), SG.is (.int .u16 (W : Int)), SG.is (.bool true), SG.tt true, SG.is (.slice p n cap), SG.is (.int .i64 (x : Int)), SG.is (.slice p x cap), SG.is (.slice p n cap), SG.is (.int .i64 (x : Int)), SG.is (.slice (fromP p cap x) (n - x) (cap - x)), SG.of (fun v w1 => Pw w1 v [l.take x, [], l.drop x]) (fun _ _ _ h hu => h.up hu), SG.is (.int .u16 (W : Int)), SG.is (.int .u16 (W : Int)), SG.is (.bool true), SG.is (.bool true), SG.tt true, SG.is (.int .u16 (s : Int)), SG.is (.int .u8 (c : Int)), SG.is (.int .u16 ((crM s c : Nat) : Int)), SG.is (.int .u16 (s : Int)), SG.is (.int .u8 (c : Int)), SG.is (.int .u16 ((crM s c : Nat) : Int)), SG.is (.bool true), SG.is (.bool true), SG.tt true, SG.is (.int .u16 (W : Int)), SG.is (.int .u8 (c : Int)), SG.is (.int .u16 ((crM W c : Nat) : Int)), SG.is (.slice p n cap), SG.is (.int .u8 (c : Int)), SG.of (fun v w1 => (∃ q m k, v = .slice q m k) ∧ Bw w1 v [c]) (fun _ _ _ h hu => ⟨h.1, h.2.up hu⟩), SG.of (fun v w1 => Pw w1 v [l, [c]]) (fun _ _ _ h hu => h.up hu), SG.is (.int .u16 ((crM W c : Nat) : Int)), SG.is (.bool true), SG.is (.bool true), SG.is (.bool true)] (fun wq => Up w2 wq ∧ Below w.heap.size w wq) (by kernel_rfl) (by rfl) (by kernel_rfl) (by kernel_rfl) (fun _ _ h hu => ⟨(h.1).trans hu, below_up (h.2) hu⟩) ⟨(by first | exact Up.refl _ | assumption), gUp⟩ (fun ev w9 hS9 i o hne hi hwt hev => ?_) (fun gR wE hq hSE huE => ?_)
  · have ⟨hS1, hSB⟩ := hS9
    have hcC := hev.const
    have hcF := hev.func
    have hcG := hev.global
    rcases i with _ | _ | _ | _ | _ | _ | _ | _ | _ | _ | _ | _ | _ | _ | _ | _ | _ | _ | _ | _ | _ | _ | _ | _ | _ | _ | _ | _ | _ | _ | _ | _ | _ | _ | _ | _ | _ | _ | i
    · obtain rfl := Option.some.inj (show some _ = some o from hi)
      have e0 := hev.other 0 (by kernel_rfl)
      simp [Act.eval] at e0
      exact leavesR_value (u := .slice p n cap) (by first | (go_simp; done) | (go_simp; exact rfl)) rfl
    · obtain rfl := Option.some.inj (show some _ = some o from hi)
      have e24 : ev (.tmp 24) = (.slice p n cap) := hev.dep 0 24 (by kernel_rfl)
      exact leavesR_up (u := .slice (some ⟨w9.heap.size, 0, none⟩) 1 1) (w' := w9.alloc (.cells #[.slice p n cap] 22)) (by go_simp) (Up.alloc _ _) (Pw.one (new_at rfl) (HB.out _ ((hu1.trans hS1).trans (Up.alloc _ _))))
    · obtain rfl := Option.some.inj (show some _ = some o from hi)
      have e25 : (fun v w1 => Pw w1 v [l]) (ev (.tmp 25)) w9 := hev.dep 1 25 (by kernel_rfl)
      dsimp only at e25
      obtain ⟨v25, hv25⟩ : ∃ v, ev (.tmp 25) = v := ⟨_, rfl⟩
      rw [hv25] at e25
      refine leavesR_call ?_ ((sum_is e25 (by rw [flat_one]; exact HX.out)).mono fun _ _ h => ⟨h.2 ▸ Up.refl _, _, h.1, rfl⟩)
      go_simp
    · obtain rfl := Option.some.inj (show some _ = some o from hi)
      have e10 := hev.other 10 (by kernel_rfl)
      simp [Act.eval] at e10
      exact leavesR_value (u := .int .u16 (W : Int)) (by first | (go_simp; done) | (go_simp; exact rfl)) rfl
    · obtain rfl := Option.some.inj (show some _ = some o from hi)
      have e26 : ev (.tmp 26) = (.int .u16 (W : Int)) := hev.dep 2 26 (by kernel_rfl)
      have e27 : ev (.tmp 27) = (.int .u16 (W : Int)) := hev.dep 3 27 (by kernel_rfl)
      exact leavesR_value (u := .bool true) (by first | (go_simp; done) | (go_simp; exact rfl)) rfl
    · obtain rfl := Option.some.inj (show some _ = some o from hi)
      have e28 : ev (.tmp 28) = (.bool true) := hev.dep 4 28 (by kernel_rfl)
      exact leavesR_value (u := .bool true) (by first | (go_simp; done) | (go_simp; exact rfl)) rfl
    · obtain rfl := Option.some.inj (show some _ = some o from hi)
      have e0 := hev.other 0 (by kernel_rfl)
      simp [Act.eval] at e0
      exact leavesR_value (u := .slice p n cap) (by first | (go_simp; done) | (go_simp; exact rfl)) rfl
    · obtain rfl := Option.some.inj (show some _ = some o from hi)
      have e9 := hev.other 9 (by kernel_rfl)
      simp [Act.eval] at e9
      exact leavesR_value (u := .int .i64 (x : Int)) (by first | (go_simp; done) | (go_simp; exact rfl)) rfl
    · obtain rfl := Option.some.inj (show some _ = some o from hi)
      have e30 : ev (.tmp 30) = (.slice p n cap) := hev.dep 6 30 (by kernel_rfl)
      have e31 : ev (.tmp 31) = (.int .i64 (x : Int)) := hev.dep 7 31 (by kernel_rfl)
      exact leavesR_value (run_to hx hcap e30 e31) rfl
    · obtain rfl := Option.some.inj (show some _ = some o from hi)
      have e0 := hev.other 0 (by kernel_rfl)
      simp [Act.eval] at e0
      exact leavesR_value (u := .slice p n cap) (by first | (go_simp; done) | (go_simp; exact rfl)) rfl
    · obtain rfl := Option.some.inj (show some _ = some o from hi)
      have e9 := hev.other 9 (by kernel_rfl)
      simp [Act.eval] at e9
      exact leavesR_value (u := .int .i64 (x : Int)) (by first | (go_simp; done) | (go_simp; exact rfl)) rfl
    · obtain rfl := Option.some.inj (show some _ = some o from hi)
      have e33 : ev (.tmp 33) = (.slice p n cap) := hev.dep 9 33 (by kernel_rfl)
      have e34 : ev (.tmp 34) = (.int .i64 (x : Int)) := hev.dep 10 34 (by kernel_rfl)
      exact leavesR_value (run_from hx e33 e34) rfl
    · obtain rfl := Option.some.inj (show some _ = some o from hi)
      have e32 : ev (.tmp 32) = (.slice p x cap) := hev.dep 8 32 (by kernel_rfl)
      have e35 : ev (.tmp 35) = (.slice (fromP p cap x) (n - x) (cap - x)) := hev.dep 11 35 (by kernel_rfl)
      exact leavesR_up (u := .slice (some ⟨w9.heap.size, 0, none⟩) 3 3) (w' := w9.alloc (.cells #[.slice p x cap, .slice none 0 0, .slice (fromP p cap x) (n - x) (cap - x)] 22)) (by go_simp) (Up.alloc _ _) (Pw.three (new_at rfl) (Bw.take hn (HB.out _ ((hu1.trans hS1).trans (Up.alloc _ _))) hx) (Bw.nil fun _ => rfl) (Bw.drop hn (HB.out _ ((hu1.trans hS1).trans (Up.alloc _ _))) hx))
    · obtain rfl := Option.some.inj (show some _ = some o from hi)
      have e36 : (fun v w1 => Pw w1 v [l.take x, [], l.drop x]) (ev (.tmp 36)) w9 := hev.dep 12 36 (by kernel_rfl)
      dsimp only at e36
      obtain ⟨v36, hv36⟩ : ∃ v, ev (.tmp 36) = v := ⟨_, rfl⟩
      rw [hv36] at e36
      refine leavesR_call ?_ ((sum_is e36 (by rw [flat_cut]; exact HX.out)).mono fun _ _ h => ⟨h.2 ▸ Up.refl _, _, h.1, rfl⟩)
      go_simp
    · obtain rfl := Option.some.inj (show some _ = some o from hi)
      have e10 := hev.other 10 (by kernel_rfl)
      simp [Act.eval] at e10
      exact leavesR_value (u := .int .u16 (W : Int)) (by first | (go_simp; done) | (go_simp; exact rfl)) rfl
    · obtain rfl := Option.some.inj (show some _ = some o from hi)
      have e37 : ev (.tmp 37) = (.int .u16 (W : Int)) := hev.dep 13 37 (by kernel_rfl)
      have e38 : ev (.tmp 38) = (.int .u16 (W : Int)) := hev.dep 14 38 (by kernel_rfl)
      exact leavesR_value (u := .bool true) (by first | (go_simp; done) | (go_simp; exact rfl)) rfl
    · obtain rfl := Option.some.inj (show some _ = some o from hi)
      have e29 : ev (.tmp 29) = (.bool true) := hev.dep 5 29 (by kernel_rfl)
      have e39 : ev (.tmp 39) = (.bool true) := hev.dep 15 39 (by kernel_rfl)
      exact leavesR_value (u := .bool true) (by first | (go_simp; done) | (go_simp; exact rfl)) rfl
    · obtain rfl := Option.some.inj (show some _ = some o from hi)
      have e40 : ev (.tmp 40) = (.bool true) := hev.dep 16 40 (by kernel_rfl)
      exact leavesR_value (u := .bool true) (by first | (go_simp; done) | (go_simp; exact rfl)) rfl
    · obtain rfl := Option.some.inj (show some _ = some o from hi)
      have e2 := hev.other 2 (by kernel_rfl)
      simp [Act.eval] at e2
      exact leavesR_value (u := .int .u16 (s : Int)) (by first | (go_simp; done) | (go_simp; exact rfl)) rfl
    · obtain rfl := Option.some.inj (show some _ = some o from hi)
      have e3 := hev.other 3 (by kernel_rfl)
      simp [Act.eval] at e3
      exact leavesR_value (u := .int .u8 (c : Int)) (by first | (go_simp; done) | (go_simp; exact rfl)) rfl
    · obtain rfl := Option.some.inj (show some _ = some o from hi)
      have e42 : ev (.tmp 42) = (.int .u16 (s : Int)) := hev.dep 18 42 (by kernel_rfl)
      have e43 : ev (.tmp 43) = (.int .u8 (c : Int)) := hev.dep 19 43 (by kernel_rfl)
      refine leavesR_call ?_ ((more_any s c hs hc _).mono fun _ _ h => ⟨h.2 ▸ Up.refl _, _, h.1, rfl⟩)
      go_simp
    · obtain rfl := Option.some.inj (show some _ = some o from hi)
      have e2 := hev.other 2 (by kernel_rfl)
      simp [Act.eval] at e2
      exact leavesR_value (u := .int .u16 (s : Int)) (by first | (go_simp; done) | (go_simp; exact rfl)) rfl
    · obtain rfl := Option.some.inj (show some _ = some o from hi)
      have e3 := hev.other 3 (by kernel_rfl)
      simp [Act.eval] at e3
      exact leavesR_value (u := .int .u8 (c : Int)) (by first | (go_simp; done) | (go_simp; exact rfl)) rfl
    · obtain rfl := Option.some.inj (show some _ = some o from hi)
      have e45 : ev (.tmp 45) = (.int .u16 (s : Int)) := hev.dep 21 45 (by kernel_rfl)
      have e46 : ev (.tmp 46) = (.int .u8 (c : Int)) := hev.dep 22 46 (by kernel_rfl)
      refine leavesR_call ?_ ((rmore_any s c hs hc _).mono fun _ _ h => ⟨h.2 ▸ Up.refl _, _, h.1, rfl⟩)
      go_simp
    · obtain rfl := Option.some.inj (show some _ = some o from hi)
      have e44 : ev (.tmp 44) = (.int .u16 ((crM s c : Nat) : Int)) := hev.dep 20 44 (by kernel_rfl)
      have e47 : ev (.tmp 47) = (.int .u16 ((crM s c : Nat) : Int)) := hev.dep 23 47 (by kernel_rfl)
      exact leavesR_value (u := .bool true) (by first | (go_simp; done) | (go_simp; exact rfl)) rfl
    · obtain rfl := Option.some.inj (show some _ = some o from hi)
      have e41 : ev (.tmp 41) = (.bool true) := hev.dep 17 41 (by kernel_rfl)
      have e48 : ev (.tmp 48) = (.bool true) := hev.dep 24 48 (by kernel_rfl)
      exact leavesR_value (u := .bool true) (by first | (go_simp; done) | (go_simp; exact rfl)) rfl
    · obtain rfl := Option.some.inj (show some _ = some o from hi)
      have e49 : ev (.tmp 49) = (.bool true) := hev.dep 25 49 (by kernel_rfl)
      exact leavesR_value (u := .bool true) (by first | (go_simp; done) | (go_simp; exact rfl)) rfl
    · obtain rfl := Option.some.inj (show some _ = some o from hi)
      have e10 := hev.other 10 (by kernel_rfl)
      simp [Act.eval] at e10
      exact leavesR_value (u := .int .u16 (W : Int)) (by first | (go_simp; done) | (go_simp; exact rfl)) rfl
    · obtain rfl := Option.some.inj (show some _ = some o from hi)
      have e3 := hev.other 3 (by kernel_rfl)
      simp [Act.eval] at e3
      exact leavesR_value (u := .int .u8 (c : Int)) (by first | (go_simp; done) | (go_simp; exact rfl)) rfl
    · obtain rfl := Option.some.inj (show some _ = some o from hi)
      have e51 : ev (.tmp 51) = (.int .u16 (W : Int)) := hev.dep 27 51 (by kernel_rfl)
      have e52 : ev (.tmp 52) = (.int .u8 (c : Int)) := hev.dep 28 52 (by kernel_rfl)
      refine leavesR_call ?_ ((more_any W c h1 hc _).mono fun _ _ h => ⟨h.2 ▸ Up.refl _, _, h.1, rfl⟩)
      go_simp
    · obtain rfl := Option.some.inj (show some _ = some o from hi)
      have e0 := hev.other 0 (by kernel_rfl)
      simp [Act.eval] at e0
      exact leavesR_value (u := .slice p n cap) (by first | (go_simp; done) | (go_simp; exact rfl)) rfl
    · obtain rfl := Option.some.inj (show some _ = some o from hi)
      have e3 := hev.other 3 (by kernel_rfl)
      simp [Act.eval] at e3
      exact leavesR_value (u := .int .u8 (c : Int)) (by first | (go_simp; done) | (go_simp; exact rfl)) rfl
    · obtain rfl := Option.some.inj (show some _ = some o from hi)
      have e55 : ev (.tmp 55) = (.int .u8 (c : Int)) := hev.dep 31 55 (by kernel_rfl)
      exact leavesR_up (u := .slice (some ⟨w9.heap.size, 0, none⟩) 1 1) (w' := w9.alloc (.cells #[.int .u8 (c : Int)] 5)) (by go_simp) (Up.alloc _ _) ⟨⟨_, _, _, rfl⟩, Bw.one (new_at rfl) hc⟩
    · obtain rfl := Option.some.inj (show some _ = some o from hi)
      have e54 : ev (.tmp 54) = (.slice p n cap) := hev.dep 30 54 (by kernel_rfl)
      have e56 : (fun v w1 => (∃ q m k, v = .slice q m k) ∧ Bw w1 v [c]) (ev (.tmp 56)) w9 := hev.dep 32 56 (by kernel_rfl)
      dsimp only at e56
      obtain ⟨v56, hv56⟩ : ∃ v, ev (.tmp 56) = v := ⟨_, rfl⟩
      rw [hv56] at e56
      obtain ⟨⟨q, m, k, rfl⟩, hE⟩ := e56; exact leavesR_up (u := .slice (some ⟨w9.heap.size, 0, none⟩) 2 2) (w' := w9.alloc (.cells #[.slice p n cap, .slice q m k] 22)) (by go_simp) (Up.alloc _ _) (Pw.two (new_at rfl) (HB.out _ ((hu1.trans hS1).trans (Up.alloc _ _))) (hE.up (Up.alloc _ _)))
    · obtain rfl := Option.some.inj (show some _ = some o from hi)
      have e57 : (fun v w1 => Pw w1 v [l, [c]]) (ev (.tmp 57)) w9 := hev.dep 33 57 (by kernel_rfl)
      dsimp only at e57
      obtain ⟨v57, hv57⟩ : ∃ v, ev (.tmp 57) = v := ⟨_, rfl⟩
      rw [hv57] at e57
      refine leavesR_call ?_ ((sum_is e57 (by rw [flat_more, HX.out])).mono fun _ _ h => ⟨h.2 ▸ Up.refl _, _, h.1, rfl⟩)
      go_simp
    · obtain rfl := Option.some.inj (show some _ = some o from hi)
      have e53 : ev (.tmp 53) = (.int .u16 ((crM W c : Nat) : Int)) := hev.dep 29 53 (by kernel_rfl)
      have e58 : ev (.tmp 58) = (.int .u16 ((crM W c : Nat) : Int)) := hev.dep 34 58 (by kernel_rfl)
      exact leavesR_value (u := .bool true) (by first | (go_simp; done) | (go_simp; exact rfl)) rfl
    · obtain rfl := Option.some.inj (show some _ = some o from hi)
      have e50 : ev (.tmp 50) = (.bool true) := hev.dep 26 50 (by kernel_rfl)
      have e59 : ev (.tmp 59) = (.bool true) := hev.dep 35 59 (by kernel_rfl)
      exact leavesR_value (u := .bool true) (by first | (go_simp; done) | (go_simp; exact rfl)) rfl
    · obtain rfl := Option.some.inj (show some _ = some o from hi)
      have e60 : ev (.tmp 60) = (.bool true) := hev.dep 36 60 (by kernel_rfl)
      exact leavesR_value (u := .bool true) (by first | (go_simp; done) | (go_simp; exact rfl)) rfl
    · exact absurd (show i + 38 < 38 from (Array.getElem?_eq_some_iff.1 hi).1) (by omega)
  have ⟨hS1, hSB⟩ := hSE
  have q0 : gR 24 = (.slice p n cap) := hq 0 24 (by decide) (by kernel_rfl)
  have q1 : (fun v w1 => Pw w1 v [l]) (gR 25) wE := hq 1 25 (by decide) (by kernel_rfl)
  dsimp only at q1
  obtain ⟨v25, hv25⟩ : ∃ v, gR 25 = v := ⟨_, rfl⟩
  rw [hv25] at q1
  have q2 : gR 26 = (.int .u16 (W : Int)) := hq 2 26 (by decide) (by kernel_rfl)
  have q3 : gR 27 = (.int .u16 (W : Int)) := hq 3 27 (by decide) (by kernel_rfl)
  have q4 : gR 28 = (.bool true) := hq 4 28 (by decide) (by kernel_rfl)
  have q5 : gR 29 = (.bool true) := hq 5 29 (by decide) (by kernel_rfl)
  have q6 : gR 30 = (.slice p n cap) := hq 6 30 (by decide) (by kernel_rfl)
  have q7 : gR 31 = (.int .i64 (x : Int)) := hq 7 31 (by decide) (by kernel_rfl)
  have q8 : gR 32 = (.slice p x cap) := hq 8 32 (by decide) (by kernel_rfl)
  have q9 : gR 33 = (.slice p n cap) := hq 9 33 (by decide) (by kernel_rfl)
  have q10 : gR 34 = (.int .i64 (x : Int)) := hq 10 34 (by decide) (by kernel_rfl)
  have q11 : gR 35 = (.slice (fromP p cap x) (n - x) (cap - x)) := hq 11 35 (by decide) (by kernel_rfl)
  have q12 : (fun v w1 => Pw w1 v [l.take x, [], l.drop x]) (gR 36) wE := hq 12 36 (by decide) (by kernel_rfl)
  dsimp only at q12
  obtain ⟨v36, hv36⟩ : ∃ v, gR 36 = v := ⟨_, rfl⟩
  rw [hv36] at q12
  have q13 : gR 37 = (.int .u16 (W : Int)) := hq 13 37 (by decide) (by kernel_rfl)
  have q14 : gR 38 = (.int .u16 (W : Int)) := hq 14 38 (by decide) (by kernel_rfl)
  have q15 : gR 39 = (.bool true) := hq 15 39 (by decide) (by kernel_rfl)
  have q16 : gR 40 = (.bool true) := hq 16 40 (by decide) (by kernel_rfl)
  have q17 : gR 41 = (.bool true) := hq 17 41 (by decide) (by kernel_rfl)
  have q18 : gR 42 = (.int .u16 (s : Int)) := hq 18 42 (by decide) (by kernel_rfl)
  have q19 : gR 43 = (.int .u8 (c : Int)) := hq 19 43 (by decide) (by kernel_rfl)
  have q20 : gR 44 = (.int .u16 ((crM s c : Nat) : Int)) := hq 20 44 (by decide) (by kernel_rfl)
  have q21 : gR 45 = (.int .u16 (s : Int)) := hq 21 45 (by decide) (by kernel_rfl)
  have q22 : gR 46 = (.int .u8 (c : Int)) := hq 22 46 (by decide) (by kernel_rfl)
  have q23 : gR 47 = (.int .u16 ((crM s c : Nat) : Int)) := hq 23 47 (by decide) (by kernel_rfl)
  have q24 : gR 48 = (.bool true) := hq 24 48 (by decide) (by kernel_rfl)
  have q25 : gR 49 = (.bool true) := hq 25 49 (by decide) (by kernel_rfl)
  have q26 : gR 50 = (.bool true) := hq 26 50 (by decide) (by kernel_rfl)
  have q27 : gR 51 = (.int .u16 (W : Int)) := hq 27 51 (by decide) (by kernel_rfl)
  have q28 : gR 52 = (.int .u8 (c : Int)) := hq 28 52 (by decide) (by kernel_rfl)
  have q29 : gR 53 = (.int .u16 ((crM W c : Nat) : Int)) := hq 29 53 (by decide) (by kernel_rfl)
  have q30 : gR 54 = (.slice p n cap) := hq 30 54 (by decide) (by kernel_rfl)
  have q31 : gR 55 = (.int .u8 (c : Int)) := hq 31 55 (by decide) (by kernel_rfl)
  have q32 : (fun v w1 => (∃ q m k, v = .slice q m k) ∧ Bw w1 v [c]) (gR 56) wE := hq 32 56 (by decide) (by kernel_rfl)
  dsimp only at q32
  obtain ⟨v56, hv56⟩ : ∃ v, gR 56 = v := ⟨_, rfl⟩
  rw [hv56] at q32
  have q33 : (fun v w1 => Pw w1 v [l, [c]]) (gR 57) wE := hq 33 57 (by decide) (by kernel_rfl)
  dsimp only at q33
  obtain ⟨v57, hv57⟩ : ∃ v, gR 57 = v := ⟨_, rfl⟩
  rw [hv57] at q33
  have q34 : gR 58 = (.int .u16 ((crM W c : Nat) : Int)) := hq 34 58 (by decide) (by kernel_rfl)
  have q35 : gR 59 = (.bool true) := hq 35 59 (by decide) (by kernel_rfl)
  have q36 : gR 60 = (.bool true) := hq 36 60 (by decide) (by kernel_rfl)
  have q37 : gR 8 = (.bool true) := hq 37 8 (by decide) (by kernel_rfl)
  refine ⟨fun _ => ?_, fun o ho => by simp at ho⟩
  simp only [putL, List.map_cons, List.map_nil, q0, hv25, q2, q3, q4, q5, q6, q7, q8, q9, q10, q11, hv36, q13, q14, q15, q16, q17, q18, q19, q20, q21, q22, q23, q24, q25, q26, q27, q28, q29, q30, q31, hv56, hv57, q34, q35, q36, q37, Act.put, pu1, pu2, pu3]
  clear hq hSE q0 q2 q3 q4 q5 q6 q7 q8 q9 q10 q11 q13 q14 q15 q16 q17 q18 q19 q20 q21 q22 q23 q24 q25 q26 q27 q28 q29 q30 q31 q34 q35 q36 q37
  go_wp2_with fail
  go_ret
  exact ⟨rfl, hu1.trans huE⟩
theorem tells_big {w : World} (p : Option Addr) {n : Nat} (cap : Nat) (a s c : Int) (h : 200 < n) :
    Calls Try.prog 3 #[.slice p n cap, .int .u8 a, .int .u16 s, .int .u8 c] w fun e w' => e = .returned (.bool true) ∧ Up w w' := by
  have HK := hid known_true
  go_enter Try.func3, Try.ntmps3
  go_wp2_with (first
    | (go_at_call 6; with_reducible refine (HK.out _).mono ?_; rintro e w1 ⟨rfl, hu1⟩))
  go_ret
  exact ⟨rfl, hu1⟩
theorem tells_row {w : World} {p : Option Addr} {len cap : Nat} {z : List Int} {a s c : Int} (w0 : (p = none ∧ len = 0 ∧ cap = 0 ∧ z = []) ∨
    ∃ x, p = some x ∧ len ≤ cap ∧ cap ≤ maxLen ∧ z.length = cap ∧ (∀ i, i < z.length → w.cell? (x.add i) = some (.int .u8 (z.getD i 0))) ∧ ∀ n ∈ z, (Lit.int .u8 n).wf = true) (w1 : (Lit.int .u8 a).wf = true) (w2 : (Lit.int .u16 s).wf = true) (w3 : (Lit.int .u8 c).wf = true) :
    Calls Try.prog 3 #[.slice p len cap, .int .u8 a, .int .u16 s, .int .u8 c] w fun e w' => e = .returned (.bool true) ∧ Below w.heap.size w w' := by
  obtain ⟨a, rfl, ha⟩ := wf_nat (m := 255) w1 IntKind.min_u8 IntKind.max_u8
  obtain ⟨s, rfl, hs⟩ := wf_nat (m := 65535) w2 IntKind.min_u16 IntKind.max_u16
  obtain ⟨c, rfl, hc⟩ := wf_nat (m := 255) w3 IntKind.min_u8 IntKind.max_u8
  by_cases h : len ≤ 200
  · obtain ⟨l, rfl, hB⟩ := bw_in w0 (by omega)
    exact tells_any rfl hB h ha hs hc
  · exact tells_big _ _ _ _ _ (by omega)
end Go.Proofs.Ytlllaieoinehaaa
