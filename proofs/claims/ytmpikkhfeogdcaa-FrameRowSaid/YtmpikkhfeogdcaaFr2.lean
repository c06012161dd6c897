/-
  Frames: whether a frame's last two bytes are its sum; what bytes begin with.
-/
import Derived.Test.YtmpikkhfeogdcaaFr1
namespace Go.Proofs.Ytmpikkhfeogdcaa
open Go Go.RowKit
set_option maxRecDepth 100000

theorem or_sum {x y : Nat} (hx : x < 256) (hy : y < 256) : bits BinOp.or IntKind.u16 ((x : Int) * 256) (y : Int) = ((x * 256 + y : Nat) : Int) := by
  rw [show (x : Int) * 256 = ((x * 256 : Nat) : Int) by omega, u16_or_nat _ _ (by omega) (by omega)]
  congr 1
  rw [show x * 256 = x <<< 8 from (Nat.shiftLeft_eq x 8).symm, ← Nat.shiftLeft_add_eq_or_of_lt (i := 8) hy]
theorem Bw.at {w : World} {p : Option Addr} {n c : Nat} {l : List Nat} (h : Bw w (.slice p n c) l) (hn : l.length = n) : ∀ j, j < n → ∃ a, p = some a ∧ w.cell? (a.add j) = some (.int .u8 ((l.getD j 0 : Nat) : Int)) := by
  obtain ⟨p', c', e, _, _, hc⟩ := h
  injection e with e1 e2 e3
  subst e1 e3
  intro j hj
  exact hc j (by omega)
theorem Bw.cap' {w : World} {p : Option Addr} {n cap : Nat} {l : List Nat} (h : Bw w (.slice p n cap) l) : n ≤ cap := by
  obtain ⟨p', cap', e, hcap, _⟩ := h
  injection e with e1 e2 e3
  omega
set_option maxHeartbeats 1000000 in
theorem sound_any {w : World} {p : Option Addr} {n c : Nat} {f : List Nat} (hn : f.length = n) (hB : Bw w (.slice p n c) f) (h5 : 5 ≤ n) (h1000 : n ≤ 1000) :
    Calls Try.prog 22 #[.slice p n c] w fun e w' => e = .returned (.bool (soB f)) ∧ Up w w' := by
  have hcap := hB.cap'
  have HB := hid (fun w' (hu : Up w w') => hB.up hu)
  obtain ⟨a, hp, h1⟩ := hB.at hn (n - 2) (by omega)
  obtain ⟨a', hp', h2⟩ := hB.at hn (n - 1) (by omega)
  have haa : a' = a := by rw [hp] at hp'; injection hp' with h; exact h.symm
  subst haa hp
  have b1 := hB.lt _ (getD_mem (l := f) (i := n - 2) (by omega))
  have b2 := hB.lt _ (getD_mem (l := f) (i := n - 1) (by omega))
  have hs := crL_lt (s := 65535) (l := (f.take (n - 2)).drop 2) (by decide) (fun b hb => hB.lt b (List.mem_of_mem_take (List.mem_of_mem_drop hb)))
  have HR := hid (show soB f = (crL 65535 ((f.take (n - 2)).drop 2) == f.getD (n - 2) 0 * 256 + f.getD (n - 1) 0) from by unfold soB; rw [hn])
  obtain ⟨x, hx⟩ : ∃ x, f.getD (n - 2) 0 = x := ⟨_, rfl⟩
  obtain ⟨y, hy⟩ : ∃ y, f.getD (n - 1) 0 = y := ⟨_, rfl⟩
  obtain ⟨s, hse⟩ : ∃ s, crL 65535 ((f.take (n - 2)).drop 2) = s := ⟨_, rfl⟩
  rw [hx] at b1 h1 HR
  rw [hy] at b2 h2 HR
  rw [hse] at hs HR
  have HS := hid (show crL 65535 [(f.take (n - 2)).drop 2].flatten = s by rw [flat_one]; exact hse)
  have HT := hid (hB.take hn (i := n - 2) (by omega))
  have HTl := hid (show (f.take (n - 2)).length = n - 2 by rw [List.length_take]; omega)
  have HO := hid (or_sum b1 b2)
  clear hB hx hy hse
  obtain ⟨m, hm⟩ : ∃ m, n - 2 = m := ⟨_, rfl⟩
  have hm1 : n - 1 = m + 1 := by omega
  obtain rfl : n = m + 2 := by omega
  rw [show m + 2 - 2 = m by omega] at *
  rw [show m + 2 - 1 = m + 1 by omega] at *
  obtain ⟨A1, hA1⟩ : ∃ A, a'.add (m + 1) = A := ⟨_, rfl⟩
  rw [hA1] at h2
  have HA := hid hA1
  have ew1 : IntKind.u16.wrap (x : Int) = (x : Int) := by rw [IntKind.wrap_u16]; omega
  have ew2 : IntKind.u16.wrap ((x : Int) * 256) = (x : Int) * 256 := by rw [IntKind.wrap_u16]; omega
  have ew3 : IntKind.u16.wrap (y : Int) = (y : Int) := by rw [IntKind.wrap_u16]; omega
  have ew4 : IntKind.i64.wrap ((m : Int) + 1) = (m : Int) + 1 := IntWalk.i64_in _ (by omega)
  have hU0 := Up.refl w
  clear hA1
  go_enter Try.func22, Try.ntmps22
  go_wp2_with fail
  refine wp_region_sp (n := 26) 20 [7, 8, 9, 10, 11, 12, 13, 14, 15, 16, 17, 18, 19, 20, 21, 22, 23, 24, 25, 2] [SP.is (.slice (some a') (m + 2) c), SP.is (.int .i64 (m : Int)), SP.is (.slice (fromP (some a') c 2) (m - 2) (c - 2)), SP.of (fun v w1 => Pw w1 v [(f.take m).drop 2]) (fun _ _ _ h hu => h.up hu), SP.is (.int .u16 (s : Int)), SP.is (.slice (some a') (m + 2) c), SP.is (.int .i64 (m : Int)), SP.is (.pointer (some (a'.add m))), SP.is (.int .u8 (x : Int)), SP.is (.int .u16 (x : Int)), SP.is (.int .u16 ((x : Int) * 256)), SP.is (.slice (some a') (m + 2) c), SP.is (.int .i64 (m : Int)), SP.is (.int .i64 ((m : Int) + 1)), SP.is (.pointer (some A1)), SP.is (.int .u8 (y : Int)), SP.is (.int .u16 (y : Int)), SP.is (.int .u16 ((x * 256 + y : Nat) : Int)), SP.is (.bool ((s : Int) == (x : Int) * 256 + (y : Int))), SP.is (.bool ((s : Int) == (x : Int) * 256 + (y : Int)))] (fun wq => Up w wq ∧ Below w.heap.size w wq) (by kernel_rfl) (by rfl) (by kernel_rfl) (by kernel_rfl) (fun _ _ h hu => ⟨(h.1).trans hu, below_up (h.2) hu⟩) ⟨(by first | exact Up.refl _ | assumption), gUp⟩ (fun ev w9 hS9 i o hne hi hev => ?_) (fun gR wE hq hSE huE => ?_)
  · have ⟨hS1, hSB⟩ := hS9
    have hcC := hev.const
    have hcF := hev.func
    have hcG := hev.global
    rcases i with _ | _ | _ | _ | _ | _ | _ | _ | _ | _ | _ | _ | _ | _ | _ | _ | _ | _ | _ | _ | i
    · obtain rfl := Option.some.inj (show some _ = some o from hi)
      have e0 := hev.other 0 (by kernel_rfl)
      simp [Act.eval] at e0
      exact leavesR_value (u := .slice (some a') (m + 2) c) (by first | (go_simp; done) | (go_simp; exact rfl)) rfl
    · obtain rfl := Option.some.inj (show some _ = some o from hi)
      have e3 := hev.other 3 (by kernel_rfl)
      simp [Act.eval] at e3
      exact leavesR_value (u := .int .i64 (m : Int)) (by first | (go_simp; done) | (go_simp; exact rfl)) rfl
    · obtain rfl := Option.some.inj (show some _ = some o from hi)
      have e7 : ev (.tmp 7) = (.slice (some a') (m + 2) c) := hev.dep 0 7 (by kernel_rfl)
      have e8 : ev (.tmp 8) = (.int .i64 (m : Int)) := hev.dep 1 8 (by kernel_rfl)
      exact leavesR_value (run_FT (i := 2) (j := m) (by omega) (by omega) hcap e7 (hcC _) e8) rfl
    · obtain rfl := Option.some.inj (show some _ = some o from hi)
      have e9 : ev (.tmp 9) = (.slice (fromP (some a') c 2) (m - 2) (c - 2)) := hev.dep 2 9 (by kernel_rfl)
      exact leavesR_up (u := .slice (some ⟨w9.heap.size, 0, none⟩) 1 1) (w' := w9.alloc (.cells #[.slice (fromP (some a') c 2) (m - 2) (c - 2)] 22)) (by go_simp) (Up.alloc _ _) (Pw.one (new_at rfl) ((HT.out.drop HTl.out (i := 2) (by omega)).up (hS1.trans (Up.alloc _ _))))
    · obtain rfl := Option.some.inj (show some _ = some o from hi)
      have e10 : (fun v w1 => Pw w1 v [(f.take m).drop 2]) (ev (.tmp 10)) w9 := hev.dep 3 10 (by kernel_rfl)
      dsimp only at e10
      obtain ⟨v10, hv10⟩ : ∃ v, ev (.tmp 10) = v := ⟨_, rfl⟩
      rw [hv10] at e10
      refine leavesR_call ?_ ((sum_is e10 HS.out).mono fun _ _ h => ⟨h.2 ▸ Up.refl _, _, h.1, rfl⟩)
      go_simp
    · obtain rfl := Option.some.inj (show some _ = some o from hi)
      have e0 := hev.other 0 (by kernel_rfl)
      simp [Act.eval] at e0
      exact leavesR_value (u := .slice (some a') (m + 2) c) (by first | (go_simp; done) | (go_simp; exact rfl)) rfl
    · obtain rfl := Option.some.inj (show some _ = some o from hi)
      have e3 := hev.other 3 (by kernel_rfl)
      simp [Act.eval] at e3
      exact leavesR_value (u := .int .i64 (m : Int)) (by first | (go_simp; done) | (go_simp; exact rfl)) rfl
    · obtain rfl := Option.some.inj (show some _ = some o from hi)
      have e12 : ev (.tmp 12) = (.slice (some a') (m + 2) c) := hev.dep 5 12 (by kernel_rfl)
      have e13 : ev (.tmp 13) = (.int .i64 (m : Int)) := hev.dep 6 13 (by kernel_rfl)
      exact leavesR_value (u := .pointer (some (a'.add m))) (by go_simp; intro h; omega) rfl
    · obtain rfl := Option.some.inj (show some _ = some o from hi)
      have e14 : ev (.tmp 14) = (.pointer (some (a'.add m))) := hev.dep 7 14 (by kernel_rfl)
      have hc1 := hS1.cell h1; exact leavesR_value (u := .int .u8 (x : Int)) (by go_simp) rfl
    · obtain rfl := Option.some.inj (show some _ = some o from hi)
      have e15 : ev (.tmp 15) = (.int .u8 (x : Int)) := hev.dep 8 15 (by kernel_rfl)
      exact leavesR_value (u := .int .u16 (x : Int)) (by first | (go_simp; done) | (go_simp; exact rfl)) rfl
    · obtain rfl := Option.some.inj (show some _ = some o from hi)
      have e16 : ev (.tmp 16) = (.int .u16 (x : Int)) := hev.dep 9 16 (by kernel_rfl)
      exact leavesR_value (u := .int .u16 ((x : Int) * 256)) (by first | (go_simp; done) | (go_simp; exact rfl)) rfl
    · obtain rfl := Option.some.inj (show some _ = some o from hi)
      have e0 := hev.other 0 (by kernel_rfl)
      simp [Act.eval] at e0
      exact leavesR_value (u := .slice (some a') (m + 2) c) (by first | (go_simp; done) | (go_simp; exact rfl)) rfl
    · obtain rfl := Option.some.inj (show some _ = some o from hi)
      have e3 := hev.other 3 (by kernel_rfl)
      simp [Act.eval] at e3
      exact leavesR_value (u := .int .i64 (m : Int)) (by first | (go_simp; done) | (go_simp; exact rfl)) rfl
    · obtain rfl := Option.some.inj (show some _ = some o from hi)
      have e19 : ev (.tmp 19) = (.int .i64 (m : Int)) := hev.dep 12 19 (by kernel_rfl)
      exact leavesR_value (u := .int .i64 ((m : Int) + 1)) (by first | (go_simp; done) | (go_simp; exact rfl)) rfl
    · obtain rfl := Option.some.inj (show some _ = some o from hi)
      have e18 : ev (.tmp 18) = (.slice (some a') (m + 2) c) := hev.dep 11 18 (by kernel_rfl)
      have e20 : ev (.tmp 20) = (.int .i64 ((m : Int) + 1)) := hev.dep 13 20 (by kernel_rfl)
      have hA := HA.out; exact leavesR_value (u := .pointer (some A1)) (by rw [← hA]; go_simp; intro h; omega) rfl
    · obtain rfl := Option.some.inj (show some _ = some o from hi)
      have e21 : ev (.tmp 21) = (.pointer (some A1)) := hev.dep 14 21 (by kernel_rfl)
      have hc1 := hS1.cell h2; exact leavesR_value (u := .int .u8 (y : Int)) (by go_simp) rfl
    · obtain rfl := Option.some.inj (show some _ = some o from hi)
      have e22 : ev (.tmp 22) = (.int .u8 (y : Int)) := hev.dep 15 22 (by kernel_rfl)
      exact leavesR_value (u := .int .u16 (y : Int)) (by first | (go_simp; done) | (go_simp; exact rfl)) rfl
    · obtain rfl := Option.some.inj (show some _ = some o from hi)
      have e17 : ev (.tmp 17) = (.int .u16 ((x : Int) * 256)) := hev.dep 10 17 (by kernel_rfl)
      have e23 : ev (.tmp 23) = (.int .u16 (y : Int)) := hev.dep 16 23 (by kernel_rfl)
      have hO := HO.out; exact leavesR_value (u := .int .u16 ((x * 256 + y : Nat) : Int)) (by go_simp) rfl
    · obtain rfl := Option.some.inj (show some _ = some o from hi)
      have e11 : ev (.tmp 11) = (.int .u16 (s : Int)) := hev.dep 4 11 (by kernel_rfl)
      have e24 : ev (.tmp 24) = (.int .u16 ((x * 256 + y : Nat) : Int)) := hev.dep 17 24 (by kernel_rfl)
      exact leavesR_value (u := .bool ((s : Int) == (x : Int) * 256 + (y : Int))) (by first | (go_simp; done) | (go_simp; exact rfl)) rfl
    · obtain rfl := Option.some.inj (show some _ = some o from hi)
      have e25 : ev (.tmp 25) = (.bool ((s : Int) == (x : Int) * 256 + (y : Int))) := hev.dep 18 25 (by kernel_rfl)
      exact leavesR_value (u := .bool ((s : Int) == (x : Int) * 256 + (y : Int))) (by first | (go_simp; done) | (go_simp; exact rfl)) rfl
    · exact absurd (show i + 20 < 20 from (Array.getElem?_eq_some_iff.1 hi).1) (by omega)
  have ⟨hS1, hSB⟩ := hSE
  have q0 : gR 7 = (.slice (some a') (m + 2) c) := hq 0 7 (by decide) (by kernel_rfl)
  have q1 : gR 8 = (.int .i64 (m : Int)) := hq 1 8 (by decide) (by kernel_rfl)
  have q2 : gR 9 = (.slice (fromP (some a') c 2) (m - 2) (c - 2)) := hq 2 9 (by decide) (by kernel_rfl)
  have q3 : (fun v w1 => Pw w1 v [(f.take m).drop 2]) (gR 10) wE := hq 3 10 (by decide) (by kernel_rfl)
  dsimp only at q3
  obtain ⟨v10, hv10⟩ : ∃ v, gR 10 = v := ⟨_, rfl⟩
  rw [hv10] at q3
  have q4 : gR 11 = (.int .u16 (s : Int)) := hq 4 11 (by decide) (by kernel_rfl)
  have q5 : gR 12 = (.slice (some a') (m + 2) c) := hq 5 12 (by decide) (by kernel_rfl)
  have q6 : gR 13 = (.int .i64 (m : Int)) := hq 6 13 (by decide) (by kernel_rfl)
  have q7 : gR 14 = (.pointer (some (a'.add m))) := hq 7 14 (by decide) (by kernel_rfl)
  have q8 : gR 15 = (.int .u8 (x : Int)) := hq 8 15 (by decide) (by kernel_rfl)
  have q9 : gR 16 = (.int .u16 (x : Int)) := hq 9 16 (by decide) (by kernel_rfl)
  have q10 : gR 17 = (.int .u16 ((x : Int) * 256)) := hq 10 17 (by decide) (by kernel_rfl)
  have q11 : gR 18 = (.slice (some a') (m + 2) c) := hq 11 18 (by decide) (by kernel_rfl)
  have q12 : gR 19 = (.int .i64 (m : Int)) := hq 12 19 (by decide) (by kernel_rfl)
  have q13 : gR 20 = (.int .i64 ((m : Int) + 1)) := hq 13 20 (by decide) (by kernel_rfl)
  have q14 : gR 21 = (.pointer (some A1)) := hq 14 21 (by decide) (by kernel_rfl)
  have q15 : gR 22 = (.int .u8 (y : Int)) := hq 15 22 (by decide) (by kernel_rfl)
  have q16 : gR 23 = (.int .u16 (y : Int)) := hq 16 23 (by decide) (by kernel_rfl)
  have q17 : gR 24 = (.int .u16 ((x * 256 + y : Nat) : Int)) := hq 17 24 (by decide) (by kernel_rfl)
  have q18 : gR 25 = (.bool ((s : Int) == (x : Int) * 256 + (y : Int))) := hq 18 25 (by decide) (by kernel_rfl)
  have q19 : gR 2 = (.bool ((s : Int) == (x : Int) * 256 + (y : Int))) := hq 19 2 (by decide) (by kernel_rfl)
  refine ⟨fun _ => ?_, fun o ho => by simp at ho⟩
  simp only [putL, List.map_cons, List.map_nil, q0, q1, q2, hv10, q4, q5, q6, q7, q8, q9, q10, q11, q12, q13, q14, q15, q16, q17, q18, q19, Act.put, pu1, pu2, pu3]
  clear hq hSE q0 q1 q2 q4 q5 q6 q7 q8 q9 q10 q11 q12 q13 q14 q15 q16 q17 q18 q19
  go_wp2_with fail
  go_ret
  have e := show ((s : Int) == (x : Int) * 256 + (y : Int)) = (s == x * 256 + y) by rw [Bool.eq_iff_iff, beq_iff_eq, beq_iff_eq]; omega
  exact ⟨by rw [HR.out, ← e]; rfl, huE⟩
end Go.Proofs.Ytmpikkhfeogdcaa
