/-
  Frames: what bytes begin with.
-/
import Derived.Test.YtmpikkhfeogdcaaFr2
namespace Go.Proofs.Ytmpikkhfeogdcaa
open Go Go.RowKit
set_option maxRecDepth 100000

theorem jdA {l : List Nat} (h : l.getD 0 0 ≠ 170) : jd l = (0, 1) := by
  unfold jd
  rw [if_pos (.inl h)]
theorem jdB {l : List Nat} (h1 : 1 < l.length) (h : l.getD 1 0 ≠ 85) : jd l = (0, 1) := by
  unfold jd
  rw [if_pos (.inr ⟨h1, h⟩)]
theorem jdC {l : List Nat} (h0 : l.getD 0 0 = 170) (h : l.length ≤ 1 ∨ l.getD 1 0 = 85) (h3 : l.length < 3) : jd l = (2, 0) := by
  unfold jd
  rw [if_neg (by rintro (h' | ⟨h1, h2⟩); exact h' h0; rcases h with h | h; omega; exact h2 h), if_pos h3]
theorem jdD {l : List Nat} (h0 : l.getD 0 0 = 170) (h : l.getD 1 0 = 85) (h3 : 3 ≤ l.length) (hx : ¬ (1 ≤ l.getD 2 0 ∧ l.getD 2 0 ≤ 40)) : jd l = (1, 1) := by
  unfold jd
  rw [if_neg (by rintro (h' | ⟨h1, h2⟩); exact h' h0; exact h2 h), if_neg (by omega), if_pos hx]
theorem jdE {l : List Nat} (h0 : l.getD 0 0 = 170) (h : l.getD 1 0 = 85) (h3 : 3 ≤ l.length) (hx : 1 ≤ l.getD 2 0 ∧ l.getD 2 0 ≤ 40) (hl : l.length < l.getD 2 0 + 5) : jd l = (2, 0) := by
  unfold jd
  rw [if_neg (by rintro (h' | ⟨h1, h2⟩); exact h' h0; exact h2 h), if_neg (by omega), if_neg (fun h => h hx), if_pos hl]
theorem jdF {l : List Nat} (h0 : l.getD 0 0 = 170) (h : l.getD 1 0 = 85) (h3 : 3 ≤ l.length) (hx : 1 ≤ l.getD 2 0 ∧ l.getD 2 0 ≤ 40) (hl : ¬ l.length < l.getD 2 0 + 5) : jd l = if soB (l.take (l.getD 2 0 + 5)) = false then (1, 1) else (3, l.getD 2 0 + 5) := by
  unfold jd
  rw [if_neg (by rintro (h' | ⟨h1, h2⟩); exact h' h0; exact h2 h), if_neg (by omega), if_neg (fun h => h hx), if_neg hl]
set_option maxHeartbeats 2000000 in
theorem judge_any {w : World} {p : Option Addr} {n c : Nat} {l : List Nat} (hn : l.length = n) (hB : Bw w (.slice p n c) l) (hn1 : 1 ≤ n) (h1000 : n ≤ 1000) :
    Calls Try.prog 18 #[.slice p n c] w fun e w' => e = .returned (.tuple #[.int .i64 ((jd l).1 : Nat), .int .i64 ((jd l).2 : Nat)]) ∧ Up w w' := by
  have hcap := hB.cap'
  have HB := hid hB
  have HN := hid hn
  have hat := hB.at hn
  obtain ⟨a, hp, hc0⟩ := hat 0 hn1
  subst hp
  have hat : ∀ j, j < n → w.cell? (a.add j) = some (.int .u8 ((l.getD j 0 : Nat) : Int)) := fun j hj => by
    obtain ⟨a', h1, h2⟩ := hat j hj
    injection h1 with h1
    subst h1
    exact h2
  have hlt := fun j (hj : j < n) => hB.lt _ (getD_mem (l := l) (i := j) (by omega))
  clear hB hn
  obtain ⟨x0, hx0⟩ : ∃ x, l.getD 0 0 = x := ⟨_, rfl⟩
  rw [hx0] at hc0
  simp [Addr.add] at hc0
  by_cases hA : x0 = 170
  · subst hA
    by_cases hn2 : 1 < n
    · obtain ⟨x1, hx1⟩ : ∃ x, l.getD 1 0 = x := ⟨_, rfl⟩
      have hc1 := hat 1 hn2
      rw [hx1] at hc1
      simp [Addr.add] at hc1
      by_cases hC : x1 = 85
      · subst hC
        by_cases hn3 : n < 3
        · have HJ := hid (jdC hx0 (.inr hx1) (by rw [HN.out]; exact hn3))
          clear hat hlt hx0 hx1
          go_enter Try.func18, Try.ntmps18
          go_wp2_with fail
          go_ret2
          exact ⟨by rw [HJ.out]; rfl, Up.refl _⟩
        · obtain ⟨x2, hx2⟩ : ∃ x, l.getD 2 0 = x := ⟨_, rfl⟩
          have hc2 := hat 2 (by omega)
          have hl2 := hlt 2 (by omega)
          rw [hx2] at hc2 hl2
          simp [Addr.add] at hc2
          have hn3' : 3 ≤ l.length := by rw [HN.out]; omega
          by_cases hD : 1 ≤ x2 ∧ x2 ≤ 40
          · have HF := hid (fits_yes hD.1 hD.2)
            have hD' := hD
            rw [← hx2] at hD'
            have ei : IntKind.i64.wrap (x2 : Int) = (x2 : Int) := IntWalk.i64_in _ (by omega)
            have ei2 : IntKind.i64.wrap (3 + (x2 : Int)) = 3 + (x2 : Int) := IntWalk.i64_in _ (by omega)
            have ei3 : IntKind.i64.wrap (3 + (x2 : Int) + 2) = 3 + (x2 : Int) + 2 := IntWalk.i64_in _ (by omega)
            by_cases hE : n < x2 + 5
            · have HJ := hid (jdE hx0 hx1 hn3' hD' (by rw [HN.out, hx2]; exact hE))
              clear hat hlt hx0 hx1 hx2 hD'
              go_enter Try.func18, Try.ntmps18
              go_wp2_with (first
                | (go_at_call 15; refine (HF.out _).mono ?_; rintro e w1 ⟨rfl, rfl⟩))
              go_ret2
              exact ⟨by rw [HJ.out]; rfl, Up.refl _⟩
            · have HJ := hid (jdF hx0 hx1 hn3' hD' (by rw [HN.out, hx2]; exact hE))
              have HS := hid (sound_any (w := w) (p := some a) (n := x2 + 5) (c := c) (f := l.take (x2 + 5)) (by rw [List.length_take, HN.out]; omega) (HB.out.take HN.out (by omega)) (by omega) (by omega))
              rw [hx2] at HJ
              clear hat hlt hx0 hx1 hx2 hD' hn3'
              by_cases hG : soB (l.take (x2 + 5)) = false
              · rw [hG] at HS
                rw [if_pos hG] at HJ
                clear hG
                go_enter Try.func18, Try.ntmps18
                go_wp2_with (first
                  | (go_at_call 15; refine (HF.out _).mono ?_; rintro e w1 ⟨rfl, rfl⟩)
                  | ((with_reducible apply slT (i := x2 + 5)); exact rfl; exact rfl; (focus omega); (focus omega); exact hcap)
                  | (go_at_call 22; with_reducible refine HS.out.mono ?_; rintro e w3 ⟨rfl, hu3⟩))
                go_ret2
                exact ⟨by rw [HJ.out]; rfl, hu3⟩
              · rw [eq_true_of_ne_false hG] at HS
                rw [if_neg hG] at HJ
                clear hG
                go_enter Try.func18, Try.ntmps18
                go_wp2_with (first
                  | (go_at_call 15; refine (HF.out _).mono ?_; rintro e w1 ⟨rfl, rfl⟩)
                  | ((with_reducible apply slT (i := x2 + 5)); exact rfl; exact rfl; (focus omega); (focus omega); exact hcap)
                  | (go_at_call 22; with_reducible refine HS.out.mono ?_; rintro e w3 ⟨rfl, hu3⟩))
                go_ret2
                exact ⟨by rw [HJ.out, show (3 : Int) + (x2 : Int) + 2 = ((x2 + 5 : Nat) : Int) by omega]; rfl, hu3⟩
          · have HF := hid (fits_no hD)
            have HJ := hid (jdD hx0 hx1 hn3' (by rw [hx2]; exact hD))
            have ei : IntKind.i64.wrap (x2 : Int) = (x2 : Int) := IntWalk.i64_in _ (by omega)
            clear hat hlt hx0 hx1 hx2 hD
            go_enter Try.func18, Try.ntmps18
            go_wp2_with (first
              | (go_at_call 15; refine (HF.out _).mono ?_; rintro e w1 ⟨rfl, rfl⟩))
            go_ret2
            exact ⟨by rw [HJ.out]; rfl, Up.refl _⟩
      · have e := show ((x1 : Int) != 85) = true by simp; omega
        have HJ := hid (jdB (l := l) (by rw [HN.out]; exact hn2) (by rw [hx1]; exact hC))
        clear hat hlt hx0 hx1 hC
        go_enter Try.func18, Try.ntmps18
        go_wp2_with fail
        go_ret2
        exact ⟨by rw [HJ.out]; rfl, Up.refl _⟩
    · obtain rfl : n = 1 := by omega
      have HJ := hid (jdC hx0 (.inl (by rw [HN.out]; exact Nat.le_refl 1)) (by rw [HN.out]; decide))
      clear hat hlt hx0
      go_enter Try.func18, Try.ntmps18
      go_wp2_with fail
      go_ret2
      exact ⟨by rw [HJ.out]; rfl, Up.refl _⟩
  · have e := show ((x0 : Int) != 170) = true by simp; omega
    have HJ := hid (jdA (l := l) (by rw [hx0]; exact hA))
    clear hat hlt hx0 hA
    go_enter Try.func18, Try.ntmps18
    go_wp2_with fail
    go_ret2
    exact ⟨by rw [HJ.out]; rfl, Up.refl _⟩
end Go.Proofs.Ytmpikkhfeogdcaa
