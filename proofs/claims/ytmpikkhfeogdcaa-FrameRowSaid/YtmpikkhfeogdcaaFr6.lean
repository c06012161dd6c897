/-
  Frames: a piece is fed.
-/
import Derived.Test.YtmpikkhfeogdcaaFr5
namespace Go.Proofs.Ytmpikkhfeogdcaa
open Go Go.RowKit
set_option maxRecDepth 100000

theorem own_sty {w2 : World} {base g : Nat} {v : Value} {l : List Nat} (h : OwnU w2 base v l) (hg : g < base) : Sty w2 g v l := fun _ hw => (OwnU.but h hw hg).bw
theorem Sty.drop {w2 : World} {g n c : Nat} {p : Option Addr} {l : List Nat} (hn : l.length = n) (h : Sty w2 g (.slice p n c) l) {i : Nat} (hi : i ≤ n) : Sty w2 g (.slice (fromP p c i) (n - i) (c - i)) (l.drop i) := fun w' hw => (h w' hw).drop hn hi
theorem pz_some {l : List Nat} (h0 : l.length ≠ 0) (hk : (jd l).1 = 3) : 1 ≤ (pz l).1.length := by
  rw [pz_step h0 (by rw [hk]; decide)]
  unfold pzN
  dsimp only
  rw [if_pos hk, List.length_cons]
  omega
theorem OwnU.sl {w : World} {base : Nat} {v : Value} {l : List Nat} (h : OwnU w base v l) : ∃ p n c, v = .slice p n c := by
  obtain ⟨p, c, e⟩ := h.slice
  exact ⟨p, _, c, e⟩
set_option maxHeartbeats 4000000 in
theorem feed_any {w : World} {g b : Nat} {x : Value} {l m L : List Nat} (hL : l ++ m = L) (hP : Par w g l b) (hB : Bw w x m) (h1000 : l.length + m.length ≤ 1000) (hb : b ≤ 1000000) :
    Calls Try.prog 11 #[.pointer (some ⟨g, 0, none⟩), x] w fun e w' => ∃ v, e = .returned v ∧
      OwnL (RU w.heap.size) w' w.heap.size v (pz L).1 ∧ Par w' g (pz L).2.2 (b + (pz L).2.1) ∧ w.grownBy w' (some g) := by
  have hg := hP.lt
  obtain ⟨v, hv1, hv2⟩ := hP
  have hc0 : w.cell? ⟨g, 0, none⟩ = some v := by rw [cell_of_row _ _ _ _ _ _ hv1]; rfl
  have HB := hid (fun w' (hu : Up w w') => hB.up hu)
  have HV := hid hv2.bw
  have H1 := hid hv1
  have HL := hid h1000
  have HE := hid hL
  obtain ⟨p, cp, rfl⟩ := hv2.slice
  obtain ⟨q, cq, rfl, _⟩ := hB
  clear hv1 hv2
  go_enter Try.func11, Try.ntmps11
  go_wp2_with (first
    | ((with_reducible apply appU (l := [])); exact rfl; exact rfl; exact OwnU.nil _ w.heap.size; exact HV.out; exact Nat.le_refl _; (focus (have := HL.out; simp; omega)); rintro v1 w1 hO1 hb1; rw [List.nil_append] at hO1)
    | ((with_reducible apply appU (l := l)); exact rfl; exact rfl; exact hO1; exact HB.out _ hb1; exact hb1.size; exact HL.out; rintro v2 w2 hO2 hb2))
  rw [HE.out] at hO2
  have hN : L.length ≤ 1000 := by rw [← HE.out, List.length_append]; exact HL.out
  have hg2 : g < w2.heap.size := Nat.lt_of_lt_of_le hg (Nat.le_trans hb1.size hb2.size)
  have hu2 : Up w w2 := Below.trans hb1 hb2
  have hgw : w.grownBy w2 (some g) := gb_of_below _ hu2
  obtain ⟨q2, c2, hv2⟩ := hO2.slice
  have HI := hid (show FeedI w2 g (.slice p l.length cp) L b 0 [] 0 (.slice none 0 0) w2 from ⟨World.grownBy.refl _ _, Up.row hu2 H1.out, OwnL.nil _ _ _, by simp⟩)
  subst hv2
  have HS := hid (own_sty hO2 hg)
  clear hO1 hO2 HV HB H1 hc0 h1000 HL HE hL hu2
  obtain ⟨N, hN1⟩ : ∃ N, L.length = N := ⟨_, rfl⟩
  have HN := hid hN1
  rw [hN1] at hN HS ⊢
  clear hN1
  go_loopg [5, 6] N (fun gg ta tt wr => ∃ (k r : Nat) (q : Option Addr) (c B : Nat) (T : List (List Nat)), k + r = N ∧ r ≤ gg ∧ ta = .slice q r c ∧ Hid (Sty w2 g (.slice q r c) (L.drop k)) ∧ Hid (FeedI w2 g (.slice p l.length cp) L b k T B tt wr))
  case atStart => exact ⟨0, N, q2, c2, 0, [], Nat.zero_add _, Nat.le_refl _, rfl, HS, HI⟩
  case round =>
    obtain ⟨k, r, q, c, B, T, hk, hkg, rfl, HS, HI⟩ := hrel
    have hlen : (L.drop k).length = r := by rw [List.length_drop, HN.out]; omega
    have hG0 : wr.cell? ⟨g, 0, none⟩ = some (.slice p l.length cp) := by rw [cell_of_row _ _ _ _ _ _ HI.out.2.1]; rfl
    have HLn := hid hlen
    have HG := hid hG0
    clear hG0
    by_cases hr0 : r = 0
    · subst hr0
      clear hlen
      go_wp2_with (first
        | (go_at_call 19; refine (copied_any (HS.out _ HI.out.1)).mono ?_; rintro e w4 ⟨v4, rfl, hv4, hu4⟩; obtain ⟨p4, n4, c4, rfl⟩ := hv4.sl; have hc4 := hu4.cell HG.out; have hf4 := frozen_of_row _ _ 0 _ _ (hu4.row HI.out.2.1)))
      go_ret
      exact ⟨_, rfl, HI.out.done hg2 (.inl HLn.out) hgw hv4 hu4⟩
    · have HJ := hid (judge_any (w := wr) (p := q) (n := r) (c := c) (l := L.drop k) hlen (HS.out _ HI.out.1) (by omega) (by omega))
      have HL0 := hid (show (L.drop k).length ≠ 0 by omega)
      clear hlen
      rcases jd_is (L.drop k) with ⟨h0 | h0, h1⟩ | h0 | ⟨h0, h1, h2, h3⟩
      · have HK := hid h0
        have HK1 := hid h1
        rw [h0, h1] at HJ
        clear h0 h1
        go_wp2_with (first
          | (go_at_call 18; refine HJ.out.mono ?_; rintro e w3 ⟨rfl, hu3⟩)
          | ((with_reducible apply slF (i := 1)); exact rfl; exact rfl; exact rfl; (focus omega)))
        go_roundg (r - 1)
        case measure => omega
        case rel => exact ⟨k + 1, r - 1, _, _, B, T, by omega, Nat.le_refl _, rfl, hid (by rw [← List.drop_drop]; exact HS.out.drop HLn.out (by omega)), hid ((HI.out.up hu3).noise HL0.out HK.out HK1.out)⟩
      · have HK := hid h0
        have HK1 := hid h1
        rw [h0, h1] at HJ
        clear h0 h1
        obtain ⟨bb, hbb⟩ : ∃ x, b + B = x := ⟨_, rfl⟩
        have hG1 : wr.cell? ⟨g, 1, none⟩ = some (.int .i64 (bb : Int)) := by rw [cell_of_row _ _ _ _ _ _ HI.out.2.1, hbb]; rfl
        have HG1 := hid hG1
        have hB9 := HI.out.few.2
        rw [HN.out] at hB9
        have e1 : IntKind.i64.wrap ((bb : Int) + 1) = (bb : Int) + 1 := IntWalk.i64_in _ (by omega)
        have HBB := hid hbb
        clear hG1 hB9 hbb
        go_wp2_with (first
          | (go_at_call 18; refine HJ.out.mono ?_; rintro e w3 ⟨rfl, hu3⟩; have hc3 := hu3.cell HG1.out; have hf3 := frozen_of_row _ _ 1 _ _ (hu3.row HI.out.2.1))
          | ((with_reducible apply slF (i := 1)); exact rfl; exact rfl; exact rfl; (focus omega)))
        go_roundg (r - 1)
        case measure => omega
        case rel => exact ⟨k + 1, r - 1, _, _, B + 1, T, by omega, Nat.le_refl _, rfl, hid (by rw [← List.drop_drop]; exact HS.out.drop HLn.out (by omega)), hid (by rw [← HBB.out]; exact (HI.out.up hu3).bad hg2 HL0.out HK.out HK1.out)⟩
      · have HK := hid h0
        rw [h0] at HJ
        clear h0
        generalize (jd (L.drop k)).2 = j0 at HJ
        go_wp2_with (first
          | (go_at_call 18; refine HJ.out.mono ?_; rintro e w3 ⟨rfl, hu3⟩)
          | (go_at_call 19; refine (copied_any (HS.out _ (gb_up HI.out.1 hu3))).mono ?_; rintro e w4 ⟨v4, rfl, hv4, hu4⟩; obtain ⟨p4, n4, c4, rfl⟩ := hv4.sl; have hc4 := hu4.cell (hu3.cell HG.out); have hf4 := frozen_of_row _ _ 0 _ _ (hu4.row (hu3.row HI.out.2.1))))
        go_ret
        exact ⟨_, rfl, (HI.out.up hu3).done hg2 (.inr HK.out) hgw hv4 hu4⟩
      · obtain ⟨sz, hsz⟩ : ∃ x, (jd (L.drop k)).2 = x := ⟨_, rfl⟩
        have HK := hid h0
        have HK1 := hid hsz
        rw [h0, hsz] at HJ
        rw [hsz] at h1 h2 h3
        rw [HLn.out] at h3
        have hT := HI.out.few.1
        rw [HN.out] at hT
        have hT1 := pz_some HL0.out HK.out
        have HT := hid (show T.length + 1 ≤ 1000 by omega)
        have hcq := (HS.out _ HI.out.1).cap'
        have e1 : IntKind.i64.wrap ((sz : Int) - 2) = (sz : Int) - 2 := IntWalk.i64_in _ (by omega)
        clear h0 hsz hT hT1
        go_wp2_with (first
          | (go_at_call 18; refine HJ.out.mono ?_; rintro e w3 ⟨rfl, hu3⟩)
          | ((with_reducible apply slFT (i := 3) (j := sz - 2)); exact rfl; exact rfl; exact rfl; exact rfl; (focus omega); (focus omega); (focus omega); exact hcq)
          | (go_at_call 19; refine (copied_any (((HS.out _ (gb_up HI.out.1 hu3)).take HLn.out (i := sz - 2) (by omega)).drop (by rw [List.length_take, HLn.out]; omega) (i := 3) (by omega))).mono ?_; rintro e w4 ⟨v4, rfl, hv4, hu4⟩; obtain ⟨p4, n4, c4, rfl⟩ := hv4.sl)
          | ((with_reducible apply appL (R := RU w2.heap.size) (base := w2.heap.size) (ls := T) (ms := [((L.drop k).take (sz - 2)).drop 3])); exact rfl; exact rfl; exact (HI.out.up ((hu3.trans hu4).trans (Up.alloc _ _))).2.2.1; exact Lw.one (new_at rfl) ((OwnU.mono hv4 (Nat.le_trans HI.out.1.size hu3.size)).up (Up.alloc _ _)); exact Nat.le_trans (Nat.le_trans HI.out.1.size hu3.size) (Nat.le_trans hu4.size (Up.alloc _ _).size); exact HT.out; exact RU.keep _; rintro v5 w5 hO5 hk5 hg5 hb5)
          | ((with_reducible apply slF (i := sz)); exact rfl; exact rfl; exact rfl; (focus omega)))
        go_roundg (r - sz)
        case measure => omega
        case rel => exact ⟨k + sz, r - sz, _, _, B, _, by omega, Nat.le_refl _, rfl, hid (by rw [← List.drop_drop]; exact HS.out.drop HLn.out h3), hid ((HI.out.up ((hu3.trans hu4).trans (Up.alloc _ _))).frame HL0.out HK.out HK1.out hk5 hb5 hO5)⟩
end Go.Proofs.Ytmpikkhfeogdcaa
