/-
  Frames: the example that the statements know.
-/
import Derived.Test.YtmpikkhfeogdcaaFr7
namespace Go.Proofs.Ytmpikkhfeogdcaa
open Go Go.RowKit
set_option maxRecDepth 100000

theorem ab_bw (w : World) : Bw (w.alloc (.cells #[.int .u8 97, .int .u8 98] 5 (2, 3))) (.slice (some ⟨w.heap.size, 0, none⟩) 2 2) [97, 98] :=
  Bw.mk (l := [97, 98]) (C := #[.int .u8 97, .int .u8 98]) (new_at rfl) (by decide) (by decide) (by decide) fun i hi => by
    have : i = 0 ∨ i = 1 := by simp at hi; omega
    rcases this with rfl | rfl <;> rfl
theorem RU.bw {base : Nat} {w : World} {x : Value} {l : List Nat} (h : RU base w x l) : Bw w x l := OwnU.bw h
theorem Up.size {a b : World} (h : Up a b) : a.heap.size ≤ b.heap.size := Below.size h
theorem up_gb {a b c : World} {g : Nat} (h : Up a b) (k : b.grownBy c (some g)) (hg : a.heap.size ≤ g) : Up a c := below_gb (B := a.heap.size) h k h.size hg
/-- A list of one, of two. -/
theorem Lw.one_at {R : World → Value → List Nat → Prop} {w : World} {v : Value} {l : List Nat} (h : Lw R w v [l]) : ∃ a c q m k, v = .slice (some a) 1 c ∧ w.cell? a = some (.slice q m k) ∧ R w (.slice q m k) l := by
  obtain ⟨p, c, rfl, _, h⟩ := h.at (n := 1) rfl
  obtain ⟨a, q, m, k, rfl, h1, h2⟩ := h 0 (by decide)
  exact ⟨a, c, q, m, k, rfl, by simpa [Addr.add] using h1, h2⟩
theorem Lw.two_at {R : World → Value → List Nat → Prop} {w : World} {v : Value} {l l2 : List Nat} (h : Lw R w v [l, l2]) : ∃ a c q m k q' m' k', v = .slice (some a) 2 c ∧ w.cell? a = some (.slice q m k) ∧ R w (.slice q m k) l ∧ w.cell? (a.add 1) = some (.slice q' m' k') ∧ R w (.slice q' m' k') l2 := by
  obtain ⟨p, c, rfl, _, h⟩ := h.at (n := 2) rfl
  obtain ⟨a, q, m, k, rfl, h1, h2⟩ := h 0 (by decide)
  obtain ⟨a', q', m', k', e, h3, h4⟩ := h 1 (by decide)
  injection e with e
  subst e
  exact ⟨_, c, q, m, k, q', m', k', rfl, by simpa [Addr.add] using h1, h2, h3, h4⟩
theorem ab_list : (strB [97, 98]).toList = [97, 98] := by
  rw [show strB [97, 98] = ByteArray.mk #[97, 98] from rfl]
  unfold ByteArray.toList
  rw [ByteArray.toList.loop, if_pos (by decide), ByteArray.toList.loop, if_pos (by decide), ByteArray.toList.loop, if_neg (by decide)]
  rfl
set_option maxHeartbeats 1000000 in
theorem known_fr (w : World) : Calls Try.prog 7 #[] w fun e w' => e = .returned (.bool true) ∧ Up w w' := by
  have kc := fun (w : World) (C : Array Value) (n c : Nat) => Lib.run_convert_bytes_const (P := Try.prog) w 22 5 C n c Try.underlying22 Try.underlying5
  have HP := hid pz_known
  have es : ((strB [97, 98]).toList == [97, 98]) = true := by rw [ab_list]; rfl
  go_enter Try.func7, Try.ntmps7
  go_wp2_with (first
    | (go_at_call 10; refine (new_any _).mono ?_; rintro e w1 ⟨rfl, hP1, hu1⟩)
    | (go_at_call 8; with_reducible refine (put_any (n := 2) rfl (ab_bw _) (by decide) (by decide)).mono ?_; rintro e w2 ⟨v2, rfl, hv2, hu2⟩; obtain ⟨g2, c2, rfl, hc2, hg2, hO2⟩ := hv2.is (N := 7) (by simp [fr_len]) (by decide))
    | ((with_reducible apply appU (l := [170, 1]) (base := w2.heap.size)); exact rfl; exact rfl; exact OwnU.lit (l := [170, 1]) (Nat.le_refl _) rfl (by simp) (by simp); exact hO2.bw.up (Up.alloc _ _); exact (Up.alloc _ _).size; (focus (rw [fr_len]; decide)); rintro v3 w3 hO3 hb3; have hu3 : Up w2 w3 := Below.trans (Up.alloc _ _) hb3; have hP3 := (hP1.up ((Up.alloc _ _).trans hu2)).up hu3)
    | (go_at_call 11; with_reducible refine (feed_any (L := 170 :: 1 :: fr [97, 98]) (l := []) (m := [170, 1] ++ fr [97, 98]) (b := 0) rfl hP3 hO3.bw (by simp [fr_len]) (by decide)).mono ?_; rintro e w4 ⟨v4, rfl, hv4, hP4, hg4⟩; rw [HP.out] at hv4 hP4; dsimp only at hv4 hP4; obtain ⟨a4, c4, q4, m4, k4, rfl, hc4, hB4⟩ := hv4.lw.one_at; have hcv := conv_str (RU.bw hB4))
    | (go_at_call 12; with_reducible refine (left_any hP4).mono ?_; rintro e w5 ⟨rfl, rfl⟩)
    | (go_at_call 13; with_reducible refine (bad_any hP4).mono ?_; rintro e w6 ⟨rfl, rfl⟩))
  go_ret
  exact ⟨rfl, below_gb (Up.below hu3 (Up.below hu2 (hu1.trans (Up.alloc _ _)) (hu1.trans (Up.alloc _ _)).size) (Nat.le_trans (hu1.trans (Up.alloc _ _)).size hu2.size)) hg4 (Nat.le_trans (Nat.le_trans (hu1.trans (Up.alloc _ _)).size hu2.size) hu3.size) (Nat.le_refl _)⟩
end Go.Proofs.Ytmpikkhfeogdcaa
