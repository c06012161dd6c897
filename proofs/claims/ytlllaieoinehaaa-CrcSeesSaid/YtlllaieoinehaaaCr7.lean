/-
  Checksums: a byte that is another one makes another sum (CrcSees).
-/
import Derived.Test.YtlllaieoinehaaaCr6
namespace Go.Proofs.Ytlllaieoinehaaa
open Go Go.RowKit
set_option maxRecDepth 100000

theorem set_cut {l : List Nat} {k : Nat} (hk : k < l.length) (y : Nat) : l = l.take k ++ l.getD k 0 :: l.drop (k + 1) ∧ l.set k y = l.take k ++ y :: l.drop (k + 1) := by
  constructor
  · rw [List.getD_eq_getElem?_getD, List.getElem?_eq_getElem hk]
    simp
  · rw [List.set_eq_take_append_cons_drop, if_pos hk]
theorem sees {l : List Nat} (hl : ∀ x ∈ l, x < 256) {k y : Nat} (hk : k < l.length) (hy : y < 256) (hne : l.getD k 0 ≠ y) : crL 65535 l ≠ crL 65535 (l.set k y) := by
  obtain ⟨h1, h2⟩ := set_cut hk y
  have h := crL_sees (s := 65535) (l := l.take k) (m := l.drop (k + 1)) (by decide) (fun x hx => hl x (List.mem_of_mem_take hx)) (fun x hx => hl x (List.mem_of_mem_drop hx)) (hl _ (getD_mem hk)) hy hne
  rw [← h1, ← h2] at h
  exact h
theorem sees_early {w : World} (p : Option Addr) {n : Nat} (cap : Nat) {a x : Nat} (h : 200 < n ∨ n = 0 ∨ x = 0) :
    Calls Try.prog 4 #[.slice p n cap, .int .u8 (a : Int), .int .u8 (x : Int)] w fun e w' => e = .returned (.bool true) ∧ Up w w' := by
  have HK := hid known_true
  by_cases h1 : 200 < n
  · go_enter Try.func4, Try.ntmps4
    go_wp2_with (first
      | (go_at_call 6; with_reducible refine (HK.out _).mono ?_; rintro e w1 ⟨rfl, hu1⟩))
    go_ret
    exact ⟨rfl, hu1⟩
  · by_cases h2 : n = 0
    · subst h2
      go_enter Try.func4, Try.ntmps4
      go_wp2_with (first
        | (go_at_call 6; with_reducible refine (HK.out _).mono ?_; rintro e w1 ⟨rfl, hu1⟩))
      go_ret
      exact ⟨rfl, hu1⟩
    · obtain rfl : x = 0 := by omega
      go_enter Try.func4, Try.ntmps4
      go_wp2_with (first
        | (go_at_call 6; with_reducible refine (HK.out _).mono ?_; rintro e w1 ⟨rfl, hu1⟩))
      go_ret
      exact ⟨rfl, hu1⟩
set_option maxHeartbeats 1000000 in
theorem sees_any {w : World} {p : Option Addr} {n cap : Nat} {l : List Nat} {a x : Nat} (hn : l.length = n) (hB : Bw w (.slice p n cap) l) (h200 : n ≤ 200) (h0 : n ≠ 0) (hx0 : x ≠ 0) (ha : a < 256) (hx : x < 256) :
    Calls Try.prog 4 #[.slice p n cap, .int .u8 (a : Int), .int .u8 (x : Int)] w fun e w' => e = .returned (.bool true) ∧ Up w w' := by
  have HK := hid known_true
  have HB := hid (fun w' (hu : Up w w') => hB.up hu)
  have HL := hid hB.lt
  have HN := hid hn
  have e1 : (a : Int).tmod (n : Int) = ((a % n : Nat) : Int) := (Int.ofNat_tmod a n).symm
  have e2 : ((n : Int) == 0) = false := by simp; omega
  have e3 : ((x : Int) == 0) = false := by simp; omega
  have hi : a % n < n := Nat.mod_lt a (by omega)
  generalize a % n = k at *
  have hk : k < l.length := by rw [hn]; exact hi
  obtain ⟨y0, hy0⟩ : ∃ y, l.getD k 0 = y := ⟨_, rfl⟩
  have hy := HL.out _ (getD_mem hk)
  rw [hy0] at hy
  have e4 := u8_xor_nat y0 x hy hx
  have hy1 : y0 ^^^ x < 256 := Nat.xor_lt_two_pow (n := 8) hy hx
  have hne : y0 ≠ y0 ^^^ x := fun e => by
    have : y0 ^^^ (y0 ^^^ x) = 0 := by rw [← e, Nat.xor_self]
    rw [← Nat.xor_assoc, Nat.xor_self, Nat.zero_xor] at this
    exact hx0 this
  generalize y0 ^^^ x = y1 at *
  have hS := sees HL.out hk hy1 (by rw [hy0]; exact hne)
  obtain ⟨s1, hs1⟩ : ∃ s, crL 65535 l = s := ⟨_, rfl⟩
  obtain ⟨s2, hs2⟩ : ∃ s, crL 65535 (l.set k y1) = s := ⟨_, rfl⟩
  rw [hs1, hs2] at hS
  have e5 : ((s1 : Int) != (s2 : Int)) = true := by simp; omega
  have H1 := hid (show crL 65535 [l].flatten = s1 by rw [flat_one]; exact hs1)
  have H2 := hid (show crL 65535 [l.set k y1].flatten = s2 by rw [flat_one]; exact hs2)
  have HY := hid hy0
  have HKL := hid hk
  have HY1 := hid hy1
  have HA := hid (fun (v2 : Value) (w1 w2 : World) (hu1 : Up w w1) (hb2 : Below w.heap.size w1 w2) (h : OwnU w2 w.heap.size v2 l) => show ∃ g c, v2 = .slice (some ⟨g, 0, none⟩) n c ∧ w2.cell? ⟨g, k, none⟩ = some (.int .u8 (y0 : Int)) ∧ w2.frozen? ⟨g, k, none⟩ = false ∧
      Up w (w2.setCell ⟨g, k, none⟩ (.int .u8 (y1 : Int))) ∧ OwnU (w2.setCell ⟨g, k, none⟩ (.int .u8 (y1 : Int))) w.heap.size (.slice (some ⟨g, 0, none⟩) n c) (l.set k y1) from by
    obtain ⟨g, c, C, rfl, hg, _⟩ := h.open (by omega)
    rw [hn] at h ⊢
    obtain ⟨h1, h2⟩ := h.cells hk
    rw [hy0] at h1
    exact ⟨g, c, rfl, h1, h2, Below.setCell (Below.trans hu1 hb2) hg _, h.set hk hy1⟩)
  clear hB hn hs1 hs2 hy0 hS hne hy hk hy1
  go_enter Try.func4, Try.ntmps4
  go_wp2_with (first
    | (go_at_call 6; with_reducible refine (HK.out _).mono ?_; rintro e w1 ⟨rfl, hu1⟩)
    | ((with_reducible apply appU (l := [])); exact rfl; exact rfl; exact OwnU.nil _ w.heap.size; exact HB.out _ hu1; exact hu1.size; (focus (rw [HN.out]; simp; omega)); rintro v2 w2 hO2 hb2; rw [List.nil_append] at hO2; obtain ⟨g2, c2, rfl, hc2, hf2, hU3, hO3⟩ := HA.out _ _ _ hu1 hb2 hO2)
    | (go_at_call 8; with_reducible refine (sum_is (Pw.one (new_at (by simp)) ((HB.out _ hU3).up (Up.alloc _ _))) H1.out).mono ?_; rintro e w4 ⟨rfl, rfl⟩)
    | (go_at_call 8; with_reducible refine (sum_is (Pw.one (new_at (by simp)) (hO3.bw.up ((Up.alloc _ _).trans (Up.alloc _ _)))) H2.out).mono ?_; rintro e w5 ⟨rfl, rfl⟩))
  go_ret
  exact ⟨rfl, hU3.trans ((Up.alloc _ _).trans (Up.alloc _ _))⟩
theorem sees_row {w : World} {p : Option Addr} {len cap : Nat} {z : List Int} {a x : Int} (w0 : (p = none ∧ len = 0 ∧ cap = 0 ∧ z = []) ∨
    ∃ x, p = some x ∧ len ≤ cap ∧ cap ≤ maxLen ∧ z.length = cap ∧ (∀ i, i < z.length → w.cell? (x.add i) = some (.int .u8 (z.getD i 0))) ∧ ∀ n ∈ z, (Lit.int .u8 n).wf = true) (w1 : (Lit.int .u8 a).wf = true) (w2 : (Lit.int .u8 x).wf = true) :
    Calls Try.prog 4 #[.slice p len cap, .int .u8 a, .int .u8 x] w fun e w' => e = .returned (.bool true) ∧ Below w.heap.size w w' := by
  obtain ⟨a, rfl, ha⟩ := wf_nat (m := 255) w1 IntKind.min_u8 IntKind.max_u8
  obtain ⟨x, rfl, hx⟩ := wf_nat (m := 255) w2 IntKind.min_u8 IntKind.max_u8
  by_cases h : 200 < len ∨ len = 0 ∨ x = 0
  · exact sees_early _ _ h
  · obtain ⟨l, rfl, hB⟩ := bw_in w0 (by omega)
    exact sees_any rfl hB (by omega) (by omega) (by omega) ha hx
end Go.Proofs.Ytlllaieoinehaaa
