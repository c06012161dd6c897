/-
  Checksums: slices of bytes, lists of them; their sums.
-/
import Derived.Test.YtmpikkhfeogdcaaCr1
namespace Go.Proofs.Ytmpikkhfeogdcaa
open Go Go.RowKit
set_option maxRecDepth 100000

/-- The value v is a slice of the bytes l, in world w. -/
def Bw (w : World) (v : Value) (l : List Nat) : Prop :=
  ∃ p cap, v = .slice p l.length cap ∧ (l.length ≤ cap ∧ (p = none → cap = 0)) ∧ (l.length ≤ 1000 ∧ ∀ x ∈ l, x < 256) ∧ ∀ i, i < l.length → ∃ a, p = some a ∧ w.cell? (a.add i) = some (.int .u8 ((l.getD i 0 : Nat) : Int))
theorem Bw.up {w w' : World} (hu : Up w w') {v : Value} {l : List Nat} (h : Bw w v l) : Bw w' v l := by
  obtain ⟨p, cap, e, hcap, hb, hc⟩ := h
  refine ⟨p, cap, e, hcap, hb, fun i hi => ?_⟩
  obtain ⟨a, ha, h1⟩ := hc i hi
  exact ⟨a, ha, hu.cell h1⟩
theorem Bw.lt {w : World} {v : Value} {l : List Nat} (h : Bw w v l) : ∀ x ∈ l, x < 256 := by
  obtain ⟨_, _, _, _, hb, _⟩ := h
  exact hb.2
theorem getD_mem {l : List Nat} {i : Nat} (h : i < l.length) : l.getD i 0 ∈ l := by
  rw [List.getD_eq_getElem?_getD, List.getElem?_eq_getElem h]; exact List.getElem_mem h
theorem take_snoc {l : List Nat} {k : Nat} (h : k < l.length) : l.take (k + 1) = l.take k ++ [l.getD k 0] := by
  rw [List.take_add_one, List.getElem?_eq_getElem h, List.getD_eq_getElem?_getD, List.getElem?_eq_getElem h]; rfl
theorem crL_snoc (s : Nat) (l : List Nat) {k : Nat} (h : k < l.length) : crL s (l.take (k + 1)) = crM (crL s (l.take k)) (l.getD k 0) := by
  rw [take_snoc h, crL_app, crL_cons, crL_nil]
theorem crT_lt {s : Nat} {l : List Nat} (hs : s < 65536) (hb : ∀ x ∈ l, x < 256) (k : Nat) : crL s (l.take k) < 65536 := crL_lt hs fun b h => hb b (List.mem_of_mem_take h)
theorem rsum_any {v : Value} {l : List Nat} {w : World} (h : Bw w v l) : Calls Try.prog 17 #[v] w fun e w' => e = .returned (.int .u16 (crL 65535 l : Nat)) ∧ w' = w := by
  obtain ⟨p, cap, rfl, _, ⟨hlen, hb⟩, hc⟩ := h
  have HC := hid hc
  have HB := hid (fun k (h : k < l.length) => hb _ (getD_mem h))
  have HT := hid (crT_lt (s := 65535) (by decide) hb)
  have HS := hid (fun k (h : k < l.length) => crL_snoc 65535 l h)
  have HF := hid (show l.take l.length = l from List.take_length)
  clear hc hb
  obtain ⟨n, hn⟩ : ∃ n, l.length = n := ⟨_, rfl⟩
  rw [hn] at HC HB HS HF hlen ⊢
  clear hn
  go_enter Try.func17, Try.ntmps17
  go_wp2
  go_loopg [3, 4] n (fun g ts ti wr => ∃ k : Nat, k ≤ n ∧ n - k ≤ g ∧ ti = .int .i64 (k : Nat) ∧ ts = .int .u16 (crL 65535 (l.take k) : Nat) ∧ wr = w)
  case atStart => exact ⟨0, Nat.zero_le _, Nat.le_refl _, rfl, rfl, rfl⟩
  case round =>
    obtain ⟨k, hk, hkg, rfl, rfl, rfl⟩ := hrel
    by_cases hlt : k < n
    · have e1 : IntKind.i64.wrap ((k : Int) + 1) = (k : Int) + 1 := IntWalk.i64_in _ (by omega)
      obtain ⟨a, rfl, hcell⟩ := HC.out k hlt
      have HM := hid (rmore_any (crL 65535 (l.take k)) (l.getD k 0) (HT.out k) (HB.out k hlt))
      rw [← HS.out k hlt] at HM
      generalize l.getD k 0 = y at *
      go_wp2_with (first | (go_at_call 21; refine (HM.out _).mono ?_; rintro e w' ⟨rfl, rfl⟩))
      go_roundg (n - (k + 1))
      case measure => omega
      case rel => exact ⟨k + 1, by omega, Nat.le_refl _, rfl, rfl, rfl⟩
    · obtain rfl : k = n := by omega
      clear hlt hk
      go_wp2_with fail
      go_ret
      exact ⟨by rw [HF.out]; rfl, rfl⟩
/-- The value v is a list of slices of the bytes ls, in world w. -/
def Pw (w : World) (v : Value) (ls : List (List Nat)) : Prop :=
  ∃ p cap, v = .slice p ls.length cap ∧ (ls.length ≤ cap ∧ (p = none → cap = 0)) ∧ ls.length ≤ 1000 ∧ ∀ i, i < ls.length → ∃ a x, p = some a ∧ w.cell? (a.add i) = some x ∧ Bw w x (ls.getD i [])
theorem Pw.up {w w' : World} (hu : Up w w') {v : Value} {ls : List (List Nat)} (h : Pw w v ls) : Pw w' v ls := by
  obtain ⟨p, cap, e, hcap, hb, hc⟩ := h
  refine ⟨p, cap, e, hcap, hb, fun i hi => ?_⟩
  obtain ⟨a, x, ha, h1, h2⟩ := hc i hi
  exact ⟨a, x, ha, hu.cell h1, h2.up hu⟩
theorem flat_snoc {ls : List (List Nat)} {k : Nat} (h : k < ls.length) : (ls.take (k + 1)).flatten = (ls.take k).flatten ++ ls.getD k [] := by
  rw [List.take_add_one, List.getElem?_eq_getElem h, List.getD_eq_getElem?_getD, List.getElem?_eq_getElem h, List.flatten_append]
  simp only [Option.toList_some, List.flatten_cons, List.flatten_nil, List.append_nil, Option.getD_some]
theorem flat_lt {ls : List (List Nat)} (h : ∀ i, i < ls.length → ∀ x ∈ ls.getD i [], x < 256) (k : Nat) : ∀ x ∈ (ls.take k).flatten, x < 256 := by
  intro x hx
  obtain ⟨l, hl, hx⟩ := List.mem_flatten.1 hx
  obtain ⟨i, hi, rfl⟩ := List.getElem_of_mem (List.mem_of_mem_take hl)
  refine h i hi x ?_
  rw [List.getD_eq_getElem?_getD, List.getElem?_eq_getElem hi]
  exact hx
set_option maxHeartbeats 1000000 in
theorem sum_any {v : Value} {ls : List (List Nat)} {w : World} (h : Pw w v ls) : Calls Try.prog 16 #[v] w fun e w' => e = .returned (.int .u16 (crL 65535 ls.flatten : Nat)) ∧ w' = w := by
  obtain ⟨p, cap, rfl, _, hlen, hc⟩ := h
  have HC := hid hc
  have HS := hid (fun k (h : k < ls.length) (s : Nat) => show crL s (ls.take (k + 1)).flatten = crL (crL s (ls.take k).flatten) (ls.getD k []) by rw [flat_snoc h, crL_app])
  have HT := hid (fun k => crL_lt (s := 65535) (by decide) (flat_lt (fun i hi => by obtain ⟨_, x, _, _, hx⟩ := hc i hi; exact hx.lt) k))
  have HF := hid (show ls.take ls.length = ls from List.take_length)
  clear hc
  obtain ⟨n, hn⟩ : ∃ n, ls.length = n := ⟨_, rfl⟩
  rw [hn] at HC HS HF hlen ⊢
  clear hn
  go_enter Try.func16, Try.ntmps16
  go_wp2
  go_loopg [3, 10] n (fun g ts ti wr => ∃ k : Nat, k ≤ n ∧ n - k ≤ g ∧ ti = .int .i64 (k : Nat) ∧ ts = .int .u16 (crL 65535 (ls.take k).flatten : Nat) ∧ wr = w)
  case atStart => exact ⟨0, Nat.zero_le _, Nat.le_refl _, rfl, rfl, rfl⟩
  case round =>
    obtain ⟨k, hk, hkg, rfl, rfl, rfl⟩ := hrel
    by_cases hlt : k < n
    · have e1 : IntKind.i64.wrap ((k : Int) + 1) = (k : Int) + 1 := IntWalk.i64_in _ (by omega)
      obtain ⟨a, x, rfl, hcell, hx⟩ := HC.out k hlt
      have HK := hid (HS.out k hlt 65535)
      have ht := HT.out k
      generalize ls.getD k [] = l at *
      obtain ⟨q, c2, rfl, _, ⟨hl2, hb⟩, hq⟩ := hx
      generalize crL 65535 (ls.take k).flatten = s at *
      have HQ := hid hq
      have HB := hid (fun k (h : k < l.length) => hb _ (getD_mem h))
      have HL := hid (crT_lt (s := s) ht hb)
      have HN := hid (fun k (h : k < l.length) => crL_snoc s l h)
      have HG := hid (show l.take l.length = l from List.take_length)
      clear hq hb
      obtain ⟨m, hm⟩ : ∃ m, l.length = m := ⟨_, rfl⟩
      rw [hm] at HQ HB HN HG hl2 hcell
      clear hm ht
      go_wp2_with fail
      go_loopg [3, 16] m (fun g ts ti wr' => ∃ j : Nat, j ≤ m ∧ m - j ≤ g ∧ ti = .int .i64 (j : Nat) ∧ ts = .int .u16 (crL s (l.take j) : Nat) ∧ wr' = wr)
      case atStart => exact ⟨0, Nat.zero_le _, Nat.le_refl _, rfl, rfl, rfl⟩
      case round =>
        obtain ⟨j, hj, hjg, rfl, rfl, rfl⟩ := hrel
        by_cases hjt : j < m
        · have e2 : IntKind.i64.wrap ((j : Int) + 1) = (j : Int) + 1 := IntWalk.i64_in _ (by omega)
          obtain ⟨b, rfl, hcb⟩ := HQ.out j hjt
          have HM := hid (more_any (crL s (l.take j)) (l.getD j 0) (HL.out j) (HB.out j hjt))
          rw [← HN.out j hjt] at HM
          generalize l.getD j 0 = y at *
          go_wp2_with (first | (go_at_call 20; refine (HM.out _).mono ?_; rintro e w' ⟨rfl, rfl⟩))
          go_roundg (m - (j + 1))
          case measure => omega
          case rel => exact ⟨j + 1, by omega, Nat.le_refl _, rfl, rfl, rfl⟩
        · obtain rfl : j = m := by omega
          clear hjt hj
          go_wp2_with fail
          go_roundg (n - (k + 1))
          case measure => omega
          case rel => exact ⟨k + 1, by omega, Nat.le_refl _, rfl, by rw [HK.out, HG.out], rfl⟩
    · obtain rfl : k = n := by omega
      clear hlt hk
      go_wp2_with fail
      go_ret
      exact ⟨by rw [HF.out]; rfl, rfl⟩
end Go.Proofs.Ytmpikkhfeogdcaa
