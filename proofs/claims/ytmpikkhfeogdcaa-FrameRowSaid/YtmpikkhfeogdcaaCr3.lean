/-
  Checksums: lists of slices that the call itself lays; the chapter's examples.
-/
import Derived.Test.YtmpikkhfeogdcaaCr2
import Derived.Lib.SlBytesConst
namespace Go.Proofs.Ytmpikkhfeogdcaa
open Go Go.RowKit
set_option maxRecDepth 100000

theorem Bw.mk {w : World} {g : Nat} {C : Array Value} {t : TypeId} {fr : Nat × Nat} {l : List Nat} (hB : w.heap[g]? = some (.cells C t fr)) (hs : l.length ≤ C.size) (hl : l.length ≤ 1000) (hb : ∀ x ∈ l, x < 256)
    (h : ∀ i, i < l.length → C[i]? = some (.int .u8 ((l.getD i 0 : Nat) : Int))) : Bw w (.slice (some ⟨g, 0, none⟩) l.length C.size) l := by
  refine ⟨_, _, rfl, ⟨hs, fun e => by cases e⟩, ⟨hl, hb⟩, fun i hi => ⟨_, rfl, ?_⟩⟩
  rw [show Addr.add ⟨g, 0, none⟩ i = ⟨g, i, none⟩ by unfold Addr.add; simp; omega, cell_of_row _ _ _ _ _ _ hB, h i hi]
theorem Bw.nil {w : World} {p : Option Addr} {cap : Nat} (h : p = none → cap = 0) : Bw w (.slice p 0 cap) [] := ⟨_, _, rfl, ⟨Nat.zero_le _, h⟩, ⟨Nat.zero_le _, fun _ h => by cases h⟩, fun i hi => absurd hi (Nat.not_lt_zero _)⟩
theorem Pw.mk {w : World} {g : Nat} {C : Array Value} {t : TypeId} {fr : Nat × Nat} {ls : List (List Nat)} (hB : w.heap[g]? = some (.cells C t fr)) (hs : ls.length ≤ C.size) (hl : ls.length ≤ 1000)
    (h : ∀ i, i < ls.length → ∃ x, C[i]? = some x ∧ Bw w x (ls.getD i [])) : Pw w (.slice (some ⟨g, 0, none⟩) ls.length C.size) ls := by
  refine ⟨_, _, rfl, ⟨hs, fun e => by cases e⟩, hl, fun i hi => ?_⟩
  obtain ⟨x, h1, h2⟩ := h i hi
  exact ⟨_, x, rfl, by rw [show Addr.add ⟨g, 0, none⟩ i = ⟨g, i, none⟩ by unfold Addr.add; simp; omega, cell_of_row _ _ _ _ _ _ hB, h1], h2⟩
theorem Pw.nil {w : World} : Pw w (.slice none 0 0) [] := ⟨_, _, rfl, ⟨Nat.zero_le _, fun _ => rfl⟩, Nat.zero_le _, fun _ hi => absurd hi (Nat.not_lt_zero _)⟩
theorem Pw.one {w : World} {g : Nat} {t : TypeId} {fr : Nat × Nat} {x : Value} {l : List Nat} (hB : w.heap[g]? = some (.cells #[x] t fr)) (h : Bw w x l) : Pw w (.slice (some ⟨g, 0, none⟩) 1 1) [l] :=
  Pw.mk (ls := [l]) hB (by simp) (by simp) fun i hi => by
    have h0 : i = 0 := by simp at hi; exact hi
    subst h0
    exact ⟨x, rfl, h⟩
theorem Pw.two {w : World} {g : Nat} {t : TypeId} {fr : Nat × Nat} {x y : Value} {l m : List Nat} (hB : w.heap[g]? = some (.cells #[x, y] t fr)) (h : Bw w x l) (h2 : Bw w y m) : Pw w (.slice (some ⟨g, 0, none⟩) 2 2) [l, m] :=
  Pw.mk (ls := [l, m]) hB (by simp) (by simp) fun i hi => by
    have : i = 0 ∨ i = 1 := by simp at hi; omega
    rcases this with rfl | rfl
    · exact ⟨x, rfl, h⟩
    · exact ⟨y, rfl, h2⟩
theorem Pw.three {w : World} {g : Nat} {t : TypeId} {fr : Nat × Nat} {x y z : Value} {l m n : List Nat} (hB : w.heap[g]? = some (.cells #[x, y, z] t fr)) (h : Bw w x l) (h2 : Bw w y m) (h3 : Bw w z n) : Pw w (.slice (some ⟨g, 0, none⟩) 3 3) [l, m, n] :=
  Pw.mk (ls := [l, m, n]) hB (by simp) (by simp) fun i hi => by
    have : i = 0 ∨ i = 1 ∨ i = 2 := by simp at hi; omega
    rcases this with rfl | rfl | rfl
    · exact ⟨x, rfl, h⟩
    · exact ⟨y, rfl, h2⟩
    · exact ⟨z, rfl, h3⟩
theorem sum_is {v : Value} {ls : List (List Nat)} {w : World} (h : Pw w v ls) {s : Nat} (hs : crL 65535 ls.flatten = s) : Calls Try.prog 16 #[v] w fun e w' => e = .returned (.int .u16 (s : Int)) ∧ w' = w := by
  subst hs; exact sum_any h
theorem new_at {w : World} {b : Nat} {o : Obj} (h : b = w.heap.size) : (w.alloc o).heap[b]? = some o := by subst h; exact heap_alloc_new _ _
theorem flat_one (l : List Nat) : [l].flatten = l := by simp
def ex9 : List Nat := [49, 50, 51, 52, 53, 54, 55, 56, 57]
theorem ex9_pw (w : World) : Pw ((w.alloc (.cells #[.int .u8 49, .int .u8 50, .int .u8 51, .int .u8 52, .int .u8 53, .int .u8 54, .int .u8 55, .int .u8 56, .int .u8 57] 5 (9, 10))).alloc (.cells #[.slice (some ⟨w.heap.size, 0, none⟩) 9 9] 22)) (.slice (some ⟨w.heap.size + 1, 0, none⟩) 1 1) [ex9] := by
  have h : Bw (w.alloc (.cells #[.int .u8 49, .int .u8 50, .int .u8 51, .int .u8 52, .int .u8 53, .int .u8 54, .int .u8 55, .int .u8 56, .int .u8 57] 5 (9, 10))) (.slice (some ⟨w.heap.size, 0, none⟩) 9 9) ex9 :=
    Bw.mk (l := ex9) (C := #[.int .u8 49, .int .u8 50, .int .u8 51, .int .u8 52, .int .u8 53, .int .u8 54, .int .u8 55, .int .u8 56, .int .u8 57]) (new_at rfl) (by decide) (by decide) (by decide) fun i hi => by
      have : i = 0 ∨ i = 1 ∨ i = 2 ∨ i = 3 ∨ i = 4 ∨ i = 5 ∨ i = 6 ∨ i = 7 ∨ i = 8 := by simp [ex9] at hi; omega
      rcases this with rfl | rfl | rfl | rfl | rfl | rfl | rfl | rfl | rfl <;> rfl
  exact Pw.one (new_at (by simp)) (h.up (Up.alloc _ _))
end Go.Proofs.Ytmpikkhfeogdcaa
