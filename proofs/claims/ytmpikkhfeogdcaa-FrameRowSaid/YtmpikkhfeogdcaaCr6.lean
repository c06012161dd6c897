/-
  Checksums: slices of bytes of the call's own: appended to, one cell written.
-/
import Derived.Test.YtmpikkhfeogdcaaCr4
import Derived.Laws.AppendOwnNone
import Derived.Deep.QuietTactic
import Derived.BigQuiet
namespace Go.Proofs.Ytmpikkhfeogdcaa
open Go Go.RowKit
set_option maxRecDepth 100000

theorem _root_.Go.World.ownsRow.up {w w' : World} {base : Nat} {e : TypeId} {size : Nat} {v : Value} {n : Nat} {xs : List Value} (h : w.ownsRow base e size v n xs) (hu : Up w w') : w'.ownsRow base e size v n xs := by
  refine ⟨h.1, ?_⟩
  rcases h.2 with h2 | ⟨g, cap, cur, h1, h2, h3, h4⟩
  · exact .inl h2
  · exact .inr ⟨g, cap, cur, h1, h2, hu.row h3, h4⟩
theorem undU : Try.prog.underlying 22 = some (.slice 5) := by kernel_rfl
theorem infoU : (Try.prog.info? 5).map (fun i => (i.zero, i.size, i.bytes)) = some (some (.int .u8 0), 1, 1) := by kernel_rfl
def valU (l : List Nat) : List Value := l.map fun (x : Nat) => Value.int .u8 (x : Int)
theorem valU_get {l : List Nat} {i : Nat} (h : i < l.length) : (valU l)[i]? = some (.int .u8 ((l.getD i 0 : Nat) : Int)) := by
  unfold valU; rw [List.getElem?_map, List.getElem?_eq_getElem h, List.getD_eq_getElem?_getD, List.getElem?_eq_getElem h]; rfl
theorem valU_append (l m : List Nat) : valU (l ++ m) = valU l ++ valU m := by unfold valU; rw [List.map_append]
/-- The value v is a slice of the bytes l in memory of the call's own, from block base on. -/
def OwnU (w : World) (base : Nat) (v : Value) (l : List Nat) : Prop := (l.length ≤ 1000 ∧ ∀ x ∈ l, x < 256) ∧ w.ownsRow base 5 1 v l.length (valU l)
theorem OwnU.up {w w' : World} {base : Nat} {v : Value} {l : List Nat} (hu : Up w w') (h : OwnU w base v l) : OwnU w' base v l := ⟨h.1, World.ownsRow.up h.2 hu⟩
theorem OwnU.nil (w : World) (base : Nat) : OwnU w base (.slice none 0 0) [] := ⟨⟨Nat.zero_le _, fun _ h => by cases h⟩, World.ownsRow_nil _ _ _ _⟩
theorem OwnU.open {w : World} {base : Nat} {v : Value} {l : List Nat} (h : OwnU w base v l) (h0 : 0 < l.length) :
    ∃ g cap C, v = .slice (some ⟨g, 0, none⟩) l.length cap ∧ base ≤ g ∧ w.heap[g]? = some (.cells C 5 (0, 0)) ∧ l.length ≤ cap ∧ cap ≤ maxLen ∧ C.size = cap ∧ C.toList.take l.length = valU l := by
  obtain ⟨_, _, h1 | ⟨g, cap, cur, hv, hb, hB, hc, hm, hs, ht⟩⟩ := h
  · omega
  · exact ⟨g, cap, cur, hv, hb, hB, hc, hm, by omega, by rw [← ht, Nat.mul_one]⟩
theorem OwnU.bw {w : World} {base : Nat} {v : Value} {l : List Nat} (h : OwnU w base v l) : Bw w v l := by
  rcases Nat.eq_zero_or_pos l.length with h0 | h0
  · have hl := List.length_eq_zero_iff.1 h0
    subst hl
    obtain ⟨_, _, ⟨rfl, _⟩ | ⟨g, cap, cur, rfl, _⟩⟩ := h
    · exact Bw.nil fun _ => rfl
    · exact Bw.nil fun e => by cases e
  · obtain ⟨g, cap, C, rfl, _, hB, hc, _, hs, ht⟩ := h.open h0
    have := Bw.mk hB (by omega) h.1.1 h.1.2 fun i hi => by rw [← Array.getElem?_toList, ← List.getElem?_take_of_lt hi, ht, valU_get hi]
    rw [hs] at this
    exact this
theorem OwnU.slice {w : World} {base : Nat} {v : Value} {l : List Nat} (h : OwnU w base v l) : ∃ p cap, v = .slice p l.length cap := by
  obtain ⟨p, cap, e, _⟩ := h.bw
  exact ⟨p, cap, e⟩
/-- append of a slice of the call's own and any other. -/
theorem appU {ops : Array Oper} {rest : List Oper} {Q : Exit → Act → World → Prop} {a : Act} {w : World} {d : Option Tmp} {s u : Operand} {ty : TypeId} {pos : String} {af : Array Edge} {base : Nat} {v x : Value} {l m : List Nat}
    (hs : a.eval s = v) (hu : a.eval u = x) (hown : OwnU w base v l) (hV : Bw w x m) (hbase : base ≤ w.heap.size) (hlm : l.length + m.length ≤ 1000)
    (h : ∀ v' w', OwnU w' base v' (l ++ m) → Below base w w' → wpList Try.prog ops Q rest (a.put d v') w') :
    wpList Try.prog ops Q ({ dst := d, op := .call { callee := .builtin .append, args := #[s, u], argTypes := #[22, 22] }, type := ty, pos := pos, after := af, guard := none } :: rest) a w := by
  obtain ⟨i0, hi0, he⟩ := Option.map_eq_some_iff.1 infoU
  simp only [Prod.mk.injEq] at he
  have hlt := World.ownsRow.lt hown.2
  have hfin : ∀ v' w', w'.ownsRow base 5 1 v' (l.length + m.length) (valU l ++ valU m) → w.grownBy w' v.ownBlock → wpList Try.prog ops Q rest (a.put d v') w' := by
    intro v' w' h1 h2
    refine h v' w' ⟨⟨by rw [List.length_append]; exact hlm, fun x hx => (List.mem_append.1 hx).elim (hown.1.2 x) (hV.lt x)⟩, by rw [List.length_append, valU_append]; exact h1⟩ ⟨h2.os, h2.tape, h2.output, h2.size, fun k hk => h2.block k (by omega) ?_⟩
    intro e
    have := hlt k e.symm
    omega
  obtain ⟨p, cap, rfl, hcap, _, hc⟩ := hV
  cases p with
  | none =>
    have h0 : m.length = 0 := by
      rcases Nat.eq_zero_or_pos m.length with h0 | h0
      · exact h0
      · obtain ⟨ad, h1, _⟩ := hc 0 h0; cases h1
    have hm0 := List.length_eq_zero_iff.1 h0
    subst hm0
    obtain rfl := hcap.2 rfl
    refine wpList_append_own_none (P := Try.prog) (w := w) rfl s u 22 rfl base 5 i0 1 undU hi0 v l.length (valU l) hs hown.2 hu ?_
    exact hfin v w (by simpa [valU] using hown.2) (World.grownBy.refl w _)
  | some ad =>
    have hcell : ∀ j x, (valU m)[j]? = some x → w.cell? (ad.add j) = some x := by
      intro j x hx
      have hj : j < m.length := by
        have := (List.getElem?_eq_some_iff.1 hx).1
        unfold valU at this
        simpa using this
      obtain ⟨a2, e2, h2⟩ := hc j hj
      injection e2 with e2
      subst e2
      rw [valU_get hj] at hx
      rw [h2]; exact hx
    refine wpList_append_own w rfl s u 22 rfl base 5 i0 (.int .u8 0) 1 1 undU hi0 he.1 he.2.1 he.2.2 rfl (by decide) v l.length (valU l) hs hown.2 ad m.length cap (valU m) hu (by unfold valU; simp) hcell ?_ (by unfold maxLen; omega) (by omega) hbase ?_
    · intro x hx
      unfold valU at hx
      obtain ⟨z, _, rfl⟩ := List.mem_map.1 hx
      rfl
    · intro v' w' h1 h2 _
      exact hfin v' w' h1 h2
/-- One cell written. -/
theorem OwnU.set {w : World} {base g n cap : Nat} {l : List Nat} (h : OwnU w base (.slice (some ⟨g, 0, none⟩) n cap) l) {k y : Nat} (hk : k < l.length) (hy : y < 256) :
    OwnU (w.setCell ⟨g, k, none⟩ (.int .u8 (y : Int))) base (.slice (some ⟨g, 0, none⟩) n cap) (l.set k y) := by
  obtain ⟨g', cap', C, hv, hb, hB, hc, hm, hs, ht⟩ := h.open (by omega)
  injection hv with e1 e2 e3
  injection e1 with e1
  injection e1 with e1
  subst e1 e2 e3
  refine ⟨⟨by rw [List.length_set]; exact h.1.1, fun x hx => ?_⟩, by unfold valU; simp, .inr ⟨g, cap, _, by rw [List.length_set], hb, heap_setCell_same _ _ _ _ _ _ hB, by rw [List.length_set]; exact hc, hm, by simp [hs], ?_⟩⟩
  · rcases List.mem_or_eq_of_mem_set hx with h1 | h1
    · exact h.1.2 x h1
    · omega
  · rw [List.length_set, Nat.mul_one, Array.toList_setIfInBounds, show valU (l.set k y) = (valU l).set k (.int .u8 (y : Int)) from by unfold valU; rw [List.map_set], ← ht, List.take_set]
theorem OwnU.cells {w : World} {base g n cap : Nat} {l : List Nat} (h : OwnU w base (.slice (some ⟨g, 0, none⟩) n cap) l) {k : Nat} (hk : k < l.length) :
    w.cell? ⟨g, k, none⟩ = some (.int .u8 ((l.getD k 0 : Nat) : Int)) ∧ w.frozen? ⟨g, k, none⟩ = false := by
  obtain ⟨g', cap', C, hv, hb, hB, hc, hm, hs, ht⟩ := h.open (by omega)
  injection hv with e1 e2 e3
  injection e1 with e1
  injection e1 with e1
  subst e1 e2 e3
  have h1 : C[k]? = some (.int .u8 ((l.getD k 0 : Nat) : Int)) := by
    rw [← Array.getElem?_toList, ← List.getElem?_take_of_lt hk, ht, valU_get hk]
  exact ⟨by rw [cell_of_row _ _ _ _ _ _ hB, h1], frozen_of_row _ _ _ _ _ hB⟩
end Go.Proofs.Ytmpikkhfeogdcaa
