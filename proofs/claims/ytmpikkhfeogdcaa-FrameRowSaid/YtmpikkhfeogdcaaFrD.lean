/-
  Frames: appends in a region that draws its order; rows of bytes that came in.
-/
import Derived.Test.YtmpikkhfeogdcaaFr8
import Derived.Deep.RegionHeld3
namespace Go.Proofs.Ytmpikkhfeogdcaa
open Go Go.RowKit
set_option maxRecDepth 100000

/-- All blocks that aren't bytes stand. -/
def KeepY (w w' : World) : Prop := ∀ (k : Nat) (C : Array Value) (t : TypeId) (fr : Nat × Nat), t ≠ 5 → w.heap[k]? = some (Obj.cells C t fr) → w'.heap[k]? = some (Obj.cells C t fr)
theorem OwnL.keepY {R : World → Value → List Nat → Prop} {w w' : World} {base : Nat} {v : Value} {ls : List (List Nat)} (h : OwnL R w base v ls) (hk : KeepY w w') (hR : ∀ x l, R w x l → R w' x l) : OwnL R w' base v ls := by
  obtain ⟨h1, xs, ⟨h0, h2⟩, h3⟩ := h
  refine ⟨h1, xs, ⟨h0, ?_⟩, fun i hi => by obtain ⟨q, n, c, e1, e2⟩ := h3 i hi; exact ⟨q, n, c, e1, hR _ _ e2⟩⟩
  rcases h2 with h2 | ⟨g', cap, cur, h1, h2, h3, h4⟩
  · exact .inl h2
  · exact .inr ⟨g', cap, cur, h1, h2, hk _ _ _ _ (by decide) h3, h4⟩
theorem up_alloc {a b : World} (o : Obj) (h : Up a b) : Up a (b.alloc o) := h.trans (Up.alloc _ _)
theorem up_drew {a b : World} (h : Up a b) : Up a b.drew := h.trans (Up.drew _)
/-- append of bytes, at a step of a region that draws. -/
theorem stepU {ops : Array Oper} {Q : Exit → Act → World → Prop} {K : Act → World → Prop} {E : Prop} {a : Act} {w : World} {d : Option Tmp} {s u : Operand} {ty : TypeId} {pos : String} {af : Array Edge} {base : Nat} {v x : Value} {l m : List Nat}
    (hs : a.eval s = v) (hu : a.eval u = x) (hown : OwnU w base v l) (hV : Bw w x m) (hbase : base ≤ w.heap.size) (hlm : l.length + m.length ≤ 1000)
    (h : ∀ v' w', OwnU w' base v' (l ++ m) → KeepY w w' → Below base w w' → K (a.put d v') w') :
    if Region.wanted { dst := d, op := .call { callee := .builtin .append, args := #[s, u], argTypes := #[22, 22] }, type := ty, pos := pos, after := af, guard := none } (yielded ops a.tmps) = true then
      Oper.wp Try.prog { dst := d, op := .call { callee := .builtin .append, args := #[s, u], argTypes := #[22, 22] }, type := ty, pos := pos, after := af, guard := none } a w K Q else E := by
  split
  rotate_left
  · rename_i hno
    exact absurd (by simp [Region.wanted]) hno
  obtain ⟨i0, hi0, he⟩ := Option.map_eq_some_iff.1 infoU
  simp only [Prod.mk.injEq] at he
  have hlt := World.ownsRow.lt hown.2
  have hkeep : ∀ w', w.grownBy w' v.ownBlock → KeepY w w' := by
    intro w' hg k C t fr ht hk
    rw [hg.block k (Array.getElem?_eq_some_iff.1 hk).1 ?_]
    · exact hk
    · intro e
      rcases hown.2.2 with ⟨rfl, _⟩ | ⟨g, cap, cur, rfl, _, hB, _⟩
      · cases e
      · injection e with e
        subst e
        rw [hk] at hB
        injection hB with hB
        injection hB with _ hB
        exact ht hB
  have hfin : ∀ v' w', w'.ownsRow base 5 1 v' (l.length + m.length) (valU l ++ valU m) → w.grownBy w' v.ownBlock → K (a.put d v') w' := by
    intro v' w' h1 h2
    refine h v' w' ⟨⟨by rw [List.length_append]; exact hlm, fun x hx => (List.mem_append.1 hx).elim (hown.1.2 x) (hV.lt x)⟩, by rw [List.length_append, valU_append]; exact h1⟩ (hkeep w' h2) ⟨h2.os, h2.tape, h2.output, h2.size, fun k hk => h2.block k (by omega) ?_⟩
    intro e
    have := hlt k e.symm
    omega
  obtain ⟨p, cap, rfl, hcap, _, hc⟩ := hV
  cases p with
  | none =>
    have h0 : m.length = 0 := by
      rcases Nat.eq_zero_or_pos m.length with h0 | h0
      · exact h0
      · obtain ⟨ad, h1, _⟩ := hc 0 h0; cases h1
    have hm0 := List.length_eq_zero_iff.1 h0
    subst hm0
    obtain rfl := hcap.2 rfl
    have hrun := run_append_owned_none (P := Try.prog) (w := w) base 22 ty 5 i0 1 undU hi0 v l.length (valU l) hown.2
    unfold Oper.wp
    simp [execOp, resolve, invoke, builtin, hs, hu, hrun, Result.andThen]
    exact hfin v w (by simpa [valU] using hown.2) (World.grownBy.refl w _)
  | some ad =>
    have hcell : ∀ j x, (valU m)[j]? = some x → w.cell? (ad.add j) = some x := by
      intro j x hx
      have hj : j < m.length := by
        have := (List.getElem?_eq_some_iff.1 hx).1
        unfold valU at this
        simpa using this
      obtain ⟨a2, e2, h2⟩ := hc j hj
      injection e2 with e2
      subst e2
      rw [valU_get hj] at hx
      rw [h2]; exact hx
    refine wp_append_own w s u 22 rfl base 5 i0 (.int .u8 0) 1 1 undU hi0 he.1 he.2.1 he.2.2 rfl (by decide) v l.length (valU l) hs hown.2 ad m.length cap (valU m) hu (by unfold valU; simp) hcell ?_ (by unfold maxLen; omega) (by omega) hbase ?_
    · intro x hx
      unfold valU at hx
      obtain ⟨z, _, rfl⟩ := List.mem_map.1 hx
      rfl
    · intro v' w' h1 h2 _
      exact hfin v' w' h1 h2
/-- append of one slice, that lies in a block of its own, at a step of a region that draws. -/
theorem stepL {ops : Array Oper} {Q : Exit → Act → World → Prop} {K : Act → World → Prop} {E : Prop} {a : Act} {w : World} {d : Option Tmp} {s u : Operand} {ty : TypeId} {pos : String} {af : Array Edge} {base : Nat} {R : World → Value → List Nat → Prop} {v x : Value} {ls : List (List Nat)} {l1 : List Nat}
    (hs : a.eval s = v) (hu : a.eval u = x) (hown : OwnL R w base v ls) (hV : Lw R w x [l1]) (hbase : base ≤ w.heap.size) (hlm : ls.length + 1 ≤ 1000) (hR : ∀ w' x l, KeepX w w' → R w x l → R w' x l)
    (h : ∀ v' w', OwnL R w' base v' (ls ++ [l1]) → KeepX w w' → Below base w w' → K (a.put d v') w') :
    if Region.wanted { dst := d, op := .call { callee := .builtin .append, args := #[s, u], argTypes := #[24, 24] }, type := ty, pos := pos, after := af, guard := none } (yielded ops a.tmps) = true then
      Oper.wp Try.prog { dst := d, op := .call { callee := .builtin .append, args := #[s, u], argTypes := #[24, 24] }, type := ty, pos := pos, after := af, guard := none } a w K Q else E := by
  split
  rotate_left
  · rename_i hno
    exact absurd (by simp [Region.wanted]) hno
  obtain ⟨i0, hi0, he⟩ := Option.map_eq_some_iff.1 infoL
  simp only [Prod.mk.injEq] at he
  obtain ⟨hl, xs, hxs, hE⟩ := hown
  have hlt := World.ownsRow.lt hxs
  obtain ⟨ad, c, q, m, k, rfl, hc, hR1⟩ := hV.one_at
  have hxl : xs.length = ls.length := by have := hxs.1; omega
  have hkeep : ∀ w', w.grownBy w' v.ownBlock → KeepX w w' := by
    intro w' hg k C t fr ht hk
    rw [hg.block k (Array.getElem?_eq_some_iff.1 hk).1 ?_]
    · exact hk
    · intro e
      rcases hxs.2 with ⟨rfl, _⟩ | ⟨g, cap, cur, rfl, _, hB, _⟩
      · cases e
      · injection e with e
        subst e
        rw [hk] at hB
        injection hB with hB
        injection hB with _ hB
        exact ht hB
  refine wp_append_own w s u 24 rfl base 22 i0 (.slice none 0 0) 1 24 undL hi0 he.1 he.2.1 he.2.2 rfl (by decide) v ls.length xs hs hxs ad 1 c [.slice q m k] hu rfl ?_ ?_ (by unfold maxLen; omega) (by omega) hbase ?_
  · intro j x hx
    have hj : j = 0 := by
      have := (List.getElem?_eq_some_iff.1 hx).1
      simpa using this
    subst hj
    simp at hx
    subst hx
    simpa [Addr.add] using hc
  · intro x hx
    simp at hx
    subst hx
    rfl
  · intro v' w' h1 h2 _
    have hk := hkeep w' h2
    refine h v' w' ⟨by rw [List.length_append]; exact hlm, xs ++ [.slice q m k], by rw [List.length_append]; exact h1, fun i hi => ?_⟩ hk ⟨h2.os, h2.tape, h2.output, h2.size, fun k hk => h2.block k (by omega) ?_⟩
    · rw [List.length_append] at hi
      rw [getD_app2]
      by_cases hil : i < ls.length
      · obtain ⟨q, n, c, e1, e2⟩ := hE i hil
        rw [if_pos hil]
        exact ⟨q, n, c, by rw [List.getElem?_append_left (by omega)]; exact e1, hR _ _ _ hk e2⟩
      · have hi0 : i - ls.length = 0 := by simp at hi; omega
        rw [if_neg hil, hi0]
        exact ⟨q, m, k, by rw [List.getElem?_append_right (by omega), hxl, hi0]; rfl, hR _ _ _ hk hR1⟩
    · intro e
      have := hlt k e.symm
      omega
/-- Rows of bytes that came in: of each that is short enough it is known what it reads as. -/
def RowsIn (w : World) (p : Option Addr) (n : Nat) : Prop := ∀ r, r < n → ∃ a q m c, p = some a ∧ w.cell? (a.add r) = some (.slice q m c) ∧ (m ≤ 1000 → ∃ l : List Nat, l.length = m ∧ Bw w (.slice q m c) l)
end Go.Proofs.Ytmpikkhfeogdcaa
