/-
  Frames: lists of slices of bytes of the call's own, appended to; a parser in memory.
-/
import Derived.Test.YtmpikkhfeogdcaaFr3
namespace Go.Proofs.Ytmpikkhfeogdcaa
open Go Go.RowKit
set_option maxRecDepth 100000

theorem undL : Try.prog.underlying 24 = some (.slice 22) := by kernel_rfl
theorem infoL : (Try.prog.info? 22).map (fun i => (i.zero, i.size, i.bytes)) = some (some (.slice none 0 0), 1, 24) := by kernel_rfl
/-- All blocks that aren't slices' cells stand. -/
def KeepX (w w' : World) : Prop := ∀ (k : Nat) (C : Array Value) (t : TypeId) (fr : Nat × Nat), t ≠ 22 → w.heap[k]? = some (Obj.cells C t fr) → w'.heap[k]? = some (Obj.cells C t fr)
theorem KeepX.refl (w : World) : KeepX w w := fun _ _ _ _ _ h => h
theorem KeepX.trans {a b c : World} (h : KeepX a b) (k : KeepX b c) : KeepX a c := fun i C t fr ht h1 => k i C t fr ht (h i C t fr ht h1)
theorem Up.keepX {w w' : World} (h : Up w w') : KeepX w w' := fun _ _ _ _ _ h1 => h.row h1
theorem OwnU.keepX {w w' : World} {base : Nat} {v : Value} {l : List Nat} (h : OwnU w base v l) (hk : KeepX w w') : OwnU w' base v l := by
  refine ⟨h.1, h.2.1, ?_⟩
  rcases h.2.2 with h2 | ⟨g, cap, cur, h1, h2, h3, h4⟩
  · exact .inl h2
  · exact .inr ⟨g, cap, cur, h1, h2, hk _ _ _ _ (by decide) h3, h4⟩
/-- Every block but g stands. -/
theorem OwnU.but {w w' : World} {base g : Nat} {v : Value} {l : List Nat} (h : OwnU w base v l) (hk : w.grownBy w' (some g)) (hg : g < base) : OwnU w' base v l := by
  refine ⟨h.1, h.2.1, ?_⟩
  rcases h.2.2 with h2 | ⟨g', cap, cur, h1, h2, h3, h4⟩
  · exact .inl h2
  · refine .inr ⟨g', cap, cur, h1, h2, ?_, h4⟩
    rw [hk.block g' (Array.getElem?_eq_some_iff.1 h3).1 (by intro e; injection e with e; omega)]
    exact h3
theorem OwnU.mono {w : World} {base b : Nat} {v : Value} {l : List Nat} (h : OwnU w base v l) (hb : b ≤ base) : OwnU w b v l := by
  refine ⟨h.1, h.2.1, ?_⟩
  rcases h.2.2 with h2 | ⟨g', cap, cur, h1, h2, h3, h4⟩
  · exact .inl h2
  · exact .inr ⟨g', cap, cur, h1, Nat.le_trans hb h2, h3, h4⟩
/-- A list of slices of bytes in memory of the call's own, of each of which R is known; such a list wherever it lies. -/
def OwnL (R : World → Value → List Nat → Prop) (w : World) (base : Nat) (v : Value) (ls : List (List Nat)) : Prop :=
  ls.length ≤ 1000 ∧ ∃ xs : List Value, w.ownsRow base 22 1 v ls.length xs ∧ ∀ i, i < ls.length → ∃ q n c, xs[i]? = some (.slice q n c) ∧ R w (.slice q n c) (ls.getD i [])
def Lw (R : World → Value → List Nat → Prop) (w : World) (v : Value) (ls : List (List Nat)) : Prop :=
  ∃ p cap, v = .slice p ls.length cap ∧ (ls.length ≤ cap ∧ (p = none → cap = 0)) ∧ ls.length ≤ 1000 ∧ ∀ i, i < ls.length → ∃ a q n c, p = some a ∧ w.cell? (a.add i) = some (.slice q n c) ∧ R w (.slice q n c) (ls.getD i [])
theorem OwnL.nil (R : World → Value → List Nat → Prop) (w : World) (base : Nat) : OwnL R w base (.slice none 0 0) [] := ⟨Nat.zero_le _, [], World.ownsRow_nil _ _ _ _, fun _ h => absurd h (Nat.not_lt_zero _)⟩
theorem Lw.nil (R : World → Value → List Nat → Prop) (w : World) : Lw R w (.slice none 0 0) [] := ⟨none, 0, rfl, ⟨Nat.le_refl _, fun _ => rfl⟩, Nat.zero_le _, fun _ h => absurd h (Nat.not_lt_zero _)⟩
theorem Lw.pw {w : World} {v : Value} {ls : List (List Nat)} (h : Lw Bw w v ls) : Pw w v ls := by
  obtain ⟨p, cap, e, hc, h1, h2⟩ := h
  exact ⟨p, cap, e, hc, h1, fun i hi => by obtain ⟨a, q, n, c, e1, e2, e3⟩ := h2 i hi; exact ⟨a, _, e1, e2, e3⟩⟩
theorem Lw.imp {R S : World → Value → List Nat → Prop} {w : World} {v : Value} {ls : List (List Nat)} (h : Lw R w v ls) (hRS : ∀ x l, R w x l → S w x l) : Lw S w v ls := by
  obtain ⟨p, cap, e, hc, h1, h2⟩ := h
  exact ⟨p, cap, e, hc, h1, fun i hi => by obtain ⟨a, q, n, c, e1, e2, e3⟩ := h2 i hi; exact ⟨a, q, n, c, e1, e2, hRS _ _ e3⟩⟩
theorem Lw.one {R : World → Value → List Nat → Prop} {w : World} {g : Nat} {t : TypeId} {fr : Nat × Nat} {q : Option Addr} {n c : Nat} {l : List Nat} (hB : w.heap[g]? = some (.cells #[.slice q n c] t fr)) (h : R w (.slice q n c) l) : Lw R w (.slice (some ⟨g, 0, none⟩) 1 1) [l] := by
  refine ⟨_, _, rfl, ⟨by simp, fun e => by cases e⟩, by simp, fun i hi => ?_⟩
  have h0 : i = 0 := by simp at hi; exact hi
  subst h0
  exact ⟨_, q, n, c, rfl, by rw [show Addr.add ⟨g, 0, none⟩ 0 = ⟨g, 0, none⟩ from rfl, cell_of_row _ _ _ _ _ _ hB]; rfl, h⟩
theorem OwnL.imp {R S : World → Value → List Nat → Prop} {w : World} {base : Nat} {v : Value} {ls : List (List Nat)} (h : OwnL R w base v ls) (hRS : ∀ x l, R w x l → S w x l) : OwnL S w base v ls := by
  obtain ⟨h1, xs, h2, h3⟩ := h
  exact ⟨h1, xs, h2, fun i hi => by obtain ⟨q, n, c, e1, e2⟩ := h3 i hi; exact ⟨q, n, c, e1, hRS _ _ e2⟩⟩
theorem OwnL.mono {R : World → Value → List Nat → Prop} {w : World} {base b : Nat} {v : Value} {ls : List (List Nat)} (h : OwnL R w base v ls) (hb : b ≤ base) : OwnL R w b v ls := by
  obtain ⟨h1, xs, ⟨h0, h2⟩, h3⟩ := h
  refine ⟨h1, xs, ⟨h0, ?_⟩, h3⟩
  rcases h2 with h2 | ⟨g', cap, cur, h1, h2, h3, h4⟩
  · exact .inl h2
  · exact .inr ⟨g', cap, cur, h1, Nat.le_trans hb h2, h3, h4⟩
theorem OwnL.up {R : World → Value → List Nat → Prop} {w w' : World} {base : Nat} {v : Value} {ls : List (List Nat)} (h : OwnL R w base v ls) (hu : Up w w') (hR : ∀ x l, R w x l → R w' x l) : OwnL R w' base v ls := by
  obtain ⟨h1, xs, h2, h3⟩ := h
  exact ⟨h1, xs, World.ownsRow.up h2 hu, fun i hi => by obtain ⟨q, n, c, e1, e2⟩ := h3 i hi; exact ⟨q, n, c, e1, hR _ _ e2⟩⟩
theorem OwnL.but {R : World → Value → List Nat → Prop} {w w' : World} {base g : Nat} {v : Value} {ls : List (List Nat)} (h : OwnL R w base v ls) (hk : w.grownBy w' (some g)) (hg : g < base) (hR : ∀ x l, R w x l → R w' x l) : OwnL R w' base v ls := by
  obtain ⟨h1, xs, ⟨h0, h2⟩, h3⟩ := h
  refine ⟨h1, xs, ⟨h0, ?_⟩, fun i hi => by obtain ⟨q, n, c, e1, e2⟩ := h3 i hi; exact ⟨q, n, c, e1, hR _ _ e2⟩⟩
  rcases h2 with h2 | ⟨g', cap, cur, h1, h2, h3, h4⟩
  · exact .inl h2
  · refine .inr ⟨g', cap, cur, h1, h2, ?_, h4⟩
    rw [hk.block g' (Array.getElem?_eq_some_iff.1 h3).1 (by intro e; injection e with e; omega)]
    exact h3
theorem OwnL.lw {R : World → Value → List Nat → Prop} {w : World} {base : Nat} {v : Value} {ls : List (List Nat)} (h : OwnL R w base v ls) : Lw R w v ls := by
  obtain ⟨h1, xs, ⟨h0, h2⟩, h3⟩ := h
  rcases h2 with ⟨rfl, hn⟩ | ⟨g, cap, cur, rfl, hb, hB, hc, hm, hs, ht⟩
  · obtain rfl := List.length_eq_zero_iff.1 hn
    exact Lw.nil _ _
  · refine ⟨_, _, rfl, ⟨hc, fun e => by cases e⟩, h1, fun i hi => ?_⟩
    obtain ⟨q, n, c, e1, e2⟩ := h3 i hi
    rw [← ht, List.getElem?_take_of_lt (by omega), Array.getElem?_toList] at e1
    exact ⟨_, q, n, c, rfl, by rw [show Addr.add ⟨g, 0, none⟩ i = ⟨g, i, none⟩ by unfold Addr.add; simp; omega, cell_of_row _ _ _ _ _ _ hB, e1], e2⟩
theorem getD_app2 {ls ms : List (List Nat)} (i : Nat) : (ls ++ ms).getD i [] = if i < ls.length then ls.getD i [] else ms.getD (i - ls.length) [] := by
  rw [List.getD_eq_getElem?_getD, List.getD_eq_getElem?_getD, List.getD_eq_getElem?_getD]
  by_cases h : i < ls.length
  · rw [if_pos h, List.getElem?_append_left h]
  · rw [if_neg h, List.getElem?_append_right (by omega)]
/-- append of a list of the call's own and any other. -/
theorem appL {ops : Array Oper} {rest : List Oper} {Q : Exit → Act → World → Prop} {a : Act} {w : World} {d : Option Tmp} {s u : Operand} {ty : TypeId} {pos : String} {af : Array Edge} {base : Nat} {R : World → Value → List Nat → Prop} {v x : Value} {ls ms : List (List Nat)}
    (hs : a.eval s = v) (hu : a.eval u = x) (hown : OwnL R w base v ls) (hV : Lw R w x ms) (hbase : base ≤ w.heap.size) (hlm : ls.length + ms.length ≤ 1000) (hR : ∀ w' x l, KeepX w w' → R w x l → R w' x l)
    (h : ∀ v' w', OwnL R w' base v' (ls ++ ms) → KeepX w w' → w.grownBy w' v.ownBlock → Below base w w' → wpList Try.prog ops Q rest (a.put d v') w') :
    wpList Try.prog ops Q ({ dst := d, op := .call { callee := .builtin .append, args := #[s, u], argTypes := #[24, 24] }, type := ty, pos := pos, after := af, guard := none } :: rest) a w := by
  obtain ⟨i0, hi0, he⟩ := Option.map_eq_some_iff.1 infoL
  simp only [Prod.mk.injEq] at he
  obtain ⟨hl, xs, hxs, hE⟩ := hown
  have hlt := World.ownsRow.lt hxs
  obtain ⟨p, cap, rfl, hcap, hm, hc⟩ := hV
  have hxl : xs.length = ls.length := by have := hxs.1; omega
  have hkeep : ∀ w', w.grownBy w' v.ownBlock → KeepX w w' := by
    intro w' hg k C t fr ht hk
    rw [hg.block k (Array.getElem?_eq_some_iff.1 hk).1 ?_]
    · exact hk
    · intro e
      rcases hxs.2 with ⟨rfl, _⟩ | ⟨g, cap, cur, rfl, _, hB, _⟩
      · cases e
      · injection e with e
        subst e
        rw [hk] at hB
        injection hB with hB
        injection hB with _ hB
        exact ht hB
  have hfin : ∀ v' w' (ys : List Value), ys.length = ms.length → (∀ i, i < ms.length → ∃ q n c, ys[i]? = some (.slice q n c) ∧ R w (.slice q n c) (ms.getD i [])) → w'.ownsRow base 22 1 v' (ls.length + ms.length) (xs ++ ys) → w.grownBy w' v.ownBlock → wpList Try.prog ops Q rest (a.put d v') w' := by
    intro v' w' ys hyl hys h1 h2
    have hk := hkeep w' h2
    refine h v' w' ⟨by rw [List.length_append]; exact hlm, xs ++ ys, by rw [List.length_append]; exact h1, fun i hi => ?_⟩ hk h2 ⟨h2.os, h2.tape, h2.output, h2.size, fun k hk => h2.block k (by omega) ?_⟩
    · rw [List.length_append] at hi
      rw [getD_app2]
      by_cases hil : i < ls.length
      · obtain ⟨q, n, c, e1, e2⟩ := hE i hil
        rw [if_pos hil]
        exact ⟨q, n, c, by rw [List.getElem?_append_left (by omega)]; exact e1, hR _ _ _ hk e2⟩
      · obtain ⟨q, n, c, e1, e2⟩ := hys (i - ls.length) (by omega)
        rw [if_neg hil]
        exact ⟨q, n, c, by rw [List.getElem?_append_right (by omega), hxl]; exact e1, hR _ _ _ hk e2⟩
    · intro e
      have := hlt k e.symm
      omega
  cases p with
  | none =>
    have h0 : ms.length = 0 := by
      rcases Nat.eq_zero_or_pos ms.length with h0 | h0
      · exact h0
      · obtain ⟨ad, _, _, _, h1, _⟩ := hc 0 h0; cases h1
    have hm0 := List.length_eq_zero_iff.1 h0
    subst hm0
    obtain rfl := hcap.2 rfl
    refine wpList_append_own_none (P := Try.prog) (w := w) rfl s u 24 rfl base 22 i0 1 undL hi0 v ls.length xs hs hxs hu ?_
    exact hfin v w [] rfl (fun i hi => absurd hi (Nat.not_lt_zero _)) (by simpa using hxs) (World.grownBy.refl w _)
  | some ad =>
    let ys : List Value := (List.range ms.length).map fun i => (w.cell? (ad.add i)).getD undef
    have hyg : ∀ i, i < ms.length → ∃ q n c, ys[i]? = some (.slice q n c) ∧ w.cell? (ad.add i) = some (.slice q n c) ∧ R w (.slice q n c) (ms.getD i []) := by
      intro i hi
      obtain ⟨a2, q, n, c, e1, e2, e3⟩ := hc i hi
      injection e1 with e1
      subst e1
      refine ⟨q, n, c, ?_, e2, e3⟩
      show ((List.range ms.length).map fun i => (w.cell? (ad.add i)).getD undef)[i]? = _
      rw [List.getElem?_map, List.getElem?_range hi]
      simp [e2]
    have hyl : ys.length = ms.length := by show ((List.range ms.length).map _).length = _; rw [List.length_map, List.length_range]
    refine wpList_append_own w rfl s u 24 rfl base 22 i0 (.slice none 0 0) 1 24 undL hi0 he.1 he.2.1 he.2.2 rfl (by decide) v ls.length xs hs hxs ad ms.length cap ys hu (by omega) ?_ ?_ (by unfold maxLen; omega) (by omega) hbase ?_
    · intro j x hx
      have hj : j < ms.length := by
        have := (List.getElem?_eq_some_iff.1 hx).1
        omega
      obtain ⟨q, n, c, e1, e2, _⟩ := hyg j hj
      rw [e1] at hx
      injection hx with hx
      subst hx
      exact e2
    · intro x hx
      obtain ⟨j, hj, rfl⟩ := List.getElem_of_mem hx
      obtain ⟨q, n, c, e1, _⟩ := hyg j (by omega)
      rw [List.getElem?_eq_getElem hj] at e1
      injection e1 with e1
      rw [e1]
      rfl
    · intro v' w' h1 h2 _
      exact hfin v' w' ys hyl (fun i hi => by obtain ⟨q, n, c, e1, _, e3⟩ := hyg i hi; exact ⟨q, n, c, e1, e3⟩) h1 h2
/-- A parser in block g: what is left, how many were bad. -/
def Par (w : World) (g : Nat) (l : List Nat) (b : Nat) : Prop := ∃ v, w.heap[g]? = some (.cells #[v, .int .i64 (b : Int)] 42) ∧ OwnU w (g + 1) v l
theorem Par.up {w w' : World} {g : Nat} {l : List Nat} {b : Nat} (h : Par w g l b) (hu : Up w w') : Par w' g l b := by
  obtain ⟨v, h1, h2⟩ := h
  exact ⟨v, hu.row h1, h2.up hu⟩
theorem Par.keepX {w w' : World} {g : Nat} {l : List Nat} {b : Nat} (h : Par w g l b) (hk : KeepX w w') : Par w' g l b := by
  obtain ⟨v, h1, h2⟩ := h
  exact ⟨v, hk _ _ _ _ (by decide) h1, h2.keepX hk⟩
theorem Par.lt {w : World} {g : Nat} {l : List Nat} {b : Nat} (h : Par w g l b) : g < w.heap.size := by
  obtain ⟨v, h1, _⟩ := h
  exact (Array.getElem?_eq_some_iff.1 h1).1
theorem new_any (w : World) : Calls Try.prog 10 #[] w fun e w' => e = .returned (.pointer (some ⟨w.heap.size, 0, none⟩)) ∧ Par w' w.heap.size [] 0 ∧ Up w w' := by
  go_enter Try.func10, Try.ntmps10
  go_wp2
  go_ret
  exact ⟨rfl, ⟨_, heap_alloc_new _ _, OwnU.nil _ _⟩, Up.alloc _ _⟩
theorem bad_any {w : World} {g b : Nat} {l : List Nat} (h : Par w g l b) : Calls Try.prog 13 #[.pointer (some ⟨g, 0, none⟩)] w fun e w' => e = .returned (.int .i64 (b : Int)) ∧ w' = w := by
  obtain ⟨v, h1, _⟩ := h
  have hc1 : w.cell? ⟨g, 1, none⟩ = some (.int .i64 (b : Int)) := by rw [cell_of_row _ _ _ _ _ _ h1]; rfl
  clear h1
  go_enter Try.func13, Try.ntmps13
  go_wp2
  go_ret
  exact ⟨rfl, rfl⟩
theorem left_any {w : World} {g b : Nat} {l : List Nat} (h : Par w g l b) : Calls Try.prog 12 #[.pointer (some ⟨g, 0, none⟩)] w fun e w' => e = .returned (.int .i64 (l.length : Int)) ∧ w' = w := by
  obtain ⟨v, h1, h2⟩ := h
  obtain ⟨p, c, rfl⟩ := h2.slice
  have hc1 : w.cell? ⟨g, 0, none⟩ = some (.slice p l.length c) := by rw [cell_of_row _ _ _ _ _ _ h1]; rfl
  clear h1 h2
  generalize l.length = n at *
  go_enter Try.func12, Try.ntmps12
  go_wp2
  go_ret
  exact ⟨rfl, rfl⟩
end Go.Proofs.Ytmpikkhfeogdcaa
