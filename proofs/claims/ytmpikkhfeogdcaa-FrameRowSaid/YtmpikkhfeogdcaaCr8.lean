/-
  Checksums: noughts at the front, a sum behind its own bytes (CrcZeros).
-/
import Derived.Test.YtmpikkhfeogdcaaCr5
import Derived.Test.YtmpikkhfeogdcaaCr6
namespace Go.Proofs.Ytmpikkhfeogdcaa
open Go Go.RowKit
set_option maxRecDepth 100000

theorem mkU {ops : Array Oper} {rest : List Oper} {Q : Exit → Act → World → Prop} {a : Act} {w : World} {d : Option Tmp} {l : Tmp} {ty : TypeId} {pos : String} {af : Array Edge} {L : Int} {base : Nat} (hl : a.eval (.tmp l) = .int .i64 L) (h0 : 0 ≤ L) (hn : L ≤ 1000) (hb : base ≤ w.heap.size)
    (h : ∀ g n w', OwnU w' base (.slice (some ⟨g, 0, none⟩) n n) (List.replicate n 0) → n = L.toNat → Up w w' → wpList Try.prog ops Q rest (a.put d (.slice (some ⟨g, 0, none⟩) n n)) w') :
    wpList Try.prog ops Q ({ dst := d, op := .makeSlice 22 (.tmp l) (.tmp l), type := ty, pos := pos, after := af, guard := none } :: rest) a w := by
  refine wpList_plain rfl fun _ hK => ?_
  have hi := infoU
  cases hq : Try.prog.info? 5 with
  | none => rw [hq] at hi; simp at hi
  | some i =>
    rw [hq] at hi
    simp only [Option.map_some, Option.some.injEq, Prod.mk.injEq] at hi
    have hr := run_make (P := Try.prog) (w := w) 22 5 i (.int .u8 0) undU hq hi.1 .i64 .i64 L L (by omega) (by omega) (by rw [hi.2.2]; omega) (by omega)
    rw [hi.2.1, Nat.mul_one] at hr
    have hz : madeCells (Value.int .u8 0).cells L.toNat = (valU (List.replicate L.toNat 0)).toArray := by
      unfold madeCells valU
      apply Array.ext
      · simp [Value.cells]
      · intro i h1 h2; simp [Value.cells, Nat.mod_one]
    rw [hz] at hr
    unfold Oper.wp execOp
    simp only [hl, Sem.run_bind, Sem.run_pure, Result.andThen_ok, hr]
    refine hK _ _ (h _ _ _ ⟨⟨by rw [List.length_replicate]; omega, fun x hx => by rw [List.eq_of_mem_replicate hx]; decide⟩, by unfold valU; simp, .inr ⟨_, _, _, by rw [List.length_replicate], hb, heap_alloc_new _ _, by rw [List.length_replicate]; exact Nat.le_refl _, by unfold maxLen; omega, by unfold valU; simp, by unfold valU; simp⟩⟩ rfl (Up.alloc _ _))
/-- append, guarded, of a slice of the call's own and any other. -/
theorem appG {ops : Array Oper} {rest : List Oper} {Q : Exit → Act → World → Prop} {a : Act} {w : World} {d : Option Tmp} {s u : Operand} {ty : TypeId} {pos : String} {af : Array Edge} {gd : Option (Nat × Bool)} {base : Nat} {v x : Value} {l m : List Nat}
    (hw : Region.wanted { dst := d, op := .call { callee := .builtin .append, args := #[s, u], argTypes := #[22, 22] }, type := ty, pos := pos, after := af, guard := gd } (yielded ops a.tmps) = true) (hs : a.eval s = v) (hu : a.eval u = x) (hown : OwnU w base v l) (hV : Bw w x m) (hbase : base ≤ w.heap.size) (hlm : l.length + m.length ≤ 1000)
    (h : ∀ v' w', OwnU w' base v' (l ++ m) → Below base w w' → wpList Try.prog ops Q rest (a.put d v') w') :
    wpList Try.prog ops Q ({ dst := d, op := .call { callee := .builtin .append, args := #[s, u], argTypes := #[22, 22] }, type := ty, pos := pos, after := af, guard := gd } :: rest) a w := by
  obtain ⟨i0, hi0, he⟩ := Option.map_eq_some_iff.1 infoU
  simp only [Prod.mk.injEq] at he
  refine wpList_step fun K hK => ?_
  rw [if_pos hw]
  have hlt := World.ownsRow.lt hown.2
  have hfin : ∀ v' w', w'.ownsRow base 5 1 v' (l.length + m.length) (valU l ++ valU m) → w.grownBy w' v.ownBlock → K (a.put d v') w' := by
    intro v' w' h1 h2
    refine hK _ _ (h v' w' ⟨⟨by rw [List.length_append]; exact hlm, fun x hx => (List.mem_append.1 hx).elim (hown.1.2 x) (hV.lt x)⟩, by rw [List.length_append, valU_append]; exact h1⟩ ⟨h2.os, h2.tape, h2.output, h2.size, fun k hk => h2.block k (by omega) ?_⟩)
    intro e
    have := hlt k e.symm
    omega
  obtain ⟨p, cap, rfl, hcap, _, hc⟩ := hV
  cases p with
  | none =>
    have h0 : m.length = 0 := by
      rcases Nat.eq_zero_or_pos m.length with h0 | h0
      · exact h0
      · obtain ⟨ad, h1, _⟩ := hc 0 h0; cases h1
    have hm0 := List.length_eq_zero_iff.1 h0
    subst hm0
    obtain rfl := hcap.2 rfl
    have hrun := run_append_owned_none (P := Try.prog) (w := w) base 22 ty 5 i0 1 undU hi0 v l.length (valU l) hown.2
    unfold Oper.wp
    simp [execOp, resolve, invoke, builtin, hs, hu, hrun, Result.andThen]
    exact hfin v w (by simpa [valU] using hown.2) (World.grownBy.refl w _)
  | some ad =>
    have hcell : ∀ j x, (valU m)[j]? = some x → w.cell? (ad.add j) = some x := by
      intro j x hx
      have hj : j < m.length := by
        have := (List.getElem?_eq_some_iff.1 hx).1
        unfold valU at this
        simpa using this
      obtain ⟨a2, e2, h2⟩ := hc j hj
      injection e2 with e2
      subst e2
      rw [valU_get hj] at hx
      rw [h2]; exact hx
    refine wp_append_own w s u 22 rfl base 5 i0 (.int .u8 0) 1 1 undU hi0 he.1 he.2.1 he.2.2 rfl (by decide) v l.length (valU l) hs hown.2 ad m.length cap (valU m) hu (by unfold valU; simp) hcell ?_ (by unfold maxLen; omega) (by omega) hbase ?_
    · intro x hx
      unfold valU at hx
      obtain ⟨z, _, rfl⟩ := List.mem_map.1 hx
      rfl
    · intro v' w' h1 h2 _
      exact hfin v' w' h1 h2
theorem rsum_is {v : Value} {l : List Nat} {w : World} (h : Bw w v l) {s : Nat} (hs : crL 65535 l = s) : Calls Try.prog 17 #[v] w fun e w' => e = .returned (.int .u16 (s : Int)) ∧ w' = w := by
  subst hs; exact rsum_any h
theorem flat_is {l : List Nat} {s : Nat} (h : crL 65535 l = s) : crL 65535 [l].flatten = s := by rw [flat_one]; exact h
theorem flat_is2 {l m : List Nat} {s : Nat} (h : crL 65535 (l ++ m) = s) : crL 65535 [l, m].flatten = s := by
  rw [show [l, m].flatten = l ++ m by simp]; exact h
theorem Bw.pair {w : World} {g : Nat} {t : TypeId} {fr : Nat × Nat} {x y : Int} {b c : Nat} (hB : w.heap[g]? = some (.cells #[.int .u8 x, .int .u8 y] t fr)) (hx : x = (b : Int)) (hy : y = (c : Int)) (hb : b < 256) (hc : c < 256) : Bw w (.slice (some ⟨g, 0, none⟩) 2 2) [b, c] := by
  subst hx hy
  exact Bw.mk (l := [b, c]) hB (by simp) (by simp) (by simp; omega) fun i hi => by
    have h0 : i = 0 ∨ i = 1 := by simp at hi; omega
    rcases h0 with rfl | rfl <;> rfl
end Go.Proofs.Ytmpikkhfeogdcaa
