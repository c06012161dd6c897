/-
  Frames: append(l, make([]byte, k)...) of bytes of the call's own.
-/
import Derived.Test.YtmpikkhfeogdcaaFr8
import Derived.Lib.AppendZeros
import Derived.Lib.AppendZerosOnto
namespace Go.Proofs.Ytmpikkhfeogdcaa
open Go Go.RowKit
set_option maxRecDepth 100000
set_option maxRecDepth 100000

theorem undInt : Try.prog.underlying 3 = some (.int .i64) := by kernel_rfl
theorem zc_valU (k : Nat) : Builtin.zeroCells (Value.int .u8 0).cells k = (valU (List.replicate k 0)).toArray := by
  unfold Builtin.zeroCells valU
  apply Array.ext
  · simp [Value.cells]
  · intro i h1 h2; simp [Value.cells, Nat.mod_one]
theorem run_appZU {w : World} {base : Nat} {ty : TypeId} {v : Value} {l : List Nat} {k : Nat} (hown : OwnU w base v l) (hbase : base ≤ w.heap.size) (h0 : 0 < l.length) (hk : 0 < k) (hl : l.length + k ≤ 1000) :
    ∃ v' w', (Builtin.append_ #[22, 3] ty #[v, .int .i64 (k : Nat)]).run Try.prog w = .ok v' w' ∧ OwnU w' base v' (l ++ List.replicate k 0) ∧ w.grownBy w' v.ownBlock := by
  obtain ⟨i0, hi0, he⟩ := Option.map_eq_some_iff.1 infoU
  simp only [Prod.mk.injEq] at he
  obtain ⟨hz0, hs0, hb0⟩ := he
  have hw : IntKind.i64.wrap (k : Int) = k := by rw [IntKind.wrap_i64]; omega
  have hlen : (l ++ List.replicate k 0).length = l.length + k := by simp
  have hvz : valU (l ++ List.replicate k 0) = valU l ++ valU (List.replicate k 0) := valU_append _ _
  have hneg : ¬ ((k : Int) < 0) := by omega
  have h48 : ¬ (281474976710656 < (k : Int)) := by omega
  have hby : ∀ x ∈ l ++ List.replicate k 0, x < 256 := fun x hx => (List.mem_append.1 hx).elim (hown.1.2 x) fun h => by rw [List.eq_of_mem_replicate h]; decide
  have hk0 : k ≠ 0 := by omega
  rcases hown.2.2 with ⟨_, h⟩ | ⟨g, cap, cur, rfl, hbg, hg, hnc, hcm, hcs, htake⟩
  · omega
  · by_cases hroom : l.length + k ≤ cap
    · have h1 : ∀ u ∈ valU (List.replicate k 0), u.oneCell' = true := by intro x hx; unfold valU at hx; obtain ⟨z, _, rfl⟩ := List.mem_map.1 hx; rfl
      have hvl : (valU (List.replicate k 0)).length = k := by unfold valU; simp
      have hst := run_storeCells_at Try.prog g l.length 5 (valU (List.replicate k 0)) 0 cur w hg (by rw [hvl]; omega) h1
      simp only [Nat.add_zero] at hst
      refine ⟨.slice (some ⟨g, 0, none⟩) (l.length + k) cap, _, ?_, ⟨⟨by rw [hlen]; omega, hby⟩, by unfold valU; simp, .inr ⟨g, cap, _, by rw [hlen], hbg, setRow_heap w g cur ((cur.toList.take l.length ++ valU (List.replicate k 0) ++ cur.toList.drop (l.length + (valU (List.replicate k 0)).length)).toArray) 5 _ hg, by rw [hlen]; exact hroom, hcm, ?_, ?_⟩⟩, ?_⟩
      · simp [Builtin.append_, run_underlying undU, run_underlying undInt, sizeOf, typeInfo, zeroValue, hi0, hz0, asInt, asIntOf, hw, hneg, h48, hs0, hb0, hk0, hroom, zc_valU, Addr.add_lit, hst]
      · simp only [List.size_toArray, List.length_append, List.length_take, List.length_drop, Array.length_toList, hvl]
        omega
      · rw [hvz, hlen]
        simp only [Nat.mul_one] at htake ⊢
        rw [htake, List.take_append_of_le_length (by unfold valU; simp), List.take_of_length_le (by unfold valU; simp)]
      · exact ⟨rfl, rfl, rfl, by simp, fun j hj hne => setRow_other _ _ _ _ fun e => hne (congrArg some e)⟩
    · have holds : ∀ j u, (valU l)[j]? = some u → w.cell? ((⟨g, 0, none⟩ : Addr).add j) = some u := World.ownsRow.cells hown.2 (g := g) rfl
      have hfo := run_firstCells_some (P := Try.prog) w.drew i0.size l.length ⟨g, 0, none⟩ l.length cap (valU l) (by unfold valU; simp [hs0]) (by simpa using holds)
      have hr := Go.Lib.run_append_grow_zeros (P := Try.prog) w 22 3 ty 5 i0 (.int .u8 0) .i64 .i64 undU undInt hi0 hz0 (some ⟨g, 0, none⟩) l.length cap (valU l) hfo k (by omega) (by omega) (by omega) (by omega) (by rw [hb0]; omega) (by rw [hb0]; exact growslice_fits (by omega) (by omega))
      have hge := grownCap_ge w (l.length + k) cap 5
      have hcm : grownCap w (l.length + k) cap 5 ≤ maxLen := grownCap_le_maxLen w (l.length + k) cap 5 (by unfold maxLen; omega)
      refine ⟨_, _, hr, ⟨⟨by rw [hlen]; omega, hby⟩, by unfold valU; simp, .inr ⟨w.heap.size, _, _, by rw [hlen], hbase, heap_alloc_new w.drew _, by rw [hlen]; exact hge, hcm, ?_, ?_⟩⟩, ?_⟩
      · rw [zc_valU, zc_valU]; unfold valU; simp; omega
      · rw [zc_valU, hvz, hlen, Nat.mul_one]
        simp only [Array.toList_append]
        rw [List.take_append_of_le_length (by unfold valU; simp)]
        rw [List.take_of_length_le (by unfold valU; simp)]
      · exact gb_of_below _ ((Below.refl _ _).drew.alloc (Nat.le_refl _) _)
theorem appZU {ops : Array Oper} {rest : List Oper} {Q : Exit → Act → World → Prop} {a : Act} {w : World} {d : Option Tmp} {s u : Operand} {ty : TypeId} {pos : String} {af : Array Edge} {base : Nat} {v : Value} {l : List Nat} {k : Nat} {K : Int}
    (hs : a.eval s = v) (hu : a.eval u = .int .i64 K) (hK : K = (k : Int)) (hown : OwnU w base v l) (hbase : base ≤ w.heap.size) (h0 : 0 < l.length) (hk : 0 < k) (hl : l.length + k ≤ 1000)
    (h : ∀ v' w', OwnU w' base v' (l ++ List.replicate k 0) → w.grownBy w' v.ownBlock → wpList Try.prog ops Q rest (a.put d v') w') :
    wpList Try.prog ops Q ({ dst := d, op := .call { callee := .builtin .append, args := #[s, u], argTypes := #[22, 3] }, type := ty, pos := pos, after := af, guard := none } :: rest) a w := by
  subst hK
  obtain ⟨v', w', h1, h2, h3⟩ := run_appZU (ty := ty) hown hbase h0 hk hl
  exact Go.Lib.wpList_append_run w rfl s u 22 3 rfl v (.int .i64 (k : Nat)) hs hu v' w' h1 (h v' w' h2 h3)
/-- A parser stands where a block below its own is written. -/
theorem Par.but {w w' : World} {g b j : Nat} {l : List Nat} (h : Par w g l b) (hk : w.grownBy w' (some j)) (hj : j < g) : Par w' g l b := by
  obtain ⟨v, h1, h2⟩ := h
  refine ⟨v, ?_, h2.but hk (by omega)⟩
  rw [hk.block g (Array.getElem?_eq_some_iff.1 h1).1 (by intro e; injection e with e; omega)]
  exact h1
end Go.Proofs.Ytmpikkhfeogdcaa
