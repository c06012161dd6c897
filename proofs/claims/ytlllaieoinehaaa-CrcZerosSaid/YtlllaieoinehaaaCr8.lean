/-
  Checksums: noughts at the front, a sum behind its own bytes (CrcZeros).
-/
import Derived.Test.YtlllaieoinehaaaCr5
import Derived.Test.YtlllaieoinehaaaCr6
namespace Go.Proofs.Ytlllaieoinehaaa
open Go Go.RowKit
set_option maxRecDepth 100000

theorem zeros_big {w : World} (p : Option Addr) {n : Nat} (cap : Nat) (a : Int) (h : 100 < n) :
    Calls Try.prog 5 #[.slice p n cap, .int .u8 a] w fun e w' => e = .returned (.bool true) ∧ Up w w' := by
  have HK := hid known_true
  go_enter Try.func5, Try.ntmps5
  go_wp2_with (first
    | (go_at_call 6; with_reducible refine (HK.out _).mono ?_; rintro e w1 ⟨rfl, hu1⟩))
  go_ret
  exact ⟨rfl, hu1⟩
theorem mkU {ops : Array Oper} {rest : List Oper} {Q : Exit → Act → World → Prop} {a : Act} {w : World} {d : Option Tmp} {l : Tmp} {ty : TypeId} {pos : String} {af : Array Edge} {L : Int} {base : Nat} (hl : a.eval (.tmp l) = .int .i64 L) (h0 : 0 ≤ L) (hn : L ≤ 1000) (hb : base ≤ w.heap.size)
    (h : ∀ g n w', OwnU w' base (.slice (some ⟨g, 0, none⟩) n n) (List.replicate n 0) → n = L.toNat → Up w w' → wpList Try.prog ops Q rest (a.put d (.slice (some ⟨g, 0, none⟩) n n)) w') :
    wpList Try.prog ops Q ({ dst := d, op := .makeSlice 22 (.tmp l) (.tmp l), type := ty, pos := pos, after := af, guard := none } :: rest) a w := by
  refine wpList_plain rfl fun _ hK => ?_
  have hi := infoU
  cases hq : Try.prog.info? 5 with
  | none => rw [hq] at hi; simp at hi
  | some i =>
    rw [hq] at hi
    simp only [Option.map_some, Option.some.injEq, Prod.mk.injEq] at hi
    have hr := run_make (P := Try.prog) (w := w) 22 5 i (.int .u8 0) undU hq hi.1 .i64 .i64 L L (by omega) (by omega) (by rw [hi.2.2]; omega) (by omega)
    rw [hi.2.1, Nat.mul_one] at hr
    have hz : madeCells (Value.int .u8 0).cells L.toNat = (valU (List.replicate L.toNat 0)).toArray := by
      unfold madeCells valU
      apply Array.ext
      · simp [Value.cells]
      · intro i h1 h2; simp [Value.cells, Nat.mod_one]
    rw [hz] at hr
    unfold Oper.wp execOp
    simp only [hl, Sem.run_bind, Sem.run_pure, Result.andThen_ok, hr]
    refine hK _ _ (h _ _ _ ⟨⟨by rw [List.length_replicate]; omega, fun x hx => by rw [List.eq_of_mem_replicate hx]; decide⟩, by unfold valU; simp, .inr ⟨_, _, _, by rw [List.length_replicate], hb, heap_alloc_new _ _, by rw [List.length_replicate]; exact Nat.le_refl _, by unfold maxLen; omega, by unfold valU; simp, by unfold valU; simp⟩⟩ rfl (Up.alloc _ _))
/-- append, guarded, of a slice of the call's own and any other. -/
theorem appG {ops : Array Oper} {rest : List Oper} {Q : Exit → Act → World → Prop} {a : Act} {w : World} {d : Option Tmp} {s u : Operand} {ty : TypeId} {pos : String} {af : Array Edge} {gd : Option (Nat × Bool)} {base : Nat} {v x : Value} {l m : List Nat}
    (hw : Region.wanted { dst := d, op := .call { callee := .builtin .append, args := #[s, u], argTypes := #[22, 22] }, type := ty, pos := pos, after := af, guard := gd } (yielded ops a.tmps) = true) (hs : a.eval s = v) (hu : a.eval u = x) (hown : OwnU w base v l) (hV : Bw w x m) (hbase : base ≤ w.heap.size) (hlm : l.length + m.length ≤ 1000)
    (h : ∀ v' w', OwnU w' base v' (l ++ m) → Below base w w' → wpList Try.prog ops Q rest (a.put d v') w') :
    wpList Try.prog ops Q ({ dst := d, op := .call { callee := .builtin .append, args := #[s, u], argTypes := #[22, 22] }, type := ty, pos := pos, after := af, guard := gd } :: rest) a w := by
  obtain ⟨i0, hi0, he⟩ := Option.map_eq_some_iff.1 infoU
  simp only [Prod.mk.injEq] at he
  refine wpList_step fun K hK => ?_
  rw [if_pos hw]
  have hlt := World.ownsRow.lt hown.2
  have hfin : ∀ v' w', w'.ownsRow base 5 1 v' (l.length + m.length) (valU l ++ valU m) → w.grownBy w' v.ownBlock → K (a.put d v') w' := by
    intro v' w' h1 h2
    refine hK _ _ (h v' w' ⟨⟨by rw [List.length_append]; exact hlm, fun x hx => (List.mem_append.1 hx).elim (hown.1.2 x) (hV.lt x)⟩, by rw [List.length_append, valU_append]; exact h1⟩ ⟨h2.os, h2.tape, h2.output, h2.size, fun k hk => h2.block k (by omega) ?_⟩)
    intro e
    have := hlt k e.symm
    omega
  obtain ⟨p, cap, rfl, hcap, _, hc⟩ := hV
  cases p with
  | none =>
    have h0 : m.length = 0 := by
      rcases Nat.eq_zero_or_pos m.length with h0 | h0
      · exact h0
      · obtain ⟨ad, h1, _⟩ := hc 0 h0; cases h1
    have hm0 := List.length_eq_zero_iff.1 h0
    subst hm0
    obtain rfl := hcap.2 rfl
    have hrun := run_append_owned_none (P := Try.prog) (w := w) base 22 ty 5 i0 1 undU hi0 v l.length (valU l) hown.2
    unfold Oper.wp
    simp [execOp, resolve, invoke, builtin, hs, hu, hrun, Result.andThen]
    exact hfin v w (by simpa [valU] using hown.2) (World.grownBy.refl w _)
  | some ad =>
    have hcell : ∀ j x, (valU m)[j]? = some x → w.cell? (ad.add j) = some x := by
      intro j x hx
      have hj : j < m.length := by
        have := (List.getElem?_eq_some_iff.1 hx).1
        unfold valU at this
        simpa using this
      obtain ⟨a2, e2, h2⟩ := hc j hj
      injection e2 with e2
      subst e2
      rw [valU_get hj] at hx
      rw [h2]; exact hx
    refine wp_append_own w s u 22 rfl base 5 i0 (.int .u8 0) 1 1 undU hi0 he.1 he.2.1 he.2.2 rfl (by decide) v l.length (valU l) hs hown.2 ad m.length cap (valU m) hu (by unfold valU; simp) hcell ?_ (by unfold maxLen; omega) (by omega) hbase ?_
    · intro x hx
      unfold valU at hx
      obtain ⟨z, _, rfl⟩ := List.mem_map.1 hx
      rfl
    · intro v' w' h1 h2 _
      exact hfin v' w' h1 h2
theorem rsum_is {v : Value} {l : List Nat} {w : World} (h : Bw w v l) {s : Nat} (hs : crL 65535 l = s) : Calls Try.prog 7 #[v] w fun e w' => e = .returned (.int .u16 (s : Int)) ∧ w' = w := by
  subst hs; exact rsum_any h
theorem flat_is {l : List Nat} {s : Nat} (h : crL 65535 l = s) : crL 65535 [l].flatten = s := by rw [flat_one]; exact h
theorem flat_is2 {l m : List Nat} {s : Nat} (h : crL 65535 (l ++ m) = s) : crL 65535 [l, m].flatten = s := by
  rw [show [l, m].flatten = l ++ m by simp]; exact h
theorem Bw.pair {w : World} {g : Nat} {t : TypeId} {fr : Nat × Nat} {x y : Int} {b c : Nat} (hB : w.heap[g]? = some (.cells #[.int .u8 x, .int .u8 y] t fr)) (hx : x = (b : Int)) (hy : y = (c : Int)) (hb : b < 256) (hc : c < 256) : Bw w (.slice (some ⟨g, 0, none⟩) 2 2) [b, c] := by
  subst hx hy
  exact Bw.mk (l := [b, c]) hB (by simp) (by simp) (by simp; omega) fun i hi => by
    have h0 : i = 0 ∨ i = 1 := by simp at hi; omega
    rcases h0 with rfl | rfl <;> rfl
set_option maxHeartbeats 1000000 in
theorem zeros_any {w : World} {p : Option Addr} {n cap : Nat} {l : List Nat} {a : Nat} (hn : l.length = n) (hB : Bw w (.slice p n cap) l) (h100 : n ≤ 100) (ha : a < 256) :
    Calls Try.prog 5 #[.slice p n cap, .int .u8 (a : Int)] w fun e w' => e = .returned (.bool true) ∧ Up w w' := by
  have HK := hid known_true
  have HB := hid (fun w' (hu : Up w w') => hB.up hu)
  have HL := hid hB.lt
  have HN := hid hn
  have hs := crL_lt (l := l) (s := 65535) (by decide) hB.lt
  have hz := crL_self (l := l) (s := 65535) (by decide) hB.lt
  obtain ⟨s, hse⟩ : ∃ s, crL 65535 l = s := ⟨_, rfl⟩
  rw [hse] at hs hz
  have H1 := hid (show crL 65535 [l].flatten = s by rw [flat_one]; exact hse)
  have H2 := hid (show crL 65535 [l, [s / 256, s % 256]].flatten = 0 by rw [show [l, [s / 256, s % 256]].flatten = l ++ [s / 256, s % 256] by simp]; exact hz)
  have h1 : s / 256 < 256 := by omega
  have h2 : s % 256 < 256 := by omega
  have HX := hid (show (s : Int) / 256 = ((s / 256 : Nat) : Int) by omega)
  have HY := hid (show (s : Int) % 256 = ((s % 256 : Nat) : Int) by omega)
  clear hB hz hse
  go_enter Try.func5, Try.ntmps5
  go_wp2_with (first
    | (go_at_call 6; with_reducible refine (HK.out _).mono ?_; rintro e w1 ⟨rfl, hu1⟩)
    | (go_at_call 8; with_reducible refine (sum_is (Pw.one (new_at rfl) ((HB.out _ hu1).up (Up.alloc _ _))) H1.out).mono ?_; rintro e w4 ⟨rfl, rfl⟩)
    | (go_at_call 8; with_reducible refine (sum_is (Pw.two (new_at (by simp)) ((HB.out _ hu1).up (((Up.alloc _ _).trans (Up.alloc _ _)).trans (Up.alloc _ _))) ((Bw.pair (new_at (by simp)) HX.out HY.out h1 h2).up (Up.alloc _ _))) H2.out).mono ?_; rintro e w5 ⟨rfl, rfl⟩)
    | ((with_reducible apply mkU (base := w.heap.size)); exact rfl; (focus omega); (focus omega); (focus (have := hu1.size; simp; omega)); rintro g3 n3 w6 hO6 hn6 hu6; have hU6 := hu1.trans ((((Up.alloc _ _).trans (Up.alloc _ _)).trans (Up.alloc _ _)).trans hu6); have hn7 : n3 ≤ 20 := (by omega); clear hn6; obtain ⟨z1, hz1⟩ : ∃ z, crL 65535 (List.replicate n3 0) = z := ⟨_, rfl⟩; obtain ⟨z2, hz2⟩ : ∃ z, crL 65535 (List.replicate n3 0 ++ l) = z := ⟨_, rfl⟩; replace hz1 := hid hz1; replace hz2 := hid hz2)
    | (go_at_call 8; with_reducible refine (sum_is (Pw.one (new_at rfl) (hO6.bw.up (Up.alloc _ _))) (flat_is hz1.out)).mono ?_; rintro e w7 ⟨rfl, rfl⟩)
    | (go_at_call 7; with_reducible refine (rsum_is (hO6.bw.up (Up.alloc _ _)) hz1.out).mono ?_; rintro e w7 ⟨rfl, rfl⟩)
    | (go_at_call 8; with_reducible refine (sum_is (Pw.two (new_at (by simp)) (hO6.bw.up ((Up.alloc _ _).trans (Up.alloc _ _))) ((HB.out _ hU6).up ((Up.alloc _ _).trans (Up.alloc _ _)))) (flat_is2 hz2.out)).mono ?_; rintro e w7 ⟨rfl, rfl⟩)
    | ((with_reducible apply appG (base := w.heap.size)); exact rfl; exact rfl; exact rfl; exact OwnU.up ((Up.alloc _ _).trans (Up.alloc _ _)) hO6; exact (HB.out _ hU6).up ((Up.alloc _ _).trans (Up.alloc _ _)); (focus (have := hU6.size; simp; omega)); (focus (rw [HN.out, List.length_replicate]; omega)); rintro v8 w8 hO8 hb8)
    | (go_at_call 7; with_reducible refine (rsum_is hO8.bw hz2.out).mono ?_; rintro e w9 ⟨rfl, rfl⟩))
  go_ret
  exact ⟨rfl, Below.trans (hU6.trans ((Up.alloc _ _).trans (Up.alloc _ _))) hb8⟩
theorem zeros_row {w : World} {p : Option Addr} {len cap : Nat} {z : List Int} {a : Int} (w0 : (p = none ∧ len = 0 ∧ cap = 0 ∧ z = []) ∨
    ∃ x, p = some x ∧ len ≤ cap ∧ cap ≤ maxLen ∧ z.length = cap ∧ (∀ i, i < z.length → w.cell? (x.add i) = some (.int .u8 (z.getD i 0))) ∧ ∀ n ∈ z, (Lit.int .u8 n).wf = true) (w1 : (Lit.int .u8 a).wf = true) :
    Calls Try.prog 5 #[.slice p len cap, .int .u8 a] w fun e w' => e = .returned (.bool true) ∧ Below w.heap.size w w' := by
  obtain ⟨a, rfl, ha⟩ := wf_nat (m := 255) w1 IntKind.min_u8 IntKind.max_u8
  by_cases h : len ≤ 100
  · obtain ⟨l, rfl, hB⟩ := bw_in w0 (by omega)
    exact zeros_any rfl hB h ha
  · exact zeros_big _ _ _ (by omega)
end Go.Proofs.Ytlllaieoinehaaa
