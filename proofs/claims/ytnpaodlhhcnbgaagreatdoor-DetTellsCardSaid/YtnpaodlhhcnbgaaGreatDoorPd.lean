import Derived.Test.YtnpaodlhhcnbgaaGreatDoorPc
import Derived.Deep.AppendLies
import Derived.BigQuiet
import Derived.Deep.QuietTactic
import Derived.Deep.MidRow
import Derived.Laws.CopyRow
import Derived.Great.BuildSlice
namespace Go.Proofs.YtnpaodlhhcnbgaaGreatDoor
open Go Go.RowKit
set_option maxRecDepth 100000
theorem leavesR_app {o : Oper} {ev : Operand → Value} {w : World} {s u : Operand} {base : Nat} {v x : Value} {l m : List Int} {R : Value → World → Prop}
    (ho : o.op = .call { callee := .builtin .append, args := #[s, u], argTypes := #[22, 22] })
    (hs : ev s = v) (hu : ev u = x) (hown : OwnI w base v l) (hV : Vw w x m) (hbase : base ≤ w.heap.size) (hv : ∀ g, v.ownBlock = some g → w.heap.size ≤ g) (hl : l.length < 1000000) (hm : m.length < 1000000)
    (hR : ∀ v' w', OwnI w' base v' (l ++ m) → R v' w') : LeavesR Tryz.prog R w ((execOp ev o).run Tryz.prog w) := by
  obtain ⟨i0, hi0, he⟩ := Option.map_eq_some_iff.1 infoI
  simp only [Prod.mk.injEq] at he
  have hrun : ∀ {v' : Value} {w' : World}, (Builtin.append_ #[22, 22] o.type #[v, x]).run Tryz.prog w = .ok v' w' → (execOp ev o).run Tryz.prog w = .ok (.value v') w' := by
    intro v' w' h
    unfold execOp
    simp only [ho, resolve, invoke, builtin, Sem.run_bind, Sem.run_pure, Result.andThen_ok, List.map_toArray, List.map_cons, List.map_nil, hs, hu, h]
  have hup : ∀ w', w.grownBy w' v.ownBlock → Up w w' := fun w' h2 => ⟨h2.os, h2.tape, h2.output, h2.size, fun k hk => h2.block k hk (fun e => by have := hv k e.symm; omega)⟩
  obtain ⟨p, cap, rfl, hcap, hc⟩ := hV
  cases p with
  | none =>
    have h0 : m.length = 0 := by
      rcases Nat.eq_zero_or_pos m.length with h0 | h0
      · exact h0
      · obtain ⟨ad, h1, _⟩ := hc 0 h0; cases h1
    have hm0 := List.length_eq_zero_iff.1 h0
    subst hm0
    obtain rfl := hcap.2 rfl
    rw [hrun (run_append_owned_none (P := Tryz.prog) (w := w) base 22 o.type 2 i0 1 undI hi0 v l.length (vals l) hown)]
    exact ⟨hR v w (by simpa using hown), Up.refl _⟩
  | some ad =>
    have hcell : ∀ j x, (vals m)[j]? = some x → w.cell? (ad.add j) = some x := by
      intro j x hx
      have hj : j < m.length := by
        have := (List.getElem?_eq_some_iff.1 hx).1
        unfold vals at this
        simpa using this
      obtain ⟨a2, e2, h2⟩ := hc j hj
      injection e2 with e2
      subst e2
      rw [vals_get hj] at hx
      rw [h2]; exact hx
    obtain ⟨v', w', h1, h2, h3, _⟩ := run_append_own_at (P := Tryz.prog) w base 22 o.type 2 i0 (.int .i64 0) 1 8 undI hi0 he.1 he.2.1 he.2.2 rfl (by decide) v l.length (vals l) hown ad m.length cap (vals m) (by unfold vals; simp) hcell
      (by intro x hx; unfold vals at hx; obtain ⟨z, _, rfl⟩ := List.mem_map.1 hx; rfl) (by unfold maxLen; omega) (by omega) hbase
    rw [hrun h1]
    exact ⟨hR v' w' (by unfold OwnI; rw [List.length_append, vals_append]; exact h2), hup w' h3⟩
set_option maxHeartbeats 1000000 in
theorem copy_any {v : Value} {N : Int} {l : List Int} {w : World} (h : Sm w v N l) :
    Calls Tryz.prog 9 #[v] w fun r w' => ∃ s, r = .returned (.agg #[.int .i64 N, s]) ∧ Up w w' ∧ OwnI w' w.heap.size s l := by
  obtain ⟨s, rfl, hV, hN, hl, hlen⟩ := h
  obtain ⟨p, cap, hs, _⟩ := hV
  subst hs
  obtain ⟨W0, hW0⟩ : ∃ W0, (w.alloc (.cells #[.int .i64 N, .slice p l.length cap] 24)).alloc (.cells #[.int .i64 0, .slice none 0 0] 24) = W0 := ⟨_, rfl⟩
  have hB : Blk W0 w.heap.size 24 #[.int .i64 N, .slice p l.length cap] := by rw [← hW0]; exact (Blk.new _ _ rfl).old _
  have hQ : Blk W0 (w.heap.size + 1) 24 #[.int .i64 0, .slice none 0 0] := by rw [← hW0]; exact Blk.new _ _ (by simp)
  have hU : Up w W0 := by rw [← hW0]; exact (Up.alloc _ _).trans (Up.alloc _ _)
  have hV0 : Vw W0 (.slice p l.length cap) l := Vw.up hU ⟨p, cap, rfl, by assumption⟩
  go_enter Tryz.func9, Tryz.ntmps9
  go_wp2_with fail
  clear hW0
  refine wp_region_sp (n := 9) 6 [3, 4, 5, 6, 7, 8] [SP.is (.pointer (some ⟨w.heap.size, 0, none⟩)), SP.is (.int .i64 N), SP.is (.pointer (some ⟨w.heap.size, 1, none⟩)), SP.is (.slice p l.length cap), SP.of (fun v w1 => OwnI w1 w.heap.size v l) (fun _ _ _ h hu => OwnI.up hu h), SP.of (fun v w1 => ∃ s, v = .agg #[.int .i64 N, s] ∧ OwnI w1 w.heap.size s l) (fun _ _ _ h hu => h.imp fun _ k => ⟨k.1, OwnI.up hu k.2⟩), SP.any] (fun wq => Blk wq w.heap.size 24 #[.int .i64 N, .slice p l.length cap] ∧ Blk wq (w.heap.size + 1) 24 #[.int .i64 0, .slice none 0 0] ∧ Vw wq (.slice p l.length cap) l ∧ Below w.heap.size w wq) (by kernel_rfl) (by rfl) (by kernel_rfl) (by kernel_rfl) (fun _ _ h hu => ⟨(h.1).up hu, (h.2.1).up hu, (h.2.2.1).up hu, below_up (h.2.2.2) hu⟩) ⟨(by first | assumption | exact gBlk), (by first | assumption | exact gBlk), (by assumption), gUp⟩ (fun ev w9 hS9 i o hne hi hev => ?_) (fun gR wE hq hSE huE => ?_)
  · have ⟨hS1, hS2, hS3, hSB⟩ := hS9
    have hcC := hev.const
    have hcF := hev.func
    have hcG := hev.global
    rcases i with _ | _ | _ | _ | _ | _ | _ | i
    · obtain rfl := Option.some.inj (show some _ = some o from hi)
      have e1 := hev.other 1 (by kernel_rfl)
      simp [Act.eval] at e1
      exact leavesR_value (u := .pointer (some ⟨w.heap.size, 0, none⟩)) (by first | (go_simp; done) | (go_simp; exact rfl)) rfl
    · obtain rfl := Option.some.inj (show some _ = some o from hi)
      have e3 : ev (.tmp 3) = (.pointer (some ⟨w.heap.size, 0, none⟩)) := hev.dep 0 3 (by kernel_rfl)
      have hc0 := hS1.cell 0 rfl; exact leavesR_value (u := .int .i64 N) (by go_simp) rfl
    · obtain rfl := Option.some.inj (show some _ = some o from hi)
      have e1 := hev.other 1 (by kernel_rfl)
      simp [Act.eval] at e1
      exact leavesR_value (u := .pointer (some ⟨w.heap.size, 1, none⟩)) (by first | (go_simp; done) | (go_simp; exact rfl)) rfl
    · obtain rfl := Option.some.inj (show some _ = some o from hi)
      have e5 : ev (.tmp 5) = (.pointer (some ⟨w.heap.size, 1, none⟩)) := hev.dep 2 5 (by kernel_rfl)
      have hc0 := hS1.cell 1 rfl; exact leavesR_value (u := .slice p l.length cap) (by go_simp) rfl
    · obtain rfl := Option.some.inj (show some _ = some o from hi)
      have e6 : ev (.tmp 6) = (.slice p l.length cap) := hev.dep 3 6 (by kernel_rfl)
      exact leavesR_app (l := []) rfl (hcC _) e6 (OwnI.nil _ _) hS3 hSB.size (fun g h => by cases h) (by simp) (by omega) (fun _ _ h => h)
    · obtain rfl := Option.some.inj (show some _ = some o from hi)
      have e4 : ev (.tmp 4) = (.int .i64 N) := hev.dep 1 4 (by kernel_rfl)
      have e7 : (fun v w1 => OwnI w1 w.heap.size v l) (ev (.tmp 7)) w9 := hev.dep 4 7 (by kernel_rfl)
      dsimp only at e7
      obtain ⟨v7, hv7⟩ : ∃ v, ev (.tmp 7) = v := ⟨_, rfl⟩
      rw [hv7] at e7
      obtain ⟨p7, n7, c7, rfl⟩ := OwnI.slice e7; exact leavesR_value (u := .agg #[.int .i64 N, .slice p7 n7 c7]) (by go_simp) ⟨_, rfl, e7⟩
    · exact absurd rfl hne
    · exact absurd (show i + 7 < 7 from (Array.getElem?_eq_some_iff.1 hi).1) (by omega)
  have ⟨hS1, hS2, hS3, hSB⟩ := hSE
  have q0 : gR 3 = (.pointer (some ⟨w.heap.size, 0, none⟩)) := hq 0 3 (by decide) (by kernel_rfl)
  have q1 : gR 4 = (.int .i64 N) := hq 1 4 (by decide) (by kernel_rfl)
  have q2 : gR 5 = (.pointer (some ⟨w.heap.size, 1, none⟩)) := hq 2 5 (by decide) (by kernel_rfl)
  have q3 : gR 6 = (.slice p l.length cap) := hq 3 6 (by decide) (by kernel_rfl)
  have q4 : (fun v w1 => OwnI w1 w.heap.size v l) (gR 7) wE := hq 4 7 (by decide) (by kernel_rfl)
  dsimp only at q4
  obtain ⟨v7, hv7⟩ : ∃ v, gR 7 = v := ⟨_, rfl⟩
  rw [hv7] at q4
  have q5 : (fun v w1 => ∃ s, v = .agg #[.int .i64 N, s] ∧ OwnI w1 w.heap.size s l) (gR 8) wE := hq 5 8 (by decide) (by kernel_rfl)
  dsimp only at q5
  obtain ⟨v8, hv8⟩ : ∃ v, gR 8 = v := ⟨_, rfl⟩
  rw [hv8] at q5
  refine ⟨fun h => absurd h (by decide), fun o ho => ?_⟩
  obtain rfl := Option.some.inj (show some _ = some o from ho)
  simp only [putL, List.map_cons, List.map_nil, q0, q1, q2, q3, hv7, hv8, Act.put, pu1, pu2, pu3]
  clear hq hSE q0 q1 q2 q3
  obtain ⟨sR, rfl, hO⟩ := q5
  obtain ⟨p7, n7, c7, rfl⟩ := OwnI.slice hO
  refine wp_stM rfl rfl rfl rfl hS2 rfl rfl (two2 _ _ _ _ _) ?_
  go_wp2_with fail
  exact bodyPost_ret (resM rfl rfl (hS2.setRow _) rfl) rfl ⟨_, rfl, below_setRow hSB (by omega) _, hO.setRow hS2⟩
theorem mkI {ops : Array Oper} {rest : List Oper} {Q : Exit → Act → World → Prop} {a : Act} {w : World} {d : Option Tmp} {l : Tmp} {ty : TypeId} {pos : String} {af : Array Edge} {L : Int} (hl : a.eval (.tmp l) = .int .i64 L) (h0 : 0 ≤ L) (hn : L < 1000000)
    (h : ∀ g n c w', OwnI w' w.heap.size (.slice (some ⟨g, 0, none⟩) n c) (List.replicate L.toNat 0) → Up w w' → wpList Tryz.prog ops Q rest (a.put d (.slice (some ⟨g, 0, none⟩) n c)) w') :
    wpList Tryz.prog ops Q ({ dst := d, op := .makeSlice 22 (.tmp l) (.tmp l), type := ty, pos := pos, after := af, guard := none } :: rest) a w := by
  refine wpList_plain rfl fun _ hK => ?_
  have hi := infoI
  cases hq : Tryz.prog.info? 2 with
  | none => rw [hq] at hi; simp at hi
  | some i =>
    rw [hq] at hi
    simp only [Option.map_some, Option.some.injEq, Prod.mk.injEq] at hi
    have hr := run_make (P := Tryz.prog) (w := w) 22 2 i (.int .i64 0) undI hq hi.1 .i64 .i64 L L (by omega) (by omega) (by rw [hi.2.2]; omega) (by omega)
    rw [hi.2.1, Nat.mul_one] at hr
    have hz : madeCells (Value.int .i64 0).cells L.toNat = (vals (List.replicate L.toNat 0)).toArray := by
      unfold madeCells vals
      apply Array.ext
      · simp [Value.cells]
      · intro i h1 h2; simp [Value.cells, Nat.mod_one]
    rw [hz] at hr
    unfold Oper.wp execOp
    simp only [hl, Sem.run_bind, Sem.run_pure, Result.andThen_ok, hr]
    refine hK _ _ (h _ _ _ _ ?_ (Up.alloc _ _))
    refine ⟨by unfold vals; simp, .inr ⟨w.heap.size, L.toNat, (vals (List.replicate L.toNat 0)).toArray, by simp, Nat.le_refl _, heap_alloc_new _ _, by simp, by unfold maxLen; omega, by unfold vals; simp, by unfold vals; simp⟩⟩
def nw (n : Int) : Int := min (max n 0) 8
theorem nw_in (n : Int) : 0 ≤ nw n ∧ nw n ≤ 8 := by unfold nw; omega
def zeros (n : Int) : List Int := List.replicate (tri n).toNat 0
theorem zth_zeros (n : Int) (i : Nat) : zth (zeros n) i = 0 := by
  unfold zth zeros
  rw [List.getD_eq_getElem?_getD, List.getElem?_replicate]
  split <;> rfl
theorem in64_zeros (n : Int) : In64 (zeros n) := by intro i _; rw [zth_zeros]; unfold I64; omega
theorem len_zeros {n : Int} (h0 : 0 ≤ n) (h8 : n ≤ 8) : ((zeros n).length : Int) = tri n := by
  unfold zeros; rw [List.length_replicate]; have := tri_le h0 h8; omega
theorem rnew_any (n : Int) (w : World) :
    Calls Tryz.prog 39 #[.int .i64 n] w fun r w' => ∃ z, r = .returned z ∧ Up w w' ∧ Sm w' z (nw n) (zeros (nw n)) := by
  have ⟨n0, n8⟩ := nw_in n
  have hq : min (max n 0) 8 = nw n := rfl
  have ⟨m1, m2⟩ := tri_mul n0 n8
  have ⟨t0, t1⟩ := tri_le n0 n8
  have HZ := hid (in64_zeros (nw n))
  have HL := hid (len_zeros n0 n8)
  have htr := tri_def (nw n)
  obtain ⟨T2, hT2⟩ : ∃ p, nw n * (nw n + 1) = p := ⟨_, rfl⟩
  have hm : IntKind.i64.wrap (nw n * (nw n + 1)) = T2 := by rw [hT2]; rw [hT2] at m1 m2; exact IntWalk.i64_in _ (by omega)
  rw [hT2] at m1 m2 htr
  unfold zeros at HZ HL ⊢
  rw [htr] at HZ HL t0 t1 ⊢
  clear htr hT2
  generalize nw n = N at *
  obtain ⟨W0, hW0⟩ : ∃ W0, w.alloc (.cells #[.int .i64 0, .slice none 0 0] 24) = W0 := ⟨_, rfl⟩
  have hQ : Blk W0 w.heap.size 24 #[.int .i64 0, .slice none 0 0] := by rw [← hW0]; exact Blk.new _ _ rfl
  have hU : Up w W0 := by rw [← hW0]; exact Up.alloc _ _
  go_enter Tryz.func39, Tryz.ntmps39
  go_wp2_with (first
    | ((with_reducible apply mkI); exact rfl; (focus omega); (focus omega); rintro g n c w2 hO hu2; have hQ2 := hQ.up hu2)
    | ((with_reducible apply stM_P); exact rfl; exact rfl; exact hQ2; exact rfl; exact rfl; exact two2 _ _ _ _ _))
  exact bodyPost_ret (resM rfl rfl (hQ2.setRow _) rfl) rfl ⟨_, rfl, below_setRow (hU.trans hu2) (Nat.le_refl _) _, _, rfl, (hO.setRow hQ2).vw, by unfold I64; omega, HZ.out, by have := HL.out; omega⟩
theorem Glob.up {w w' : World} (h : Glob w) (hu : Up w w') : Glob w' := hu.cellEq h
theorem own_one {w : World} {base : Nat} {t : TypeId} {s x : Value} (h : w.ownsRow base t 1 s 1 [x]) : ∃ g cap C, s = .slice (some ⟨g, 0, none⟩) 1 cap ∧ Blk w g t C ∧ C[0]? = some x := by
  obtain ⟨_, h0 | ⟨g, cap, cur, rfl, _, hb, _, _, hsz, htake⟩⟩ := h
  · exact absurd h0.2 (by decide)
  · refine ⟨g, cap, cur, rfl, hb, ?_⟩
    rw [← Array.getElem?_toList, ← List.getElem?_take_of_lt (show 0 < 1 * 1 by decide), htake]; rfl
set_option maxHeartbeats 1000000 in
theorem rat_ent {v : Value} {N : Int} {l : List Int} (i j : Int) {w : World} (h : Sm w v N l) (hR : rt N l = true) (hr : rng N i j = true) :
    Calls Tryz.prog 22 #[v, .int .i64 i, .int .i64 j] w fun r w' => r = .returned (.int .i64 (ent N l i j)) ∧ Up w w' := by
  obtain ⟨k, hk, hkl, hke⟩ := idx_nat hR hr
  obtain ⟨r1, r2, r3, _⟩ := rt_spec hR
  obtain ⟨hi, hj⟩ := of_decide_eq_true hr
  have HX := hid (fun w => hk ▸ rat_any N i j r2 hi.1 hi.2 hj.1 hj.2 w)
  rw [hke]
  obtain ⟨s, rfl, hV, hN, hl, hlen⟩ := h
  obtain ⟨p, cap, rfl, hcap, hc⟩ := hV
  obtain ⟨ad, rfl, hcell⟩ := hc k hkl
  have hcell' := (Up.alloc w (.cells #[.int .i64 N, .slice (some ad) l.length cap] 24)).cellEq hcell
  clear hc hl hR hr hk hke hi hj r1 r2 r3 hcell
  go_enter Tryz.func22, Tryz.ntmps22
  go_wp2_with fail
  go_quiet ((go_at_call 57; exact Calls.quiet_of_same (HX.out _)))
  go_wp2_with fail
  go_ret
  exact ⟨rfl, up_alloc_drewN _ _ _⟩
def RSymPost (w : World) (N : Int) (l : List Int) (e : Int) (r : Ending) (w' : World) : Prop := ∃ z, r = .returned (.tuple #[z, .int .i64 e]) ∧ Up w w' ∧ SmO w' z N l
theorem RSymPost.err {w w' : World} {g : Nat} (e : Int) (hu : Up w w') (hg : w.heap.size ≤ g) :
    RSymPost w 0 [] e (.returned (.tuple #[.agg #[.int .i64 0, .slice none 0 0], .int .i64 e])) (w'.setRow g #[.int .i64 0, .slice none 0 0]) :=
  ⟨_, rfl, below_setRow hu hg _, SmO.zero _⟩
theorem RSymPost.ok {w w' : World} {g base : Nat} {C : Array Value} {s : Value} {N : Int} {l : List Int} (hu : Up w w') (hg : w.heap.size ≤ g) (hB : Blk w' g 24 C) (hO : OwnI w' base s l) (hN : I64 N) (hl : In64 l) (hn : l.length ≤ 1000) :
    RSymPost w N l 0 (.returned (.tuple #[.agg #[.int .i64 N, s], .int .i64 0])) (w'.setRow g #[.int .i64 N, s]) :=
  ⟨_, rfl, below_setRow hu hg _, ⟨s, base, rfl, hO.setRow hB, hN, hl, hn⟩⟩
def triN (n : Nat) : Nat := n * (n + 1) / 2
theorem tri_nat (n : Nat) : tri (n : Int) = (triN n : Nat) := by
  unfold tri triN
  rw [Int.natCast_ediv]
  simp [Int.natCast_mul]
theorem triN_succ (n : Nat) : triN (n + 1) = triN n + (n + 1) := by
  unfold triN
  rw [show (n + 1) * (n + 1 + 1) = n * (n + 1) + 2 * (n + 1) by grind]
  omega
theorem triN_mono {m n : Nat} (h : m ≤ n) : triN m ≤ triN n := by
  induction n with
  | zero => obtain rfl : m = 0 := by omega
            exact Nat.le_refl _
  | succ n ih =>
    rcases Nat.lt_or_ge m (n + 1) with h1 | h1
    · have := ih (by omega); rw [triN_succ]; omega
    · obtain rfl : m = n + 1 := by omega
      exact Nat.le_refl _
def pos (n i j : Nat) : Nat := triN n - triN (n - i) + (j - i)
theorem pos_idx {n i j : Nat} (hij : i ≤ j) (hj : j < n) : idx (n : Int) (i : Int) (j : Int) = (pos n i j : Nat) := by
  unfold idx pos
  rw [show min (i : Int) (j : Int) = (i : Int) by omega, show max (i : Int) (j : Int) = (j : Int) by omega, tri_nat, show (n : Int) - (i : Int) = ((n - i : Nat) : Int) by omega, tri_nat]
  have := triN_mono (m := n - i) (n := n) (by omega)
  omega
theorem pos_zero (n : Nat) : pos n 0 0 = 0 := by unfold pos; simp
theorem pos_succ {n i j : Nat} (hij : i ≤ j) : pos n i (j + 1) = pos n i j + 1 := by unfold pos; omega
theorem pos_row {n i : Nat} (hi : i < n) : pos n i n = pos n (i + 1) (i + 1) := by
  unfold pos
  obtain ⟨m, rfl⟩ : ∃ m, n = i + 1 + m := ⟨n - i - 1, by omega⟩
  rw [show i + 1 + m - i = m + 1 by omega, show i + 1 + m - (i + 1) = m by omega, triN_succ]
  have := triN_mono (m := m + 1) (n := i + 1 + m) (by omega)
  rw [triN_succ] at this
  omega
theorem pos_end (n : Nat) : pos n n n = triN n := by unfold pos; simp [triN]
theorem pos_lt {n i j : Nat} (hij : i ≤ j) (hj : j < n) : pos n i j < triN n := by
  have h1 : j + 1 ≤ n := hj
  have : ∀ k, j + 1 + k = n → pos n i j + 1 + k = pos n i n := by
    intro k hk
    unfold pos
    omega
  have h2 := this (n - (j + 1)) (by omega)
  have h3 := pos_row (n := n) (i := i) (by omega)
  have h4 : pos n (i + 1) (i + 1) ≤ triN n := by unfold pos; omega
  omega
def prs (n : Nat) : List (Nat × Nat) := (List.range n).flatMap fun i => (List.range (n - i)).map fun d => (i, i + d)
theorem prs_all : ∀ n, n < 9 → ∀ j, j < n → ∀ i, i < j + 1 → (prs n).getD (pos n i j) (0, 0) = (i, j) := by decide +kernel
theorem prs_at {n i j : Nat} (hn : n ≤ 8) (hij : i ≤ j) (hj : j < n) : (prs n).getD (pos n i j) (0, 0) = (i, j) := prs_all n (by omega) j hj i (by omega)
def mixed (new old : List Int) (p : Nat) : List Int := new.take p ++ old.drop p
theorem mixed_zero (new old : List Int) : mixed new old 0 = old := by simp [mixed]
theorem mixed_all {new old : List Int} (h : new.length = old.length) : mixed new old new.length = new := by unfold mixed; rw [List.take_length, h, List.drop_length, List.append_nil]
theorem mixed_len {new old : List Int} (h : new.length = old.length) (p : Nat) : (mixed new old p).length = old.length := by simp [mixed]; omega
theorem mixed_at {new old : List Int} (h : new.length = old.length) {p : Nat} (hp : p < old.length) : zth (mixed new old p) p = zth old p := by
  have e : (mixed new old p)[p]? = old[p]? := by
    unfold mixed
    rw [List.getElem?_append_right (by simp; omega)]
    simp only [List.length_take, List.getElem?_drop]
    congr 1
    omega
  unfold zth
  rw [List.getD_eq_getElem?_getD, List.getD_eq_getElem?_getD, e]
theorem mixed_get {new old : List Int} (h : new.length = old.length) (p : Nat) {q : Nat} (hq : q < old.length) : zth (mixed new old p) q = if q < p then zth new q else zth old q := by
  unfold zth mixed
  rw [List.getD_eq_getElem?_getD, List.getD_eq_getElem?_getD, List.getD_eq_getElem?_getD]
  split
  · rename_i hqp
    rw [List.getElem?_append_left (by simp; omega), List.getElem?_take_of_lt hqp]
  · rename_i hqp
    rw [List.getElem?_append_right (by simp; omega)]
    simp only [List.length_take, List.getElem?_drop]
    congr 2
    omega
theorem list_ext {a b : List Int} (h : a.length = b.length) (hz : ∀ i, i < a.length → zth a i = zth b i) : a = b := by
  apply List.ext_getElem h
  intro i h1 h2
  rw [← zth_get h1, ← zth_get h2]
  exact hz i h1
theorem zth_set {l : List Int} {k : Nat} {z : Int} {q : Nat} (hq : q < l.length) : zth (l.set k z) q = if q = k then z else zth l q := by
  rw [zth_get (by rw [List.length_set]; exact hq), List.getElem_set]
  split
  · rename_i h; rw [if_pos h.symm]
  · rename_i h; rw [if_neg (fun e => h e.symm), zth_get hq]
theorem mixed_set {new old : List Int} (h : new.length = old.length) {p : Nat} (hp : p < old.length) : (mixed new old p).set p (zth new p) = mixed new old (p + 1) := by
  apply list_ext
  · rw [List.length_set, mixed_len h, mixed_len h]
  · intro i hi
    rw [List.length_set, mixed_len h] at hi
    rw [zth_set (by rw [mixed_len h]; exact hi), mixed_get h _ hi, mixed_get h _ hi]
    split
    · rename_i e; subst e; rw [if_pos (by omega)]
    · split <;> split <;> first | rfl | omega
theorem mixed_same {new old : List Int} (h : new.length = old.length) {p q : Nat} (hpq : p ≤ q) (_ : q ≤ old.length) (hs : ∀ i, p ≤ i → i < q → zth new i = zth old i) : mixed new old p = mixed new old q := by
  apply list_ext
  · rw [mixed_len h, mixed_len h]
  · intro i hi
    rw [mixed_len h] at hi
    rw [mixed_get h _ hi, mixed_get h _ hi]
    split <;> split <;> first | rfl | omega | skip
    · rename_i h1 h2; exact (hs i (by omega) h2).symm
def mk (m : Nat) (f : Nat → Int) : List Int := (List.range m).map f
theorem mk_len (m : Nat) (f : Nat → Int) : (mk m f).length = m := by simp [mk]
theorem mk_at {m : Nat} {f : Nat → Int} {i : Nat} (h : i < m) : zth (mk m f) i = f i := by
  rw [zth_get (by rw [mk_len]; exact h)]
  simp [mk]
def ouL (n : Nat) (l : List Int) (x : Int) (h : List Int) : List Int := mk l.length fun p => zth l p + x * zth h ((prs n).getD p (0, 0)).1 * zth h ((prs n).getD p (0, 0)).2
def diL (n : Nat) (l : List Int) (x : Int) : List Int := mk l.length fun p => if ((prs n).getD p (0, 0)).1 = ((prs n).getD p (0, 0)).2 then zth l p + x else zth l p
theorem inR_bp {z : Int} {k : Nat} (hk : k ≤ 15) (h : z.natAbs < bp k) : InR z := by
  have h1 := bp_mono hk
  have h2 : bp 15 ≤ hb := by have := bp_succ 15; have := bp_pos 15; have h3 := bp16; unfold hb at *; omega
  exact InR.mk' (by omega)
theorem wp_folded {P : Program} {c : Code} {Q : Exit → Act → World → Prop} {a : Act} {w : World} (R : World → Prop) (h : R w) (k : ∀ w', R w' → c.wp P Q a w') : c.wp P Q a w := k w h
theorem leavesR_up {P : Program} {R : Value → World → Prop} {w w' : World} {r : Result Next} {u : Value} (h : r = .ok (.value u) w') (hu : Up w w') (hR : R u w') : LeavesR P R w r := by subst h; exact ⟨hR, hu⟩
def ouC (N : Int) (l : List Int) (x : Int) (h : List Int) : Int := if rt N l && decide ((h.length : Int) = N) then (if (ouL N.toNat l x h).all fit then 0 else 21) else 23
def ouR (N : Int) (l : List Int) (x : Int) (h : List Int) : List Int := if ouC N l x h = 0 then ouL N.toNat l x h else []
def ouN (N : Int) (l : List Int) (x : Int) (h : List Int) : Int := if ouC N l x h = 0 then N else 0
theorem ouL_len (n : Nat) (l : List Int) (x : Int) (h : List Int) : (ouL n l x h).length = l.length := mk_len _ _
theorem ouL_at {n : Nat} {l : List Int} (x : Int) (h : List Int) (hn : n ≤ 8) (hl : l.length = triN n) {i j : Nat} (hij : i ≤ j) (hj : j < n) : zth (ouL n l x h) (pos n i j) = zth l (pos n i j) + x * zth h i * zth h j := by
  unfold ouL
  rw [mk_at (by rw [hl]; exact pos_lt hij hj), prs_at hn hij hj]
theorem fit_i64 {v : Int} (h : fit v = true) : I64 v := by have := of_decide_eq_true h; unfold I64; omega
theorem In64.of_fit {l : List Int} (h : ∀ q, q < l.length → fit (zth l q) = true) : In64 l := fun q hq => fit_i64 (h q hq)
theorem vw_three (w : World) (a b c : Int) : Vw (w.alloc (.cells #[.int .i64 a, .int .i64 b, .int .i64 c] 2)) (.slice (some ⟨w.heap.size, 0, none⟩) 3 3) [a, b, c] := by
  refine ⟨_, 3, rfl, ⟨Nat.le_refl _, fun e => by cases e⟩, fun i hi => ⟨_, rfl, ?_⟩⟩
  rcases i with _ | _ | _ | i
  · simp [zth, Addr.add]
  · simp [zth, Addr.add]
  · simp [zth, Addr.add]
  · simp at hi; omega
theorem ord_len {x y : Nat} (h : nl x < nl y) : x < y := by
  have h1 := lt_bp_nl x
  have h2 := bp_le_nl (show 0 < nl y by omega)
  have h3 := bp_mono (show nl x ≤ nl y - 1 by omega)
  omega
set_option maxHeartbeats 1000000 in
theorem cmp_am {x y : Nat} {va vb : Value} {w : World} (ha : Am w va x) (hb : Am w vb y) (_ : nl x < 1000000) (hy : nl y < 1000000) :
    Calls Tryz.prog 86 #[va, vb] w fun e w' => e = .returned (.int .i64 (ordZ x y)) ∧ Up w w' := by
  obtain ⟨a, ca, rfl, hca1, hca0⟩ := ha.open
  obtain ⟨b, cb, rfl, hcb1, hcb0⟩ := hb.open
  clear ha hb
  rcases Nat.lt_trichotomy (nl x) (nl y) with h | h | h
  · have e : ordZ x y = -1 := by unfold ordZ; rw [if_pos (ord_len h)]
    rw [e]
    have d0 : ((nl x : Int) != (nl y : Nat)) = true := by simp; omega
    have d1 : decide ((nl x : Int) < (nl y : Nat)) = true := decide_eq_true (by omega)
    clear e hca0 hcb0
    generalize nl x = p at *
    generalize nl y = q at *
    go_enter Tryz.func86, Tryz.ntmps86
    go_wp2
    go_ret
    exact ⟨rfl, gUp⟩
  · have H := hid h
    go_enter Tryz.func86, Tryz.ntmps86
    rw [h]
    clear h
    go_wp2
    go_loopw [5] (fun i wr => ∃ m : Nat, m ≤ nl y ∧ i = .int .i64 ((m : Int) - 1) ∧ (∀ i, m ≤ i → i < nl y → limb x i = limb y i) ∧ Below w.heap.size w wr)
      (fun i _ => (intOf i + 1).toNat)
    case atStart => exact ⟨nl y, Nat.le_refl _, rfl, fun i h1 h2 => by omega, Below.refl _ _⟩
    case round =>
      obtain ⟨m, hm, rfl, hgx, hB⟩ := hrel
      have Hgx := hid hgx
      clear hgx
      by_cases hlt : 0 < m
      · obtain ⟨k, rfl⟩ : ∃ k, m = k + 1 := ⟨m - 1, by omega⟩
        have e : (((k + 1 : Nat) : Int) - 1) = (k : Int) := by omega
        rw [e]
        clear e
        have hHy := H.out
        obtain ⟨ba, rfl, hba, hca⟩ := hca0 k (by omega)
        obtain ⟨bb, rfl, hbb, hcb⟩ := hcb0 k (by omega)
        clear hHy
        have hcx := hca wr hB
        have hcy := hcb wr hB
        have hl1 := limb_lt x k
        have hl2 := limb_lt y k
        have sx : sumL (limb x) (nl y) = x := by rw [← H.out]; exact sum_nl x
        have sy := sum_nl y
        have h1 : limb x k < limb y k → ordZ x y = -1 := fun h => by
          have := sumL_lt_of (fun i _ => limb_lt x i) (show k < nl y by omega) (fun j h1 h2 => Hgx.out j (by omega) h2) h
          rw [sx, sy] at this
          simp [ordZ, this]
        have h2 : limb y k < limb x k → ordZ x y = 1 := fun h => by
          have := sumL_lt_of (fun i _ => limb_lt y i) (show k < nl y by omega) (fun j h1 h2 => (Hgx.out j (by omega) h2).symm) h
          rw [sx, sy] at this
          have h3 : ¬ x < y := by omega
          simp [ordZ, this, h3]
        have hE : limb x k = limb y k → ∀ i, k ≤ i → i < nl y → limb x i = limb y i := fun h i h1 h2 => by
          by_cases e : i = k
          · rw [e]; exact h
          · exact Hgx.out i (by omega) h2
        have H1 := hid h1
        have H2 := hid h2
        have HE := hid hE
        clear sx sy h1 h2 hE hca hcb hca0 hcb0
        generalize limb x k = lx at *
        generalize limb y k = ly at *
        rcases Nat.lt_trichotomy lx ly with h | h | h
        · have d0 : ((lx : Int) != ly) = true := by simp; omega
          have d1 : decide ((lx : Int) < ly) = true := decide_eq_true (by omega)
          go_wp2
          go_quiet (fail)
          go_wp2
          go_quiet (fail)
          go_wp2
          go_ret
          exact ⟨ret_int (H1.out h).symm, below_drewN (below_drewN hB _) _⟩
        · have HF := hid (HE.out h)
          have d0 : ((lx : Int) != ly) = false := by simp; omega
          clear HE
          go_wp2
          go_quiet (fail)
          go_wp2
          go_roundw
          case rel => exact ⟨k, by omega, by go_num, HF.out, below_drewN hB _⟩
          case measure => simp [intOf] <;> omega
        · have d0 : ((lx : Int) != ly) = true := by simp; omega
          have d1 : decide ((lx : Int) < ly) = false := decide_eq_false (by omega)
          go_wp2
          go_quiet (fail)
          go_wp2
          go_quiet (fail)
          go_wp2
          go_ret
          exact ⟨ret_int (H2.out h).symm, below_drewN (below_drewN hB _) _⟩
      · obtain rfl : m = 0 := by omega
        have h0 : x = y := by
          rw [← sum_nl x, ← sum_nl y, H.out]
          exact sumL_congr fun i hi => Hgx.out i (by omega) hi
        have H0 := hid h0
        clear h0
        go_wp2
        go_ret
        exact ⟨ret_int (by simp [ordZ, H0.out]), hB⟩
  · have e : ordZ x y = 1 := by
      have := ord_len h
      unfold ordZ
      rw [if_neg (by omega)]
      first | rw [if_neg (by omega)] | rw [if_pos (by omega)]
    rw [e]
    have d0 : ((nl x : Int) != (nl y : Nat)) = true := by simp; omega
    have d1 : decide ((nl x : Int) < (nl y : Nat)) = false := decide_eq_false (by omega)
    clear e hca0 hcb0
    generalize nl x = p at *
    generalize nl y = q at *
    go_enter Tryz.func86, Tryz.ntmps86
    go_wp2
    go_ret
    exact ⟨rfl, gUp⟩
theorem Am.setRow {w : World} {v : Value} {x g : Nat} {C D : Array Value} (h : Am w v x) (hg : Blk w g 46 C) : Am (w.setRow g D) v x := by
  obtain ⟨a, c, h1, h2, h3⟩ := h
  refine ⟨a, c, h1, h2, fun h0 => ?_⟩
  obtain ⟨b, E, h4, h6, h7⟩ := h3 h0
  refine ⟨b, E, h4, h6.row_other D ?_, h7⟩
  rintro rfl
  unfold Blk at *
  rw [hg] at h6
  simp at h6
theorem Big.setRow {w : World} {v : Value} {z : Int} {g : Nat} {C D : Array Value} (h : Big w v z) (hg : Blk w g 46 C) : Big (w.setRow g D) v z := by
  obtain ⟨a, c, h1, h2⟩ := h
  exact ⟨a, c, h1, h2.setRow hg⟩
theorem Big.shape {w : World} {v : Value} {z : Int} (h : Big w v z) : ∃ b a n c, v = .agg #[.bool b, .slice a n c] := by
  obtain ⟨a, c, h1, _⟩ := h
  exact ⟨_, a, _, c, h1⟩
theorem pm_int (z : Int) : z = pm (decide (z < 0)) z.natAbs := by
  by_cases h : z < 0 <;> simp [pm, h] <;> omega
theorem pm_same (p : Bool) (X Y : Nat) : pm p X + pm p Y = pm p (X + Y) := by cases p <;> simp [pm] <;> omega
theorem pm_more {p : Bool} {X Y : Nat} (h : Y ≤ X) : pm p X + pm (!p) Y = pm p (X - Y) := by cases p <;> simp [pm] <;> omega
theorem pm_less {p : Bool} {X Y : Nat} (h : X < Y) : pm p X + pm (!p) Y = pm (!p) (Y - X) := by cases p <;> simp [pm] <;> omega
set_option maxHeartbeats 1000000 in
theorem add_pm (p q : Bool) (X Y : Nat) (a b : Option Addr) (ca cb : Nat) (w : World) (hA : Am w (.slice a (nl X) ca) X) (hB : Am w (.slice b (nl Y) cb) Y) (hx : nl X < 50000) (hy : nl Y < 50000) :
    Calls Tryz.prog 72 #[.agg #[.bool p, .slice a (nl X) ca], .agg #[.bool q, .slice b (nl Y) cb]] w fun e w' => Up w w' ∧ ∃ v, e = .returned v ∧ Big w' v (pm p X + pm q Y) := by
  by_cases hpq : p = q
  · subst hpq
    rw [pm_same]
    go_enter Tryz.func72, Tryz.ntmps72
    go_wp2
    refine wp_region_upS (S := (fun wq => Blk wq (w.heap.size + 1 + 1) 46 #[.bool false, .slice none 0 0] ∧ wq.cell? ⟨w.heap.size, 0, none⟩ = some (.bool p) ∧ wq.cell? ⟨w.heap.size, 1, none⟩ = some (.slice a (nl X) ca) ∧ wq.cell? ⟨w.heap.size + 1, 1, none⟩ = some (.slice b (nl Y) cb) ∧ Below w.heap.size w wq)) (req := (fun j => j != 8)) (by kernel_rfl) (fun _ _ h hu => ⟨(h.1).up hu, hu.cell (h.2.1), hu.cell (h.2.2.1), hu.cell (h.2.2.2.1), below_up (h.2.2.2.2) hu⟩) ⟨gBlk, (by first | assumption | (apply Blk.cell; exact gBlk; exact rfl)), (by first | assumption | (apply Blk.cell; exact gBlk; exact rfl)), (by first | assumption | (apply Blk.cell; exact gBlk; exact rfl)), gUp⟩ (fun wS hSS => ?_)
    have ⟨hS1, hS2, hS3, hS4, hSB⟩ := hSS
    refine wpAnyU_pure (i := 0) (d := (some 10)) (v := ?_) rfl rfl (by kernel_rfl) (fun _ _ _ h => h) (fun _ _ h hu => ⟨(h.1).up hu, hu.cell (h.2.1), hu.cell (h.2.2.1), hu.cell (h.2.2.2.1), below_up (h.2.2.2.2) hu⟩) (Or.inl ⟨by rfl, fun w' _ => yu_value ?_⟩) ?_
    rotate_left
    · (go_simp; (try exact rfl))
    try simp only [Act.put, pu1, pu2, pu3]
    refine wpAnyU_take (i := 1) (d := (some 11)) (v := ?_) rfl rfl (by kernel_rfl) (fun _ _ _ h => h) (fun _ _ h hu => ⟨(h.1).up hu, hu.cell (h.2.1), hu.cell (h.2.2.1), hu.cell (h.2.2.2.1), below_up (h.2.2.2.2) hu⟩) hSS (Or.inl ⟨by rfl, fun w' hSw => yu_value ?_⟩) ?_
    rotate_left
    · ((try dsimp only at hSw); (try obtain ⟨_, _, _, _, _⟩ := hSw); go_simp; (try exact rfl))
    try simp only [Act.put, pu1, pu2, pu3]
    refine wpAnyU_pure (i := 2) (d := (some 12)) (v := ?_) rfl rfl (by kernel_rfl) (fun _ _ _ h => h) (fun _ _ h hu => ⟨(h.1).up hu, hu.cell (h.2.1), hu.cell (h.2.2.1), hu.cell (h.2.2.2.1), below_up (h.2.2.2.2) hu⟩) (Or.inl ⟨by rfl, fun w' _ => yu_value ?_⟩) ?_
    rotate_left
    · (go_simp; (try exact rfl))
    try simp only [Act.put, pu1, pu2, pu3]
    refine wpAnyU_take (i := 3) (d := (some 13)) (v := ?_) rfl rfl (by kernel_rfl) (fun _ _ _ h => h) (fun _ _ h hu => ⟨(h.1).up hu, hu.cell (h.2.1), hu.cell (h.2.2.1), hu.cell (h.2.2.2.1), below_up (h.2.2.2.2) hu⟩) hSS (Or.inl ⟨by rfl, fun w' hSw => yu_value ?_⟩) ?_
    rotate_left
    · ((try dsimp only at hSw); (try obtain ⟨_, _, _, _, _⟩ := hSw); go_simp; (try exact rfl))
    try simp only [Act.put, pu1, pu2, pu3]
    refine wpAnyU_pure (i := 4) (d := (some 14)) (v := ?_) rfl rfl (by kernel_rfl) (fun _ _ _ h => h) (fun _ _ h hu => ⟨(h.1).up hu, hu.cell (h.2.1), hu.cell (h.2.2.1), hu.cell (h.2.2.2.1), below_up (h.2.2.2.2) hu⟩) (Or.inl ⟨by rfl, fun w' _ => yu_value ?_⟩) ?_
    rotate_left
    · (go_simp; (try exact rfl))
    try simp only [Act.put, pu1, pu2, pu3]
    refine wpAnyU_take (i := 5) (d := (some 15)) (v := ?_) rfl rfl (by kernel_rfl) (fun _ _ _ h => h) (fun _ _ h hu => ⟨(h.1).up hu, hu.cell (h.2.1), hu.cell (h.2.2.1), hu.cell (h.2.2.2.1), below_up (h.2.2.2.2) hu⟩) hSS (Or.inl ⟨by rfl, fun w' hSw => yu_value ?_⟩) ?_
    rotate_left
    · ((try dsimp only at hSw); (try obtain ⟨_, _, _, _, _⟩ := hSw); go_simp; (try exact rfl))
    try simp only [Act.put, pu1, pu2, pu3]
    refine wpAnyU_callE (i := 6) (d := (some 16)) rfl rfl (by kernel_rfl) (by rfl) (fun _ _ h hu => ⟨(h.1).up hu, hu.cell (h.2.1), hu.cell (h.2.2.1), hu.cell (h.2.2.2.1), below_up (h.2.2.2.2) hu⟩) (fun w' => by go_simp) (fun w' hw' => plus_am (hA.up (below_up hSB hw')) (hB.up (below_up hSB hw')) (by omega) (by omega)) fun vP wP hwP hRP => ?_
    try simp only [Act.put, pu1, pu2, pu3]
    obtain ⟨a1, c1, rfl⟩ := hRP.shape
    refine wpAnyU_callE (i := 7) (d := (some 17)) rfl rfl (by kernel_rfl) (by rfl) (fun _ _ h hu => ⟨(h.1).up hu, hu.cell (h.2.1), hu.cell (h.2.2.1), hu.cell (h.2.2.2.1), below_up (h.2.2.2.2) hu⟩) (fun w' => by go_simp) (fun w' hw' => callE_of (made_any p a1 (nl (X + Y)) c1 w')) fun vM wM hwM hRM => ?_
    try simp only [Act.put, pu1, pu2, pu3]
    subst hRM
    refine wpAnyU_one (i := 8) rfl (by kernel_rfl) (by rfl) fun w2 hw2 => ?_
    have gK := ((hS1.up hwP).up hwM).up hw2
    refine wp_stB rfl rfl rfl rfl gK rfl rfl (one2 _ _ _ _) ?_
    refine ⟨fun h => by simp at h, ?_⟩
    try simp only [Act.put, pu1, pu2, pu3]
    refine wpAnyU_done (by kernel_rfl) (fun wF huE => ?_) _
    have gR := (gK.setRow #[.bool (p && decide (0 < nl (X + Y))), .slice a1 (nl (X + Y)) c1]).up huE
    have gA := (((hRP.up hwM).up hw2).setRow (D := #[.bool (p && decide (0 < nl (X + Y))), .slice a1 (nl (X + Y)) c1]) gK).up huE
    have gB := below_up (below_setRow (below_up (below_up (below_up hSB hwP) hwM) hw2) (show w.heap.size ≤ w.heap.size + 1 + 1 by omega) #[.bool (p && decide (0 < nl (X + Y))), .slice a1 (nl (X + Y)) c1]) huE
    have gBig := big_made p gA
    clear gK hRP hwP hwM hw2 huE hS1 hS2 hS3 hS4 hSB hSS gA
    go_wp2
    exact bodyPost_ret (resB rfl rfl gR rfl) rfl ⟨gB, _, rfl, gBig⟩
  · have hq : q = !p := by cases p <;> cases q <;> simp_all
    subst hq
    have d0 : (p == !p) = false := by cases p <;> rfl
    clear hpq
    by_cases hc : Y ≤ X
    · rw [pm_more hc]
      have d1 : decide (0 ≤ ordZ X Y) = true := by
        unfold ordZ
        rw [if_neg (by omega)]
        split <;> simp
      go_enter Tryz.func72, Tryz.ntmps72
      go_wp2_with (first | (go_at_call 86; (with_reducible refine (cmp_am (hA.up gUp) (hB.up gUp) (by omega) (by omega)).mono ?_); rintro e wC ⟨rfl, huC⟩))
      refine wp_region_upS (S := (fun wq => Blk wq (w.heap.size + 1 + 1) 46 #[.bool false, .slice none 0 0] ∧ wq.cell? ⟨w.heap.size, 0, none⟩ = some (.bool p) ∧ wq.cell? ⟨w.heap.size, 1, none⟩ = some (.slice a (nl X) ca) ∧ wq.cell? ⟨w.heap.size + 1, 1, none⟩ = some (.slice b (nl Y) cb) ∧ Below w.heap.size w wq)) (req := (fun j => j != 8)) (by kernel_rfl) (fun _ _ h hu => ⟨(h.1).up hu, hu.cell (h.2.1), hu.cell (h.2.2.1), hu.cell (h.2.2.2.1), below_up (h.2.2.2.2) hu⟩) ⟨gBlk, (by first | assumption | (apply Blk.cell; exact gBlk; exact rfl)), (by first | assumption | (apply Blk.cell; exact gBlk; exact rfl)), (by first | assumption | (apply Blk.cell; exact gBlk; exact rfl)), gUp⟩ (fun wS hSS => ?_)
      have ⟨hS1, hS2, hS3, hS4, hSB⟩ := hSS
      refine wpAnyU_pure (i := 0) (d := (some 24)) (v := ?_) rfl rfl (by kernel_rfl) (fun _ _ _ h => h) (fun _ _ h hu => ⟨(h.1).up hu, hu.cell (h.2.1), hu.cell (h.2.2.1), hu.cell (h.2.2.2.1), below_up (h.2.2.2.2) hu⟩) (Or.inl ⟨by rfl, fun w' _ => yu_value ?_⟩) ?_
      rotate_left
      · (go_simp; (try exact rfl))
      try simp only [Act.put, pu1, pu2, pu3]
      refine wpAnyU_take (i := 1) (d := (some 25)) (v := ?_) rfl rfl (by kernel_rfl) (fun _ _ _ h => h) (fun _ _ h hu => ⟨(h.1).up hu, hu.cell (h.2.1), hu.cell (h.2.2.1), hu.cell (h.2.2.2.1), below_up (h.2.2.2.2) hu⟩) hSS (Or.inl ⟨by rfl, fun w' hSw => yu_value ?_⟩) ?_
      rotate_left
      · ((try dsimp only at hSw); (try obtain ⟨_, _, _, _, _⟩ := hSw); go_simp; (try exact rfl))
      try simp only [Act.put, pu1, pu2, pu3]
      refine wpAnyU_pure (i := 2) (d := (some 26)) (v := ?_) rfl rfl (by kernel_rfl) (fun _ _ _ h => h) (fun _ _ h hu => ⟨(h.1).up hu, hu.cell (h.2.1), hu.cell (h.2.2.1), hu.cell (h.2.2.2.1), below_up (h.2.2.2.2) hu⟩) (Or.inl ⟨by rfl, fun w' _ => yu_value ?_⟩) ?_
      rotate_left
      · (go_simp; (try exact rfl))
      try simp only [Act.put, pu1, pu2, pu3]
      refine wpAnyU_take (i := 3) (d := (some 27)) (v := ?_) rfl rfl (by kernel_rfl) (fun _ _ _ h => h) (fun _ _ h hu => ⟨(h.1).up hu, hu.cell (h.2.1), hu.cell (h.2.2.1), hu.cell (h.2.2.2.1), below_up (h.2.2.2.2) hu⟩) hSS (Or.inl ⟨by rfl, fun w' hSw => yu_value ?_⟩) ?_
      rotate_left
      · ((try dsimp only at hSw); (try obtain ⟨_, _, _, _, _⟩ := hSw); go_simp; (try exact rfl))
      try simp only [Act.put, pu1, pu2, pu3]
      refine wpAnyU_pure (i := 4) (d := (some 28)) (v := ?_) rfl rfl (by kernel_rfl) (fun _ _ _ h => h) (fun _ _ h hu => ⟨(h.1).up hu, hu.cell (h.2.1), hu.cell (h.2.2.1), hu.cell (h.2.2.2.1), below_up (h.2.2.2.2) hu⟩) (Or.inl ⟨by rfl, fun w' _ => yu_value ?_⟩) ?_
      rotate_left
      · (go_simp; (try exact rfl))
      try simp only [Act.put, pu1, pu2, pu3]
      refine wpAnyU_take (i := 5) (d := (some 29)) (v := ?_) rfl rfl (by kernel_rfl) (fun _ _ _ h => h) (fun _ _ h hu => ⟨(h.1).up hu, hu.cell (h.2.1), hu.cell (h.2.2.1), hu.cell (h.2.2.2.1), below_up (h.2.2.2.2) hu⟩) hSS (Or.inl ⟨by rfl, fun w' hSw => yu_value ?_⟩) ?_
      rotate_left
      · ((try dsimp only at hSw); (try obtain ⟨_, _, _, _, _⟩ := hSw); go_simp; (try exact rfl))
      try simp only [Act.put, pu1, pu2, pu3]
      refine wpAnyU_callE (i := 6) (d := (some 30)) rfl rfl (by kernel_rfl) (by rfl) (fun _ _ h hu => ⟨(h.1).up hu, hu.cell (h.2.1), hu.cell (h.2.2.1), hu.cell (h.2.2.2.1), below_up (h.2.2.2.2) hu⟩) (fun w' => by go_simp) (fun w' hw' => minus_am (hA.up (below_up hSB hw')) (hB.up (below_up hSB hw')) (by omega) hc) fun vP wP hwP hRP => ?_
      try simp only [Act.put, pu1, pu2, pu3]
      obtain ⟨a1, c1, rfl⟩ := hRP.shape
      refine wpAnyU_callE (i := 7) (d := (some 31)) rfl rfl (by kernel_rfl) (by rfl) (fun _ _ h hu => ⟨(h.1).up hu, hu.cell (h.2.1), hu.cell (h.2.2.1), hu.cell (h.2.2.2.1), below_up (h.2.2.2.2) hu⟩) (fun w' => by go_simp) (fun w' hw' => callE_of (made_any p a1 (nl (X - Y)) c1 w')) fun vM wM hwM hRM => ?_
      try simp only [Act.put, pu1, pu2, pu3]
      subst hRM
      refine wpAnyU_one (i := 8) rfl (by kernel_rfl) (by rfl) fun w2 hw2 => ?_
      have gK := ((hS1.up hwP).up hwM).up hw2
      refine wp_stB rfl rfl rfl rfl gK rfl rfl (one2 _ _ _ _) ?_
      refine ⟨fun h => by simp at h, ?_⟩
      try simp only [Act.put, pu1, pu2, pu3]
      refine wpAnyU_done (by kernel_rfl) (fun wF huE => ?_) _
      have gR := (gK.setRow #[.bool (p && decide (0 < nl (X - Y))), .slice a1 (nl (X - Y)) c1]).up huE
      have gA := (((hRP.up hwM).up hw2).setRow (D := #[.bool (p && decide (0 < nl (X - Y))), .slice a1 (nl (X - Y)) c1]) gK).up huE
      have gB := below_up (below_setRow (below_up (below_up (below_up hSB hwP) hwM) hw2) (show w.heap.size ≤ w.heap.size + 1 + 1 by omega) #[.bool (p && decide (0 < nl (X - Y))), .slice a1 (nl (X - Y)) c1]) huE
      have gBig := big_made p gA
      clear gK hRP hwP hwM hw2 huE hS1 hS2 hS3 hS4 hSB hSS gA
      go_wp2
      exact bodyPost_ret (resB rfl rfl gR rfl) rfl ⟨gB, _, rfl, gBig⟩
    · rw [pm_less (by omega)]
      have d1 : decide (0 ≤ ordZ X Y) = false := by
        unfold ordZ
        rw [if_pos (by omega)]
        rfl
      go_enter Tryz.func72, Tryz.ntmps72
      go_wp2_with (first | (go_at_call 86; (with_reducible refine (cmp_am (hA.up gUp) (hB.up gUp) (by omega) (by omega)).mono ?_); rintro e wC ⟨rfl, huC⟩))
      refine wp_region_upS (S := (fun wq => Blk wq (w.heap.size + 1 + 1) 46 #[.bool false, .slice none 0 0] ∧ wq.cell? ⟨w.heap.size + 1, 0, none⟩ = some (.bool (!p)) ∧ wq.cell? ⟨w.heap.size + 1, 1, none⟩ = some (.slice b (nl Y) cb) ∧ wq.cell? ⟨w.heap.size, 1, none⟩ = some (.slice a (nl X) ca) ∧ Below w.heap.size w wq)) (req := (fun j => j != 8)) (by kernel_rfl) (fun _ _ h hu => ⟨(h.1).up hu, hu.cell (h.2.1), hu.cell (h.2.2.1), hu.cell (h.2.2.2.1), below_up (h.2.2.2.2) hu⟩) ⟨gBlk, (by first | assumption | (apply Blk.cell; exact gBlk; exact rfl)), (by first | assumption | (apply Blk.cell; exact gBlk; exact rfl)), (by first | assumption | (apply Blk.cell; exact gBlk; exact rfl)), gUp⟩ (fun wS hSS => ?_)
      have ⟨hS1, hS2, hS3, hS4, hSB⟩ := hSS
      refine wpAnyU_pure (i := 0) (d := (some 32)) (v := ?_) rfl rfl (by kernel_rfl) (fun _ _ _ h => h) (fun _ _ h hu => ⟨(h.1).up hu, hu.cell (h.2.1), hu.cell (h.2.2.1), hu.cell (h.2.2.2.1), below_up (h.2.2.2.2) hu⟩) (Or.inl ⟨by rfl, fun w' _ => yu_value ?_⟩) ?_
      rotate_left
      · (go_simp; (try exact rfl))
      try simp only [Act.put, pu1, pu2, pu3]
      refine wpAnyU_take (i := 1) (d := (some 33)) (v := ?_) rfl rfl (by kernel_rfl) (fun _ _ _ h => h) (fun _ _ h hu => ⟨(h.1).up hu, hu.cell (h.2.1), hu.cell (h.2.2.1), hu.cell (h.2.2.2.1), below_up (h.2.2.2.2) hu⟩) hSS (Or.inl ⟨by rfl, fun w' hSw => yu_value ?_⟩) ?_
      rotate_left
      · ((try dsimp only at hSw); (try obtain ⟨_, _, _, _, _⟩ := hSw); go_simp; (try exact rfl))
      try simp only [Act.put, pu1, pu2, pu3]
      refine wpAnyU_pure (i := 2) (d := (some 34)) (v := ?_) rfl rfl (by kernel_rfl) (fun _ _ _ h => h) (fun _ _ h hu => ⟨(h.1).up hu, hu.cell (h.2.1), hu.cell (h.2.2.1), hu.cell (h.2.2.2.1), below_up (h.2.2.2.2) hu⟩) (Or.inl ⟨by rfl, fun w' _ => yu_value ?_⟩) ?_
      rotate_left
      · (go_simp; (try exact rfl))
      try simp only [Act.put, pu1, pu2, pu3]
      refine wpAnyU_take (i := 3) (d := (some 35)) (v := ?_) rfl rfl (by kernel_rfl) (fun _ _ _ h => h) (fun _ _ h hu => ⟨(h.1).up hu, hu.cell (h.2.1), hu.cell (h.2.2.1), hu.cell (h.2.2.2.1), below_up (h.2.2.2.2) hu⟩) hSS (Or.inl ⟨by rfl, fun w' hSw => yu_value ?_⟩) ?_
      rotate_left
      · ((try dsimp only at hSw); (try obtain ⟨_, _, _, _, _⟩ := hSw); go_simp; (try exact rfl))
      try simp only [Act.put, pu1, pu2, pu3]
      refine wpAnyU_pure (i := 4) (d := (some 36)) (v := ?_) rfl rfl (by kernel_rfl) (fun _ _ _ h => h) (fun _ _ h hu => ⟨(h.1).up hu, hu.cell (h.2.1), hu.cell (h.2.2.1), hu.cell (h.2.2.2.1), below_up (h.2.2.2.2) hu⟩) (Or.inl ⟨by rfl, fun w' _ => yu_value ?_⟩) ?_
      rotate_left
      · (go_simp; (try exact rfl))
      try simp only [Act.put, pu1, pu2, pu3]
      refine wpAnyU_take (i := 5) (d := (some 37)) (v := ?_) rfl rfl (by kernel_rfl) (fun _ _ _ h => h) (fun _ _ h hu => ⟨(h.1).up hu, hu.cell (h.2.1), hu.cell (h.2.2.1), hu.cell (h.2.2.2.1), below_up (h.2.2.2.2) hu⟩) hSS (Or.inl ⟨by rfl, fun w' hSw => yu_value ?_⟩) ?_
      rotate_left
      · ((try dsimp only at hSw); (try obtain ⟨_, _, _, _, _⟩ := hSw); go_simp; (try exact rfl))
      try simp only [Act.put, pu1, pu2, pu3]
      refine wpAnyU_callE (i := 6) (d := (some 38)) rfl rfl (by kernel_rfl) (by rfl) (fun _ _ h hu => ⟨(h.1).up hu, hu.cell (h.2.1), hu.cell (h.2.2.1), hu.cell (h.2.2.2.1), below_up (h.2.2.2.2) hu⟩) (fun w' => by go_simp) (fun w' hw' => minus_am (hB.up (below_up hSB hw')) (hA.up (below_up hSB hw')) (by omega) (by omega)) fun vP wP hwP hRP => ?_
      try simp only [Act.put, pu1, pu2, pu3]
      obtain ⟨a1, c1, rfl⟩ := hRP.shape
      refine wpAnyU_callE (i := 7) (d := (some 39)) rfl rfl (by kernel_rfl) (by rfl) (fun _ _ h hu => ⟨(h.1).up hu, hu.cell (h.2.1), hu.cell (h.2.2.1), hu.cell (h.2.2.2.1), below_up (h.2.2.2.2) hu⟩) (fun w' => by go_simp) (fun w' hw' => callE_of (made_any (!p) a1 (nl (Y - X)) c1 w')) fun vM wM hwM hRM => ?_
      try simp only [Act.put, pu1, pu2, pu3]
      subst hRM
      refine wpAnyU_one (i := 8) rfl (by kernel_rfl) (by rfl) fun w2 hw2 => ?_
      have gK := ((hS1.up hwP).up hwM).up hw2
      refine wp_stB rfl rfl rfl rfl gK rfl rfl (one2 _ _ _ _) ?_
      refine ⟨fun h => by simp at h, ?_⟩
      try simp only [Act.put, pu1, pu2, pu3]
      refine wpAnyU_done (by kernel_rfl) (fun wF huE => ?_) _
      have gR := (gK.setRow #[.bool ((!p) && decide (0 < nl (Y - X))), .slice a1 (nl (Y - X)) c1]).up huE
      have gA := (((hRP.up hwM).up hw2).setRow (D := #[.bool ((!p) && decide (0 < nl (Y - X))), .slice a1 (nl (Y - X)) c1]) gK).up huE
      have gB := below_up (below_setRow (below_up (below_up (below_up hSB hwP) hwM) hw2) (show w.heap.size ≤ w.heap.size + 1 + 1 by omega) #[.bool ((!p) && decide (0 < nl (Y - X))), .slice a1 (nl (Y - X)) c1]) huE
      have gBig := big_made (!p) gA
      clear gK hRP hwP hwM hw2 huE hS1 hS2 hS3 hS4 hSB hSS gA
      go_wp2
      exact bodyPost_ret (resB rfl rfl gR rfl) rfl ⟨gB, _, rfl, gBig⟩
theorem add_big {x y : Int} {va vb : Value} {w : World} (ha : Big w va x) (hb : Big w vb y) (hx : nl x.natAbs < 50000) (hy : nl y.natAbs < 50000) :
    Calls Tryz.prog 72 #[va, vb] w fun e w' => Up w w' ∧ ∃ v, e = .returned v ∧ Big w' v (x + y) := by
  obtain ⟨a, ca, rfl, hA⟩ := ha
  obtain ⟨b, cb, rfl, hB⟩ := hb
  have h := add_pm (decide (x < 0)) (decide (y < 0)) x.natAbs y.natAbs a b ca cb w hA hB hx hy
  rw [← pm_int, ← pm_int] at h
  exact h
theorem mul64_up (x y : Nat) (hx : x < 18446744073709551616) (hy : y < 18446744073709551616) {h l : Nat} (eh : h = x * y / 18446744073709551616) (el : l = x * y % 18446744073709551616) (w : World) :
    Calls Tryz.prog 91 #[.int .u64 x, .int .u64 y] w fun e w' => e = .returned (.tuple #[.int .u64 (h : Nat), .int .u64 (l : Nat)]) ∧ Up w w' := by
  refine (Tryz.bits_Mul64 x y hx hy w).mono ?_
  rintro e w' ⟨rfl, rfl⟩
  exact ⟨by rw [eh, el], Up.refl _⟩
set_option maxHeartbeats 2000000 in
theorem times_am {x y : Nat} {va vb : Value} {w : World} (ha : Am w va x) (hb : Am w vb y) (hx : nl x < 100000) (hy : nl y < 100000) :
    Calls Tryz.prog 59 #[va, vb] w fun e w' => Up w w' ∧ ∃ v, e = .returned v ∧ Am w' v (x * y) := by
  obtain ⟨a, ca, rfl, hca1, hca0⟩ := ha.open
  obtain ⟨b, cb, rfl, hcb1, hcb0⟩ := hb.open
  have HSX := hid (sum_nl x)
  have HSY := hid (sum_nl y)
  clear ha hb
  generalize nl x = n at *
  generalize nl y = m at *
  go_enter Tryz.func59, Tryz.ntmps59
  go_wp2_with (first | ((with_reducible apply mkP (n := n + m)); exact rfl; (first | rfl | omega); omega))
  go_loopw [6] (fun ti wr => ∃ (i : Nat) (S : Nat → Nat), i ≤ n ∧ ti = .int .i64 (i : Nat) ∧ (∀ j, j < n + m → S j < 18446744073709551616) ∧ sumL S (n + m) = sumL (limb x) i * sumL (limb y) m ∧ (∀ j, i + m ≤ j → j < n + m → S j = 0) ∧ Row wr w.heap.size 31 (n + m) S ∧ Below w.heap.size w wr)
    (fun ti _ => n - (intOf ti).toNat)
  case atStart => exact ⟨0, fun _ => 0, by omega, rfl, fun _ _ => by simp, by rw [sumL_zero, Nat.zero_mul]; exact sumL_zeros _, fun _ _ _ => rfl, row_newc _ _ _ rfl, (by repeat (first | assumption | (with_reducible exact Below.refl _ _) | ((with_reducible apply bl_alloc); (focus (first | exact Nat.le_refl _ | (simp; done) | (simp; omega) | omega)))))⟩
  case round =>
    obtain ⟨i, S, hi, rfl, hSb, hsum, hz, hM, hB⟩ := hrel
    have HSb := hid hSb
    have Hsum := hid hsum
    have Hz := hid hz
    clear hSb hsum hz
    obtain ⟨wo, rfl⟩ : ∃ wo : World, wo = wr := ⟨_, rfl⟩
    by_cases hlt : i < n
    · obtain ⟨ba, rfl, hba, hca⟩ := hca0 i hlt
      go_wp2
      go_loopw [7, 8] (fun tc tk wi => ∃ (k c : Nat) (S' : Nat → Nat), k ≤ m ∧ tk = .int .i64 (k : Nat) ∧ tc = .int .u64 (c : Nat) ∧ c < 18446744073709551616 ∧ (∀ j, j < n + m → S' j < 18446744073709551616) ∧
          sumL S' (n + m) + c * (bp i * bp k) = sumL (limb x) i * sumL (limb y) m + limb x i * bp i * sumL (limb y) k ∧ (∀ j, i + m ≤ j → j < n + m → S' j = 0) ∧ Row wi w.heap.size 31 (n + m) S' ∧ Below w.heap.size w wi)
        (fun _ tk _ => m - (intOf tk).toNat)
      case atStart => exact ⟨0, 0, S, by omega, rfl, rfl, by omega, HSb.out, by rw [sumL_zero, Hsum.out]; omega, Hz.out, hM, hB⟩
      case round =>
        clear hM hB HSb Hsum Hz
        obtain ⟨k, c, S', hk, rfl, rfl, hc, hSb, hsum, hz, hM, hB⟩ := hrel
        have HSb := hid hSb
        have Hsum := hid hsum
        have Hz := hid hz
        clear hSb hsum hz
        by_cases hkt : k < m
        · obtain ⟨bb, rfl, hbb, hcb⟩ := hcb0 k hkt
          have hcx := hca _ hB
          have hcy := hcb _ hB
          obtain ⟨h, eh⟩ : ∃ h, h = limb x i * limb y k / 18446744073709551616 := ⟨_, rfl⟩
          obtain ⟨l, el⟩ : ∃ l, l = limb x i * limb y k % 18446744073709551616 := ⟨_, rfl⟩
          have hlx' := limb_lt x i
          have hly' := limb_lt y k
          have HM := hid (fun w => mul64_up _ _ hlx' hly' eh el w)
          have hsk := HSb.out (i + k) (by omega)
          obtain ⟨r1, c1, HA, e1, f1⟩ : ∃ r c : Nat, (∀ w, (callFunc 88 #[.int .u64 (l : Nat), .int .u64 (S' (i + k) : Nat), .int .u64 0]).run Tryz.prog w = .ok (.value (.tuple #[.int .u64 (r : Nat), .int .u64 (c : Nat)])) w) ∧
            r = (l + S' (i + k) + 0) % 18446744073709551616 ∧ c = (l + S' (i + k) + 0) / 18446744073709551616 := ⟨_, _, run_add l (S' (i + k)) 0 (by omega), rfl, rfl⟩
          obtain ⟨r2, c2, HA2, e2, f2⟩ : ∃ r cc : Nat, (∀ w, (callFunc 88 #[.int .u64 (r1 : Nat), .int .u64 (c : Nat), .int .u64 0]).run Tryz.prog w = .ok (.value (.tuple #[.int .u64 (r : Nat), .int .u64 (cc : Nat)])) w) ∧
            r = (r1 + c + 0) % 18446744073709551616 ∧ cc = (r1 + c + 0) / 18446744073709551616 := ⟨_, _, run_add r1 c 0 (by omega), rfl, rfl⟩
          obtain ⟨g1, g2, g3⟩ := step_arith hlx' hly' hsk hc eh el e1 f1 e2 f2
          obtain ⟨hr, hc', hrc⟩ := step_bound hlx' hly' hsk hc g2 g3
          have Hrc := hid hrc
          obtain ⟨h1, eh1⟩ : ∃ h1, h1 = h + c1 := ⟨_, rfl⟩
          obtain ⟨h2, eh2⟩ : ∃ h2, h2 = h1 + c2 := ⟨_, rfl⟩
          have w1 : IntKind.u64.wrap ((h : Int) + c1) = (h1 : Nat) := by rw [IntKind.wrap_u64]; omega
          have w2 : IntKind.u64.wrap ((h1 : Int) + c2) = (h2 : Nat) := by rw [IntKind.wrap_u64]; omega
          have hh2 : h2 < 18446744073709551616 := by omega
          have Hh2 := hid (show h + c1 + c2 = h2 by omega)
          clear e1 f1 e2 f2 g1 g2 g3 hrc eh el eh1 eh2 hc'
          go_wp2
          refine wp_region_upS (S := (fun wq => Row wq w.heap.size 31 (n + m) S' ∧ wq.cell? ⟨ba, i, none⟩ = some (.int .u64 (limb x i : Nat)) ∧ wq.cell? ⟨bb, k, none⟩ = some (.int .u64 (limb y k : Nat)) ∧ Below w.heap.size w wq)) (req := (fun _ => true)) (by kernel_rfl) (fun _ _ h hu => ⟨(h.1).up hu, hu.cell (h.2.1), hu.cell (h.2.2.1), below_up (h.2.2.2) hu⟩) ⟨gRow, (by first | assumption | (apply Blk.cell; exact gBlk; exact rfl)), (by first | assumption | (apply Blk.cell; exact gBlk; exact rfl)), gUp⟩ (fun wS hSS => ?_)
          have ⟨hS1, hS2, hS3, hSB⟩ := hSS
          clear hcx hcy hM hB
          refine wpAnyU_pure (i := 0) (d := (some 31)) (v := ?_) rfl rfl (by kernel_rfl) (fun _ _ _ h => h) (fun _ _ h hu => ⟨(h.1).up hu, hu.cell (h.2.1), hu.cell (h.2.2.1), below_up (h.2.2.2) hu⟩) (Or.inl ⟨by rfl, fun w' _ => yu_value ?_⟩) ?_
          rotate_left
          · (go_simp; (try exact rfl))
          try simp only [Act.put, pu1, pu2, pu3]
          refine wpAnyU_pure (i := 1) (d := (some 32)) (v := ?_) rfl rfl (by kernel_rfl) (fun _ _ _ h => h) (fun _ _ h hu => ⟨(h.1).up hu, hu.cell (h.2.1), hu.cell (h.2.2.1), below_up (h.2.2.2) hu⟩) (Or.inl ⟨by rfl, fun w' _ => yu_value ?_⟩) ?_
          rotate_left
          · (go_simp; (try exact rfl))
          try simp only [Act.put, pu1, pu2, pu3]
          refine wpAnyU_pure (i := 2) (d := (some 33)) (v := ?_) rfl rfl (by kernel_rfl) (fun _ _ _ h => h) (fun _ _ h hu => ⟨(h.1).up hu, hu.cell (h.2.1), hu.cell (h.2.2.1), below_up (h.2.2.2) hu⟩) (Or.inl ⟨by rfl, fun w' _ => yu_value ?_⟩) ?_
          rotate_left
          · (go_simp; (try exact rfl))
          try simp only [Act.put, pu1, pu2, pu3]
          refine wpAnyU_take (i := 3) (d := (some 34)) (v := ?_) rfl rfl (by kernel_rfl) (fun _ _ _ h => h) (fun _ _ h hu => ⟨(h.1).up hu, hu.cell (h.2.1), hu.cell (h.2.2.1), below_up (h.2.2.2) hu⟩) hSS (Or.inl ⟨by rfl, fun w' hSw => yu_value ?_⟩) ?_
          rotate_left
          · ((try dsimp only at hSw); (try obtain ⟨_, _, _, _⟩ := hSw); go_simp; (try exact rfl))
          try simp only [Act.put, pu1, pu2, pu3]
          refine wpAnyU_pure (i := 4) (d := (some 35)) (v := ?_) rfl rfl (by kernel_rfl) (fun _ _ _ h => h) (fun _ _ h hu => ⟨(h.1).up hu, hu.cell (h.2.1), hu.cell (h.2.2.1), below_up (h.2.2.2) hu⟩) (Or.inl ⟨by rfl, fun w' _ => yu_value ?_⟩) ?_
          rotate_left
          · (go_simp; (try exact rfl))
          try simp only [Act.put, pu1, pu2, pu3]
          refine wpAnyU_pure (i := 5) (d := (some 36)) (v := ?_) rfl rfl (by kernel_rfl) (fun _ _ _ h => h) (fun _ _ h hu => ⟨(h.1).up hu, hu.cell (h.2.1), hu.cell (h.2.2.1), below_up (h.2.2.2) hu⟩) (Or.inl ⟨by rfl, fun w' _ => yu_value ?_⟩) ?_
          rotate_left
          · (go_simp; (try exact rfl))
          try simp only [Act.put, pu1, pu2, pu3]
          refine wpAnyU_pure (i := 6) (d := (some 37)) (v := ?_) rfl rfl (by kernel_rfl) (fun _ _ _ h => h) (fun _ _ h hu => ⟨(h.1).up hu, hu.cell (h.2.1), hu.cell (h.2.2.1), below_up (h.2.2.2) hu⟩) (Or.inl ⟨by rfl, fun w' _ => yu_value ?_⟩) ?_
          rotate_left
          · (go_simp; (try exact rfl))
          try simp only [Act.put, pu1, pu2, pu3]
          refine wpAnyU_take (i := 7) (d := (some 38)) (v := ?_) rfl rfl (by kernel_rfl) (fun _ _ _ h => h) (fun _ _ h hu => ⟨(h.1).up hu, hu.cell (h.2.1), hu.cell (h.2.2.1), below_up (h.2.2.2) hu⟩) hSS (Or.inl ⟨by rfl, fun w' hSw => yu_value ?_⟩) ?_
          rotate_left
          · ((try dsimp only at hSw); (try obtain ⟨_, _, _, _⟩ := hSw); go_simp; (try exact rfl))
          try simp only [Act.put, pu1, pu2, pu3]
          refine wpAnyU_take (i := 8) (d := (some 39)) (v := _) rfl rfl (by kernel_rfl) (fun _ _ _ h => h) (fun _ _ h hu => ⟨(h.1).up hu, hu.cell (h.2.1), hu.cell (h.2.2.1), below_up (h.2.2.2) hu⟩) hSS (Or.inl ⟨by rfl, fun w' hSw => yu_call ?_ (HM.out _)⟩) ?_
          · go_simp
          try simp only [Act.put, pu1, pu2, pu3]
          refine wpAnyU_pure (i := 9) (d := (some 30)) (v := ?_) rfl rfl (by kernel_rfl) (fun _ _ _ h => h) (fun _ _ h hu => ⟨(h.1).up hu, hu.cell (h.2.1), hu.cell (h.2.2.1), below_up (h.2.2.2) hu⟩) (Or.inl ⟨by rfl, fun w' _ => yu_value ?_⟩) ?_
          rotate_left
          · (go_simp; (try exact rfl))
          try simp only [Act.put, pu1, pu2, pu3]
          refine wpAnyU_pure (i := 10) (d := (some 40)) (v := ?_) rfl rfl (by kernel_rfl) (fun _ _ _ h => h) (fun _ _ h hu => ⟨(h.1).up hu, hu.cell (h.2.1), hu.cell (h.2.2.1), below_up (h.2.2.2) hu⟩) (Or.inl ⟨by rfl, fun w' _ => yu_value ?_⟩) ?_
          rotate_left
          · (go_simp; (try exact rfl))
          try simp only [Act.put, pu1, pu2, pu3]
          refine wpAnyU_pure (i := 11) (d := (some 41)) (v := ?_) rfl rfl (by kernel_rfl) (fun _ _ _ h => h) (fun _ _ h hu => ⟨(h.1).up hu, hu.cell (h.2.1), hu.cell (h.2.2.1), below_up (h.2.2.2) hu⟩) (Or.inl ⟨by rfl, fun w' _ => yu_value ?_⟩) ?_
          rotate_left
          · (go_simp; (try exact rfl))
          try simp only [Act.put, pu1, pu2, pu3]
          refine wpAnyU_pure (i := 12) (d := (some 9)) (v := ?_) rfl rfl (by kernel_rfl) (fun _ _ _ h => h) (fun _ _ h hu => ⟨(h.1).up hu, hu.cell (h.2.1), hu.cell (h.2.2.1), below_up (h.2.2.2) hu⟩) (Or.inl ⟨by rfl, fun w' _ => yu_value ?_⟩) ?_
          rotate_left
          · (go_simp; (try exact rfl))
          try simp only [Act.put, pu1, pu2, pu3]
          refine wpAnyU_pure (i := 13) (d := (some 10)) (v := ?_) rfl rfl (by kernel_rfl) (fun _ _ _ h => h) (fun _ _ h hu => ⟨(h.1).up hu, hu.cell (h.2.1), hu.cell (h.2.2.1), below_up (h.2.2.2) hu⟩) (Or.inl ⟨by rfl, fun w' _ => yu_value ?_⟩) ?_
          rotate_left
          · (go_simp; (try exact rfl))
          try simp only [Act.put, pu1, pu2, pu3]
          refine wpAnyU_done (by kernel_rfl) (fun wE huE => ?_) _
          have ⟨hS1, hS2, hS3, hSB⟩ := ((fun _ _ h hu => ⟨(h.1).up hu, hu.cell (h.2.1), hu.cell (h.2.2.1), below_up (h.2.2.2) hu⟩) : ∀ w1 w2 : World, (fun wq => Row wq w.heap.size 31 (n + m) S' ∧ wq.cell? ⟨ba, i, none⟩ = some (.int .u64 (limb x i : Nat)) ∧ wq.cell? ⟨bb, k, none⟩ = some (.int .u64 (limb y k : Nat)) ∧ Below w.heap.size w wq) w1 → Up w1 w2 → (fun wq => Row wq w.heap.size 31 (n + m) S' ∧ wq.cell? ⟨ba, i, none⟩ = some (.int .u64 (limb x i : Nat)) ∧ wq.cell? ⟨bb, k, none⟩ = some (.int .u64 (limb y k : Nat)) ∧ Below w.heap.size w wq) w2) _ _ hSS huE
          clear huE hSS
          have E2 : ((i : Int) + (k : Int)).toNat = i + k := by omega
          have E3 : ((n + m : Nat) : Int) = (n : Int) + m := by omega
          have hik : (i : Int) + (k : Int) < (n : Int) + m := by omega
          have hcs := hS1.cell (i + k) (by omega)
          have hfs := hS1.frozen (i + k)
          have gM := hS1.set (i + k) r2
          have gB := hSB.setCell (p := ⟨w.heap.size, i + k, none⟩) (Nat.le_refl _) (.int .u64 (r2 : Nat))
          clear hS1 hS2 hS3 hSB
          go_wp2
          go_roundw
          case rel =>
            refine ⟨k + 1, h2, upd S' (i + k) r2, by omega, by go_num, rfl, hh2, upd_lt HSb.out hr, ?_, fun j h1 h2 => by rw [upd_other _ _ _ (by omega)]; exact Hz.out j h1 h2, gM, gB⟩
            have hu := sumL_upd S' r2 (show i + k < n + m by omega)
            have hr' := Hrc.out
            rw [bp_add] at hu
            rw [Hh2.out] at hr'
            rw [bp_succ, sumL_succ (limb y) k, ← Nat.mul_assoc (bp i)]
            exact times_step Hsum.out hu hr'
          case measure => simp [intOf] <;> omega
        · obtain rfl : k = m := by omega
          have E2 : ((i : Int) + (k : Int)).toNat = i + k := by omega
          have E3 : ((n + k : Nat) : Int) = (n : Int) + k := by omega
          have hik : (i : Int) + (k : Int) < (n : Int) + k := by omega
          have hcs := hM.cell (i + k) (by omega)
          have hfs := hM.frozen (i + k)
          have gM := hM.set (i + k) c
          have gB := hB.setCell (p := ⟨w.heap.size, i + k, none⟩) (Nat.le_refl _) (.int .u64 (c : Nat))
          clear hM hB
          go_wp2
          go_roundw
          case rel =>
            refine ⟨i + 1, upd S' (i + k) c, by omega, by go_num, upd_lt HSb.out hc, ?_, fun j h1 h2 => by rw [upd_other _ _ _ (by omega)]; exact Hz.out j (by omega) h2, gM, gB⟩
            have h2 := sumL_upd S' c (show i + k < n + k by omega)
            have h3 := Hz.out (i + k) (Nat.le_refl _) (by omega)
            have h4 := Hsum.out
            rw [bp_add, h3, Nat.zero_mul, Nat.add_zero] at h2
            rw [h2, sumL_succ (limb x) i, Nat.add_mul]
            exact h4
          case measure => simp [intOf] <;> omega
    · obtain rfl : i = n := by omega
      have he := Hsum.out
      rw [HSX.out, HSY.out] at he
      have ht := trim_row w.heap.size (i + m) (i + m) (i + m) S wo hM (Nat.le_refl _) (Nat.le_refl _) (by omega)
      have hres := am_row (c := i + m) hM (Nat.le_refl _) (Nat.le_refl _) HSb.out
      rw [he] at hres
      have HT := hid ht
      have HR := hid hres
      clear ht hres he HSb Hsum Hz hM
      go_wp2_with (go_at_call 74; (with_reducible refine HT.out.mono ?_); rintro e w' ⟨rfl, hu⟩)
      go_ret
      exact ⟨below_up hB hu, _, rfl, HR.out.up hu⟩
theorem pm_times (p q : Bool) (X Y : Nat) : pm p X * pm q Y = pm (p != q) (X * Y) := by
  cases p <;> cases q <;> simp [pm, Int.natCast_mul, Int.neg_mul, Int.mul_neg]
set_option maxHeartbeats 1000000 in
theorem sub_big {x y : Int} {va vb : Value} {w : World} (ha : Big w va x) (hb : Big w vb y) (hx : nl x.natAbs < 50000) (hy : nl y.natAbs < 50000) :
    Calls Tryz.prog 90 #[va, vb] w fun e w' => Up w w' ∧ ∃ v, e = .returned v ∧ Big w' v (x - y) := by
  obtain ⟨p, a, n, ca, rfl⟩ := ha.shape
  obtain ⟨q, b, m, cb, hq, hn⟩ := big_neg hb
  subst hq
  have hA := hid ha
  have hN := hid hn
  rw [Int.sub_eq_add_neg]
  have hy' : nl (-y).natAbs < 50000 := by rw [Int.natAbs_neg]; exact hy
  clear ha hb hn
  go_enter Tryz.func90, Tryz.ntmps90
  go_wp2
  refine wp_region_upS (S := (fun wq => Blk wq (w.heap.size + 1 + 1) 46 #[.bool false, .slice none 0 0] ∧ Blk wq w.heap.size 46 #[.bool p, .slice a n ca] ∧ Blk wq (w.heap.size + 1) 46 #[.bool q, .slice b m cb] ∧ Below w.heap.size w wq)) (req := (fun j => j != 4)) (by kernel_rfl) (fun _ _ h hu => ⟨(h.1).up hu, (h.2.1).up hu, (h.2.2.1).up hu, below_up (h.2.2.2) hu⟩) ⟨gBlk, gBlk, gBlk, gUp⟩ (fun wS hSS => ?_)
  have ⟨hS1, hS2, hS3, hSB⟩ := hSS
  refine wpAnyU_take (i := 0) (d := (some 5)) (v := _) rfl rfl (by kernel_rfl) (fun _ _ _ h => h) (fun _ _ h hu => ⟨(h.1).up hu, (h.2.1).up hu, (h.2.2.1).up hu, below_up (h.2.2.2) hu⟩) hSS (Or.inl ⟨by rfl, fun w' hSw => yu_value (run_ldB rfl rfl hSw.2.1 rfl)⟩) ?_
  try simp only [Act.put, pu1, pu2, pu3]
  refine wpAnyU_take (i := 1) (d := (some 6)) (v := _) rfl rfl (by kernel_rfl) (fun _ _ _ h => h) (fun _ _ h hu => ⟨(h.1).up hu, (h.2.1).up hu, (h.2.2.1).up hu, below_up (h.2.2.2) hu⟩) hSS (Or.inl ⟨by rfl, fun w' hSw => yu_value (run_ldB rfl rfl hSw.2.2.1 rfl)⟩) ?_
  try simp only [Act.put, pu1, pu2, pu3]
  refine wpAnyU_take (i := 2) (d := (some 7)) (v := _) rfl rfl (by kernel_rfl) (fun _ _ _ h => h) (fun _ _ h hu => ⟨(h.1).up hu, (h.2.1).up hu, (h.2.2.1).up hu, below_up (h.2.2.2) hu⟩) hSS (Or.inl ⟨by rfl, fun w' hSw => yu_call ?_ (neg_any q b m cb w')⟩) ?_
  · go_simp
  try simp only [Act.put, pu1, pu2, pu3]
  refine wpAnyU_callE (i := 3) (d := (some 8)) rfl rfl (by kernel_rfl) (by rfl) (fun _ _ h hu => ⟨(h.1).up hu, (h.2.1).up hu, (h.2.2.1).up hu, below_up (h.2.2.2) hu⟩) (fun w' => by go_simp) (fun w' hw' => add_big (hA.out.up (below_up hSB hw')) (hN.out.up (below_up hSB hw')) hx hy') fun vA wA hwA hRA => ?_
  try simp only [Act.put, pu1, pu2, pu3]
  obtain ⟨b1, a1, n1, c1, rfl⟩ := hRA.shape
  refine wpAnyU_one (i := 4) rfl (by kernel_rfl) (by rfl) fun w2 hw2 => ?_
  have gK := (hS1.up hwA).up hw2
  refine wp_stB rfl rfl rfl rfl gK rfl rfl (one2 _ _ _ _) ?_
  refine ⟨fun h => by simp at h, ?_⟩
  try simp only [Act.put, pu1, pu2, pu3]
  refine wpAnyU_done (by kernel_rfl) (fun wF huE => ?_) _
  have gR := (gK.setRow #[.bool b1, .slice a1 n1 c1]).up huE
  have gA := ((hRA.up hw2).setRow (D := #[.bool b1, .slice a1 n1 c1]) gK).up huE
  have gB := below_up (below_setRow (below_up (below_up hSB hwA) hw2) (show w.heap.size ≤ w.heap.size + 1 + 1 by omega) #[.bool b1, .slice a1 n1 c1]) huE
  clear gK hRA hwA hw2 huE hS1 hS2 hS3 hSB hSS
  go_wp2
  exact bodyPost_ret (resB rfl rfl gR rfl) rfl ⟨gB, _, rfl, gA⟩
set_option maxHeartbeats 1000000 in
theorem mul_pm (p q : Bool) (X Y : Nat) (a b : Option Addr) (ca cb : Nat) (w : World) (hA : Am w (.slice a (nl X) ca) X) (hB : Am w (.slice b (nl Y) cb) Y) (hx : nl X < 50000) (hy : nl Y < 50000) :
    Calls Tryz.prog 23 #[.agg #[.bool p, .slice a (nl X) ca], .agg #[.bool q, .slice b (nl Y) cb]] w fun e w' => Up w w' ∧ ∃ v, e = .returned v ∧ Big w' v (pm p X * pm q Y) := by
  rw [pm_times]
  go_enter Tryz.func23, Tryz.ntmps23
  go_wp2
  refine wp_region_upS (S := (fun wq => Blk wq (w.heap.size + 1 + 1) 46 #[.bool false, .slice none 0 0] ∧ wq.cell? ⟨w.heap.size, 0, none⟩ = some (.bool p) ∧ wq.cell? ⟨w.heap.size + 1, 0, none⟩ = some (.bool q) ∧ wq.cell? ⟨w.heap.size, 1, none⟩ = some (.slice a (nl X) ca) ∧ wq.cell? ⟨w.heap.size + 1, 1, none⟩ = some (.slice b (nl Y) cb) ∧ Below w.heap.size w wq)) (req := (fun j => j != 11)) (by kernel_rfl) (fun _ _ h hu => ⟨(h.1).up hu, hu.cell (h.2.1), hu.cell (h.2.2.1), hu.cell (h.2.2.2.1), hu.cell (h.2.2.2.2.1), below_up (h.2.2.2.2.2) hu⟩) ⟨gBlk, (by first | assumption | (apply Blk.cell; exact gBlk; exact rfl)), (by first | assumption | (apply Blk.cell; exact gBlk; exact rfl)), (by first | assumption | (apply Blk.cell; exact gBlk; exact rfl)), (by first | assumption | (apply Blk.cell; exact gBlk; exact rfl)), gUp⟩ (fun wS hSS => ?_)
  have ⟨hS1, hS2, hS3, hS4, hS5, hSB⟩ := hSS
  refine wpAnyU_pure (i := 0) (d := (some 5)) (v := ?_) rfl rfl (by kernel_rfl) (fun _ _ _ h => h) (fun _ _ h hu => ⟨(h.1).up hu, hu.cell (h.2.1), hu.cell (h.2.2.1), hu.cell (h.2.2.2.1), hu.cell (h.2.2.2.2.1), below_up (h.2.2.2.2.2) hu⟩) (Or.inl ⟨by rfl, fun w' _ => yu_value ?_⟩) ?_
  rotate_left
  · (go_simp; (try exact rfl))
  try simp only [Act.put, pu1, pu2, pu3]
  refine wpAnyU_take (i := 1) (d := (some 6)) (v := ?_) rfl rfl (by kernel_rfl) (fun _ _ _ h => h) (fun _ _ h hu => ⟨(h.1).up hu, hu.cell (h.2.1), hu.cell (h.2.2.1), hu.cell (h.2.2.2.1), hu.cell (h.2.2.2.2.1), below_up (h.2.2.2.2.2) hu⟩) hSS (Or.inl ⟨by rfl, fun w' hSw => yu_value ?_⟩) ?_
  rotate_left
  · ((try dsimp only at hSw); (try obtain ⟨_, _, _, _, _, _⟩ := hSw); go_simp; (try exact rfl))
  try simp only [Act.put, pu1, pu2, pu3]
  refine wpAnyU_pure (i := 2) (d := (some 7)) (v := ?_) rfl rfl (by kernel_rfl) (fun _ _ _ h => h) (fun _ _ h hu => ⟨(h.1).up hu, hu.cell (h.2.1), hu.cell (h.2.2.1), hu.cell (h.2.2.2.1), hu.cell (h.2.2.2.2.1), below_up (h.2.2.2.2.2) hu⟩) (Or.inl ⟨by rfl, fun w' _ => yu_value ?_⟩) ?_
  rotate_left
  · (go_simp; (try exact rfl))
  try simp only [Act.put, pu1, pu2, pu3]
  refine wpAnyU_take (i := 3) (d := (some 8)) (v := ?_) rfl rfl (by kernel_rfl) (fun _ _ _ h => h) (fun _ _ h hu => ⟨(h.1).up hu, hu.cell (h.2.1), hu.cell (h.2.2.1), hu.cell (h.2.2.2.1), hu.cell (h.2.2.2.2.1), below_up (h.2.2.2.2.2) hu⟩) hSS (Or.inl ⟨by rfl, fun w' hSw => yu_value ?_⟩) ?_
  rotate_left
  · ((try dsimp only at hSw); (try obtain ⟨_, _, _, _, _, _⟩ := hSw); go_simp; (try exact rfl))
  try simp only [Act.put, pu1, pu2, pu3]
  refine wpAnyU_pure (i := 4) (d := (some 9)) (v := ?_) rfl rfl (by kernel_rfl) (fun _ _ _ h => h) (fun _ _ h hu => ⟨(h.1).up hu, hu.cell (h.2.1), hu.cell (h.2.2.1), hu.cell (h.2.2.2.1), hu.cell (h.2.2.2.2.1), below_up (h.2.2.2.2.2) hu⟩) (Or.inl ⟨by rfl, fun w' _ => yu_value ?_⟩) ?_
  rotate_left
  · (go_simp; (try exact rfl))
  try simp only [Act.put, pu1, pu2, pu3]
  refine wpAnyU_pure (i := 5) (d := (some 10)) (v := ?_) rfl rfl (by kernel_rfl) (fun _ _ _ h => h) (fun _ _ h hu => ⟨(h.1).up hu, hu.cell (h.2.1), hu.cell (h.2.2.1), hu.cell (h.2.2.2.1), hu.cell (h.2.2.2.2.1), below_up (h.2.2.2.2.2) hu⟩) (Or.inl ⟨by rfl, fun w' _ => yu_value ?_⟩) ?_
  rotate_left
  · (go_simp; (try exact rfl))
  try simp only [Act.put, pu1, pu2, pu3]
  refine wpAnyU_take (i := 6) (d := (some 11)) (v := ?_) rfl rfl (by kernel_rfl) (fun _ _ _ h => h) (fun _ _ h hu => ⟨(h.1).up hu, hu.cell (h.2.1), hu.cell (h.2.2.1), hu.cell (h.2.2.2.1), hu.cell (h.2.2.2.2.1), below_up (h.2.2.2.2.2) hu⟩) hSS (Or.inl ⟨by rfl, fun w' hSw => yu_value ?_⟩) ?_
  rotate_left
  · ((try dsimp only at hSw); (try obtain ⟨_, _, _, _, _, _⟩ := hSw); go_simp; (try exact rfl))
  try simp only [Act.put, pu1, pu2, pu3]
  refine wpAnyU_pure (i := 7) (d := (some 12)) (v := ?_) rfl rfl (by kernel_rfl) (fun _ _ _ h => h) (fun _ _ h hu => ⟨(h.1).up hu, hu.cell (h.2.1), hu.cell (h.2.2.1), hu.cell (h.2.2.2.1), hu.cell (h.2.2.2.2.1), below_up (h.2.2.2.2.2) hu⟩) (Or.inl ⟨by rfl, fun w' _ => yu_value ?_⟩) ?_
  rotate_left
  · (go_simp; (try exact rfl))
  try simp only [Act.put, pu1, pu2, pu3]
  refine wpAnyU_take (i := 8) (d := (some 13)) (v := ?_) rfl rfl (by kernel_rfl) (fun _ _ _ h => h) (fun _ _ h hu => ⟨(h.1).up hu, hu.cell (h.2.1), hu.cell (h.2.2.1), hu.cell (h.2.2.2.1), hu.cell (h.2.2.2.2.1), below_up (h.2.2.2.2.2) hu⟩) hSS (Or.inl ⟨by rfl, fun w' hSw => yu_value ?_⟩) ?_
  rotate_left
  · ((try dsimp only at hSw); (try obtain ⟨_, _, _, _, _, _⟩ := hSw); go_simp; (try exact rfl))
  try simp only [Act.put, pu1, pu2, pu3]
  refine wpAnyU_callE (i := 9) (d := (some 14)) rfl rfl (by kernel_rfl) (by rfl) (fun _ _ h hu => ⟨(h.1).up hu, hu.cell (h.2.1), hu.cell (h.2.2.1), hu.cell (h.2.2.2.1), hu.cell (h.2.2.2.2.1), below_up (h.2.2.2.2.2) hu⟩) (fun w' => by go_simp) (fun w' hw' => times_am (hA.up (below_up hSB hw')) (hB.up (below_up hSB hw')) (by omega) (by omega)) fun vP wP hwP hRP => ?_
  try simp only [Act.put, pu1, pu2, pu3]
  obtain ⟨a1, c1, rfl⟩ := hRP.shape
  refine wpAnyU_callE (i := 10) (d := (some 15)) rfl rfl (by kernel_rfl) (by rfl) (fun _ _ h hu => ⟨(h.1).up hu, hu.cell (h.2.1), hu.cell (h.2.2.1), hu.cell (h.2.2.2.1), hu.cell (h.2.2.2.2.1), below_up (h.2.2.2.2.2) hu⟩) (fun w' => by go_simp) (fun w' hw' => callE_of (made_any (!(p == q)) a1 (nl (X * Y)) c1 w')) fun vM wM hwM hRM => ?_
  try simp only [Act.put, pu1, pu2, pu3]
  subst hRM
  refine wpAnyU_one (i := 11) rfl (by kernel_rfl) (by rfl) fun w2 hw2 => ?_
  have gK := ((hS1.up hwP).up hwM).up hw2
  refine wp_stB rfl rfl rfl rfl gK rfl rfl (one2 _ _ _ _) ?_
  refine ⟨fun h => by simp at h, ?_⟩
  try simp only [Act.put, pu1, pu2, pu3]
  refine wpAnyU_done (by kernel_rfl) (fun wF huE => ?_) _
  have gR := (gK.setRow #[.bool ((!(p == q)) && decide (0 < nl (X * Y))), .slice a1 (nl (X * Y)) c1]).up huE
  have gA := (((hRP.up hwM).up hw2).setRow (D := #[.bool ((!(p == q)) && decide (0 < nl (X * Y))), .slice a1 (nl (X * Y)) c1]) gK).up huE
  have gB := below_up (below_setRow (below_up (below_up (below_up hSB hwP) hwM) hw2) (show w.heap.size ≤ w.heap.size + 1 + 1 by omega) #[.bool ((!(p == q)) && decide (0 < nl (X * Y))), .slice a1 (nl (X * Y)) c1]) huE
  have gBig := big_made (!(p == q)) gA
  clear gK hRP hwP hwM hw2 huE hS1 hS2 hS3 hS4 hS5 hSB hSS gA
  go_wp2
  exact bodyPost_ret (resB rfl rfl gR rfl) rfl ⟨gB, _, rfl, gBig⟩
theorem mul_big {x y : Int} {va vb : Value} {w : World} (ha : Big w va x) (hb : Big w vb y) (hx : nl x.natAbs < 50000) (hy : nl y.natAbs < 50000) :
    Calls Tryz.prog 23 #[va, vb] w fun e w' => Up w w' ∧ ∃ v, e = .returned v ∧ Big w' v (x * y) := by
  obtain ⟨a, ca, rfl, hA⟩ := ha
  obtain ⟨b, cb, rfl, hB⟩ := hb
  have h := mul_pm (decide (x < 0)) (decide (y < 0)) x.natAbs y.natAbs a b ca cb w hA hB hx hy
  rw [← pm_int, ← pm_int] at h
  exact h
theorem row_one {w : World} {b X : Nat} (h : b = w.heap.size) : Row (w.alloc (.cells #[.int .u64 (X : Nat)] 31)) b 31 1 (fun _ => X) :=
  row_new _ 1 _ _ h (by unfold cells; rfl)
theorem am_one {w : World} {b X : Nat} (hX : X < 18446744073709551616) (h0 : 0 < X) (hR : Row w b 31 1 (fun _ => X)) : Am w (.slice (some ⟨b, 0, none⟩) 1 1) X ∧ nl X = 1 := by
  have h := am_row (n := 1) (c := 1) hR (Nat.le_refl _) (Nat.le_refl _) (fun _ _ => hX)
  have e1 : sumL (fun _ => X) 1 = X := by rw [sumL_succ, sumL_zero, bp_zero]; omega
  have e2 : lenL (fun _ => X) 1 = 1 := by rw [lenL_succ, if_neg (by omega)]
  have e3 := nl_sum (S := fun _ => X) (n := 1) (fun _ _ => hX)
  rw [e1, e2] at h e3
  exact ⟨h, e3⟩
theorem of_big (v : Int) (h1 : -9223372036854775808 ≤ v) (h2 : v < 9223372036854775808) (w : World) :
    Calls Tryz.prog 37 #[.int .i64 v] w fun e w' => Up w w' ∧ ∃ u, e = .returned u ∧ Big w' u v := by
  obtain ⟨X, hX⟩ : ∃ X, X = v.natAbs := ⟨_, rfl⟩
  by_cases h0 : v < 0
  · have d0 : decide (v < 0) = true := decide_eq_true h0
    have e1 : IntKind.i64.wrap (v + 1) = v + 1 := IntWalk.i64_in _ (by omega)
    have e2 : IntKind.i64.wrap (-(v + 1)) = -(v + 1) := IntWalk.i64_in _ (by omega)
    obtain ⟨Y, hY⟩ : ∃ Y : Nat, (Y : Int) = -(v + 1) := ⟨(-(v + 1)).toNat, by omega⟩
    have e3 : IntKind.u64.wrap (-(v + 1)) = (Y : Nat) := by rw [IntKind.wrap_u64]; omega
    have e4 : IntKind.u64.wrap ((Y : Int) + 1) = (X : Nat) := by rw [IntKind.wrap_u64]; omega
    have HM := hid (fun a n c w => made_any true a n c w)
    have HX := hid hX
    have HX64 := hid (show X < 18446744073709551616 ∧ 0 < X by omega)
    clear hX hY
    go_enter Tryz.func37, Tryz.ntmps37
    go_wp2_with (first | ((with_reducible apply stB_P); exact rfl; exact rfl; exact gBlk; exact rfl; exact rfl; exact one2 _ _ _ _) | (go_at_call 58; (with_reducible refine (HM.out _ _ _ _).mono ?_); rintro e wM ⟨rfl, hu⟩))
    have hR : Row ((w.alloc (Obj.cells #[Value.bool false, Value.slice none 0 0] 46)).alloc (Obj.cells #[Value.int IntKind.u64 (X : Nat)] 31)) (w.heap.size + 1) 31 1 (fun _ => X) := row_one (by simp)
    have hA := am_one HX64.out.1 HX64.out.2 (hR.up hu)
    have hB := big_made true (hA.2.symm ▸ hA.1)
    have hv : pm true X = v := by have := HX.out; simp only [pm, if_true]; omega
    rw [hv, hA.2, show (true && decide (0 < 1)) = true from rfl] at hB
    have hK : Blk wM w.heap.size 46 #[.bool false, .slice none 0 0] := gBlk
    exact bodyPost_ret (resB rfl rfl (hK.setRow _) rfl) rfl ⟨gUp, _, rfl, hB.setRow hK⟩
  · have d0 : decide (v < 0) = false := decide_eq_false h0
    have e3 : IntKind.u64.wrap v = (X : Nat) := by rw [IntKind.wrap_u64]; omega
    have HM := hid (fun a n c w => made_any false a n c w)
    have HX := hid hX
    have HX64 := hid (show X < 18446744073709551616 by omega)
    clear hX
    have eS : sumL (fun _ => X) 1 = X := by rw [sumL_succ, sumL_zero, bp_zero]; omega
    have eL : lenL (fun _ => X) 1 = nl X := by
      have e3 := nl_sum (S := fun _ => X) (n := 1) (fun _ _ => HX64.out)
      rw [eS] at e3
      exact e3.symm
    have hR : Row ((w.alloc (Obj.cells #[Value.bool false, Value.slice none 0 0] 46)).alloc (Obj.cells #[Value.int IntKind.u64 (X : Nat)] 31)) (w.heap.size + 1) 31 1 (fun _ => X) := row_one (by simp)
    have hT := trim_row (w.heap.size + 1) 1 1 1 (fun _ => X) _ hR (Nat.le_refl _) (Nat.le_refl _) (by decide)
    have hA := am_row (c := 1) hR (Nat.le_refl _) (Nat.le_refl _) (fun _ _ => HX64.out)
    rw [eL] at hT hA
    rw [eS] at hA
    have HT := hid hT
    have HA := hid hA
    clear hT hA hR eL eS
    go_enter Tryz.func37, Tryz.ntmps37
    go_wp2_with (first | ((with_reducible apply stB_P); exact rfl; exact rfl; exact gBlk; exact rfl; exact rfl; exact one2 _ _ _ _) | (go_at_call 58; (with_reducible refine (HM.out _ _ _ _).mono ?_); rintro e wM ⟨rfl, hu⟩) | (go_at_call 74; (with_reducible refine HT.out.mono ?_); rintro e wT ⟨rfl, hv⟩))
    have hB := big_made false ((HA.out.up hv).up hu)
    have hv' : pm false X = v := by have := HX.out; simp only [pm, Bool.false_eq_true, if_false]; omega
    rw [hv', Bool.false_and] at hB
    have hK : Blk wM w.heap.size 46 #[.bool false, .slice none 0 0] := gBlk
    exact bodyPost_ret (resB rfl rfl (hK.setRow _) rfl) rfl ⟨gUp, _, rfl, hB.setRow hK⟩
theorem sgn_cmp {x y : Int} : sgn (x - y) = cmpZ x y := by
  unfold sgn cmpZ
  split <;> split <;> (try split) <;> (try split) <;> first | rfl | omega
theorem cmp_big {x y : Int} {va vb : Value} {w : World} (ha : Big w va x) (hb : Big w vb y) (hx : nl x.natAbs < 50000) (hy : nl y.natAbs < 50000) :
    Calls Tryz.prog 101 #[va, vb] w fun e w' => e = .returned (.int .i64 (cmpZ x y)) ∧ Up w w' := by
  obtain ⟨p, a, n, ca, rfl⟩ := ha.shape
  obtain ⟨q, b, m, cb, rfl⟩ := hb.shape
  have hA := hid ha
  have hB := hid hb
  clear ha hb
  go_enter Tryz.func101, Tryz.ntmps101
  go_wp2_with (first | ((with_reducible apply ldB_P); exact rfl; exact rfl; exact gBlk; exact rfl) | (go_at_call 90; (with_reducible refine (sub_big (hA.out.up gUp) (hB.out.up gUp) hx hy).mono ?_); rintro e wS ⟨huS, v, rfl, hv⟩; obtain ⟨a1, c1, rfl, -⟩ := hv) | (go_at_call 52; (with_reducible refine (bsign_any _ _ _ _ _).mono ?_); rintro e wT ⟨rfl, huT⟩))
  go_ret
  exact ⟨ret_int (by rw [sgn_big, sgn_cmp]), gUp⟩
theorem nl_one {X : Nat} (h : nl X = 1) : X < 18446744073709551616 ∧ 0 < X ∧ limb X 0 = X := by
  have h1 := lt_bp_nl X
  rw [h, bp_succ, bp_zero] at h1
  have h2 := nl_pos_iff.1 (show 0 < nl X by omega)
  refine ⟨by omega, h2, ?_⟩
  rw [limb0, Nat.mod_eq_of_lt (by omega)]
theorem nl_two {X : Nat} (h : 1 < nl X) : 18446744073709551616 ≤ X := by
  have h1 := bp_le_nl (show 0 < nl X by omega)
  have h2 := bp_mono (show 1 ≤ nl X - 1 by omega)
  rw [bp_succ, bp_zero] at h2
  omega
set_option maxHeartbeats 1000000 in
theorem int64_big {z : Int} {v : Value} {w : World} (h : Big w v z) (hz : nl z.natAbs < 50000) :
    Calls Tryz.prog 69 #[v] w fun e w' => e = .returned (i64V z) ∧ Up w w' := by
  obtain ⟨a, c, rfl, hA⟩ := h
  obtain ⟨a', c', he, hc, hcell⟩ := hA.open
  obtain ⟨rfl, -, rfl⟩ : a = a' ∧ True ∧ c = c' := by simpa using he
  clear he hA
  have hpm := pm_int z
  obtain ⟨p, hp⟩ : ∃ p, decide (z < 0) = p := ⟨_, rfl⟩
  obtain ⟨X, hX⟩ : ∃ X, z.natAbs = X := ⟨_, rfl⟩
  rw [hp, hX] at hpm
  rw [hp, hX]
  rw [hX] at hc hcell hz
  rw [hpm]
  clear hpm hp hX
  rcases Nat.lt_trichotomy (nl X) 1 with hn | hn | hn
  · have h0 : nl X = 0 := by omega
    have hX0 : X = 0 := by
      rcases Nat.eq_zero_or_pos X with h | h
      · exact h
      · have := nl_pos h; omega
    have e : i64V (pm p X) = .tuple #[.int .i64 0, .bool true] := by
      subst hX0
      rw [i64V_yes (by cases p <;> simp [pm])]
      cases p <;> simp [pm]
    rw [e, h0]
    clear hcell e
    go_enter Tryz.func69, Tryz.ntmps69
    go_wp2
    go_ret2
    exact ⟨rfl, gUp⟩
  · obtain ⟨h64, hpos, hl⟩ := nl_one hn
    obtain ⟨b, rfl, hb, hcb⟩ := hcell 0 (by omega)
    rw [hl] at hcb
    rw [hn] at hc ⊢
    clear hcell
    have hcW : ((w.alloc (Obj.cells #[Value.bool p, Value.slice (some { block := b, off := 0 }) 1 c] 46))).cell? ⟨b, 0, none⟩ = some (.int .u64 (X : Nat)) := hcb _ gUp
    clear hcb hl hn
    by_cases h1 : 9223372036854775808 < X
    · have e : i64V (pm p X) = .tuple #[.int .i64 0, .bool false] := i64V_no (by cases p <;> simp only [pm, Bool.false_eq_true, if_false, if_true] <;> omega)
      rw [e]
      have d1 : decide ((9223372036854775808 : Int) < X) = true := decide_eq_true (by omega)
      clear e
      go_enter Tryz.func69, Tryz.ntmps69
      go_wp2
      go_ret2
      exact ⟨rfl, gUp⟩
    · have d1 : decide ((9223372036854775808 : Int) < X) = false := decide_eq_false (by omega)
      cases p with
      | true =>
        have e : i64V (pm true X) = .tuple #[.int .i64 (-(X : Int)), .bool true] := i64V_yes (by simp only [pm, if_true]; omega)
        rw [e]
        obtain ⟨Y, hY⟩ : ∃ Y : Nat, Y = X - 1 := ⟨_, rfl⟩
        obtain ⟨Z, hZ⟩ : ∃ Z : Int, Z = -(X : Int) := ⟨_, rfl⟩
        have e1 : IntKind.u64.wrap ((X : Int) - 1) = (Y : Nat) := by rw [IntKind.wrap_u64]; omega
        have e2 : IntKind.i64.wrap (Y : Int) = (Y : Nat) := IntWalk.i64_in _ (by omega)
        have e3 : IntKind.i64.wrap (-(Y : Int)) = -(Y : Int) := IntWalk.i64_in _ (by omega)
        have e4 : IntKind.i64.wrap (-(Y : Int) - 1) = Z := by rw [IntKind.wrap_i64]; omega
        rw [← hZ]
        have hY1 : Y < 9223372036854775808 := by omega
        clear e hY hZ
        go_enter Tryz.func69, Tryz.ntmps69
        go_wp2
        go_ret2
        exact ⟨rfl, gUp⟩
      | false =>
        by_cases h2 : X = 9223372036854775808
        · subst h2
          have e : i64V (pm false 9223372036854775808) = .tuple #[.int .i64 0, .bool false] := i64V_no (by simp [pm])
          rw [e]
          clear e
          go_enter Tryz.func69, Tryz.ntmps69
          go_wp2
          go_ret2
          exact ⟨rfl, gUp⟩
        · have e : i64V (pm false X) = .tuple #[.int .i64 (X : Nat), .bool true] := i64V_yes (by simp only [pm, Bool.false_eq_true, if_false]; omega)
          rw [e]
          have d2 : ((X : Int) == 9223372036854775808) = false := by simp; omega
          have e2 : IntKind.i64.wrap (X : Int) = (X : Nat) := IntWalk.i64_in _ (by omega)
          clear e
          go_enter Tryz.func69, Tryz.ntmps69
          go_wp2
          go_ret2
          exact ⟨rfl, gUp⟩
  · have h2 := nl_two hn
    have e : i64V (pm p X) = .tuple #[.int .i64 0, .bool false] := i64V_no (by cases p <;> simp only [pm, Bool.false_eq_true, if_false, if_true] <;> omega)
    rw [e]
    clear hcell e
    generalize nl X = n at *
    have d1 : decide ((1 : Int) < (n : Nat)) = true := decide_eq_true (by omega)
    have d0 : ((n : Int) == 0) = false := by simp; omega
    go_enter Tryz.func69, Tryz.ntmps69
    go_wp2
    go_ret2
    exact ⟨rfl, gUp⟩
theorem big_set {w : World} {v : Value} {z : Int} {g : Nat} {C D : Array Value} (hg : Blk w g 46 C) (h : Big w v z) : Big (w.setRow g D) v z := h.setRow hg
theorem big_alloc {w : World} {v : Value} {z : Int} {o : Obj} (h : Big w v z) : Big (w.alloc o) v z := h.up (Up.alloc _ _)
theorem big_amount {w : World} {b : Bool} {a : Option Addr} {n c : Nat} {z : Int} (h : Big w (.agg #[.bool b, .slice a n c]) z) : Big w (.agg #[.bool false, .slice a n c]) ((z.natAbs : Nat) : Int) := by
  obtain ⟨a', c', h1, h2⟩ := h
  obtain ⟨-, rfl, rfl, rfl⟩ : b = decide (z < 0) ∧ a = a' ∧ n = nl z.natAbs ∧ c = c' := by simpa using h1
  exact ⟨_, _, by rw [decide_eq_false (by omega)]; rfl, h2⟩
theorem amount_any (b : Bool) (a : Option Addr) (n c : Nat) (w : World) :
    Calls Tryz.prog 102 #[.agg #[.bool b, .slice a n c]] w fun e w' => e = .returned (.agg #[.bool false, .slice a n c]) ∧ Up w w' := by
  have hm := fun w => made_any false a n c w
  rw [Bool.false_and] at hm
  have HM := hid hm
  clear hm
  go_enter Tryz.func102, Tryz.ntmps102
  go_wp2_with (first | ((with_reducible apply stB_P); exact rfl; exact rfl; exact gBlk; exact rfl; exact rfl; exact one2 _ _ _ _) | (go_at_call 58; refine (HM.out _).mono ?_; rintro e w' ⟨rfl, hu⟩))
  exact bodyPost_ret (resB rfl rfl gBlk rfl) rfl ⟨rfl, gUp⟩
theorem fits_gen {z M : Int} {va : Value} {w : World} (ha : Big w va z) (hz : nl z.natAbs < 50000) (h1 : -9223372036854775808 ≤ M) (h2 : M < 9223372036854775808) (hm : nl M.natAbs < 50000) :
    Calls Tryz.prog 68 #[va, .int .i64 M] w fun e w' => e = .returned (.bool (decide (cmpZ ((z.natAbs : Nat) : Int) M ≤ 0))) ∧ Up w w' := by
  obtain ⟨p, a, n, c, rfl⟩ := ha.shape
  have hA := hid (big_amount ha)
  have HO := hid (fun w => of_big M h1 h2 w)
  have HN : Hid (nl ((z.natAbs : Nat) : Int).natAbs < 50000) := hid hz
  have HM := hid hm
  obtain ⟨o, ho⟩ : ∃ o, decide (cmpZ ((z.natAbs : Nat) : Int) M ≤ 0) = o := ⟨_, rfl⟩
  rw [ho]
  clear ha h1 h2 hz hm
  go_enter Tryz.func68, Tryz.ntmps68
  go_wp2_with (first | ((with_reducible apply ldB_P); exact rfl; exact rfl; exact gBlk; exact rfl) | (go_at_call 102; (with_reducible refine (amount_any _ _ _ _ _).mono ?_); rintro e wA ⟨rfl, huA⟩) | (go_at_call 37; (with_reducible refine (HO.out _).mono ?_); rintro e wO ⟨huO, u, rfl, hBO⟩; obtain ⟨qo, ao, no, co, rfl⟩ := hBO.shape) | (go_at_call 101; (with_reducible refine (cmp_big (hA.out.up gUp) hBO HN.out HM.out).mono ?_); rintro e wC ⟨rfl, huC⟩))
  go_ret
  exact ⟨rfl, gUp⟩
theorem nl_bp {z : Int} {k : Nat} (hk : k < 50000) (h : z.natAbs < bp k) : nl z.natAbs < 50000 := by have := nl_le h; omega
theorem i64_bp {z : Int} (h : I64 z) : z.natAbs < bp 1 := by unfold I64 at h; rw [bp_succ, bp_zero]; omega
theorem rfits_any {z : Int} {va : Value} {w : World} (ha : Big w va z) (hz : nl z.natAbs < 50000) :
    Calls Tryz.prog 68 #[va, .int .i64 1073741824] w fun e w' => e = .returned (.bool (fit z)) ∧ Up w w' := by
  have h := fits_gen (M := 1073741824) ha hz (by omega) (by omega) (nl_bp (k := 1) (by omega) (by rw [bp_succ, bp_zero]; decide))
  have he : decide (cmpZ ((z.natAbs : Nat) : Int) 1073741824 ≤ 0) = fit z := by
    unfold fit
    rw [decide_eq_decide]
    unfold cmpZ
    split
    · omega
    · split <;> omega
  rw [he] at h
  exact h
theorem rat_ent2 {v : Value} {n : Nat} {l : List Int} {i j : Nat} {w : World} (h : Sm w v n l) (n8 : n ≤ 8) (hln : l.length = triN n) (hij : i ≤ j) (hj : j < n) :
    Calls Tryz.prog 22 #[v, .int .i64 (i : Nat), .int .i64 (j : Nat)] w fun r w' => r = .returned (.int .i64 (zth l (pos n i j))) ∧ Up w w' := by
  have hkl : pos n i j < l.length := by rw [hln]; exact pos_lt hij hj
  have HX := hid (fun w => (pos_idx hij hj) ▸ rat_any (n : Int) (i : Int) (j : Int) (by omega) (by omega) (by omega) (by omega) (by omega) w)
  obtain ⟨k, hk⟩ : ∃ k, pos n i j = k := ⟨_, rfl⟩
  rw [hk] at HX hkl ⊢
  obtain ⟨s, rfl, hV, hN, hl, hlen⟩ := h
  obtain ⟨p, cap, rfl, hcap, hc⟩ := hV
  obtain ⟨ad, rfl, hcell⟩ := hc k hkl
  have hcell' := (Up.alloc w (.cells #[.int .i64 (n : Int), .slice (some ad) l.length cap] 24)).cellEq hcell
  clear hc hl hk hcell hln
  go_enter Tryz.func22, Tryz.ntmps22
  go_wp2_with fail
  go_quiet ((go_at_call 57; exact Calls.quiet_of_same (HX.out _)))
  go_wp2_with fail
  go_ret
  exact ⟨rfl, up_alloc_drewN _ _ _⟩
def diC (N : Int) (l : List Int) (x : Int) : Int := if rt N l then (if (diL N.toNat l x).all fit then 0 else 21) else 23
def diR (N : Int) (l : List Int) (x : Int) : List Int := if diC N l x = 0 then diL N.toNat l x else []
def diN (N : Int) (l : List Int) (x : Int) : Int := if diC N l x = 0 then N else 0
theorem diL_len (n : Nat) (l : List Int) (x : Int) : (diL n l x).length = l.length := mk_len _ _
theorem diL_at {n : Nat} {l : List Int} (x : Int) (hn : n ≤ 8) (hl : l.length = triN n) {i j : Nat} (hij : i ≤ j) (hj : j < n) : zth (diL n l x) (pos n i j) = if i = j then zth l (pos n i j) + x else zth l (pos n i j) := by
  unfold diL
  rw [mk_at (by rw [hl]; exact pos_lt hij hj), prs_at hn hij hj]
theorem diL_row {n : Nat} {l : List Int} (x : Int) (hn : n ≤ 8) (hl : l.length = triN n) {i q : Nat} (hi : i < n) (h1 : pos n i i + 1 ≤ q) (h2 : q < pos n (i + 1) (i + 1)) : zth (diL n l x) q = zth l q := by
  have hr := pos_row hi
  obtain ⟨j, rfl, hj1, hj2⟩ : ∃ j, q = pos n i j ∧ i < j ∧ j < n := by
    refine ⟨i + (q - pos n i i), ?_, by omega, ?_⟩ <;> (unfold pos at *; omega)
  rw [diL_at x hn hl (by omega) hj2, if_neg (by omega)]
theorem undWs : Tryz.prog.underlying 38 = some (.slice 33) := by kernel_rfl
theorem infoWs : (Tryz.prog.info? 33).map (fun i => (i.zero.map (·.cells.size), i.size, i.bytes)) = some (some 16, 16, 128) := by kernel_rfl
theorem undRs : Tryz.prog.underlying 92 = some (.slice 38) := by kernel_rfl
theorem infoRs : (Tryz.prog.info? 38).map (fun i => (i.zero, i.size, i.bytes)) = some (some (.slice none 0 0), 1, 24) := by kernel_rfl
def wc (z : Int) : List Value := (cells 16 (limb (enc z))).toList
def wcs (l : List Int) : List Value := l.flatMap wc
theorem wc_len (z : Int) : (wc z).length = 16 := by unfold wc; rw [Array.length_toList, cells_size]
theorem wc_one (z : Int) : ∀ u ∈ wc z, u.oneCell' = true := fun u hu => (Array.all_eq_true_iff_forall_mem.1 (cells_one 16 (limb (enc z)))) u (by unfold wc at hu; simpa using hu)
theorem wcs_nil : wcs [] = [] := rfl
theorem wcs_cons (z : Int) (l : List Int) : wcs (z :: l) = wc z ++ wcs l := rfl
theorem wcs_append (l m : List Int) : wcs (l ++ m) = wcs l ++ wcs m := by unfold wcs; rw [List.flatMap_append]
theorem wcs_len (l : List Int) : (wcs l).length = l.length * 16 := by
  induction l with
  | nil => rfl
  | cons z l ih => rw [wcs_cons, List.length_append, wc_len, ih, List.length_cons]; omega
theorem wcs_one {l : List Int} : ∀ u ∈ wcs l, u.oneCell' = true := fun u hu => by
  obtain ⟨z, _, h⟩ := List.mem_flatMap.1 hu
  exact wc_one z u h
theorem zth_split {l : List Int} {i : Nat} (h : i < l.length) : l = l.take i ++ zth l i :: l.drop (i + 1) := by
  rw [zth_get h, ← List.drop_eq_getElem_cons h, List.take_append_drop]
theorem wcs_take_len {l : List Int} {i : Nat} (h : i ≤ l.length) : (wcs (l.take i)).length = i * 16 := by rw [wcs_len, List.length_take]; omega
theorem wcs_split {l : List Int} {i : Nat} (h : i < l.length) : wcs l = wcs (l.take i) ++ (wc (zth l i) ++ wcs (l.drop (i + 1))) := by
  have e := congrArg wcs (zth_split h)
  rw [wcs_append, wcs_cons] at e
  exact e
theorem wcs_mid {l : List Int} {i j : Nat} (h : i < l.length) (hj : j < 16) : (wcs l)[i * 16 + j]? = (wc (zth l i))[j]? := by
  have h1 := wcs_take_len (l := l) (i := i) (by omega)
  rw [wcs_split h, List.getElem?_append_right (by omega), h1, show i * 16 + j - i * 16 = j by omega, List.getElem?_append_left (by rw [wc_len]; exact hj)]
theorem wcs_set {l : List Int} {i : Nat} (h : i < l.length) (z : Int) : (wcs l).take (i * 16) ++ wc z ++ (wcs l).drop (i * 16 + 16) = wcs (l.set i z) := by
  have h1 := wcs_take_len (l := l) (i := i) (by omega)
  rw [List.set_eq_take_append_cons_drop, if_pos h, wcs_append, wcs_cons, wcs_split h, ← h1, List.take_left' rfl, ← List.drop_drop, List.drop_left' rfl, List.drop_left' (by rw [wc_len])]
  rw [List.append_assoc]
theorem wcs_drop {l : List Int} {i : Nat} (h : i ≤ l.length) : (wcs l).drop (i * 16) = wcs (l.drop i) := by
  have h1 := wcs_take_len h
  have e := congrArg wcs (List.take_append_drop i l)
  rw [wcs_append] at e
  rw [← e, ← h1, List.drop_left' rfl]
def OwnW (w : World) (base : Nat) (v : Value) (l : List Int) : Prop := w.ownsRow base 33 16 v l.length (wcs l)
theorem OwnW.up {w w' : World} {base : Nat} {v : Value} {l : List Int} (hu : Up w w') (h : OwnW w base v l) : OwnW w' base v l := World.ownsRow.up h hu
theorem OwnW.nil (w : World) (base : Nat) : OwnW w base (.slice none 0 0) [] := World.ownsRow_nil _ _ _ _
theorem OwnW.slice {w : World} {base : Nat} {v : Value} {l : List Int} (h : OwnW w base v l) : ∃ p c, v = .slice p l.length c := by
  obtain ⟨_, ⟨rfl, h0⟩ | ⟨g, cap, cur, rfl, _⟩⟩ := h
  · exact ⟨none, 0, by rw [h0]⟩
  · exact ⟨_, cap, rfl⟩
def Wv (w : World) (v : Value) (l : List Int) : Prop :=
  (l = [] ∧ ∃ p c, v = .slice p 0 c) ∨ ∃ g cap C, v = .slice (some ⟨g, 0, none⟩) l.length cap ∧ l.length ≤ cap ∧ Blk w g 33 C ∧ C.toList.take (l.length * 16) = wcs l
theorem Wv.up {w w' : World} (hu : Up w w') {v : Value} {l : List Int} (h : Wv w v l) : Wv w' v l := by
  rcases h with h | ⟨g, cap, C, h1, h2, h3, h4⟩
  · exact .inl h
  · exact .inr ⟨g, cap, C, h1, h2, h3.up hu, h4⟩
theorem OwnW.wv {w : World} {base : Nat} {v : Value} {l : List Int} (h : OwnW w base v l) : Wv w v l := by
  obtain ⟨_, ⟨rfl, h0⟩ | ⟨g, cap, cur, rfl, _, hB, hc, _, _, ht⟩⟩ := h
  · exact .inl ⟨List.length_eq_zero_iff.1 h0, _, _, rfl⟩
  · exact .inr ⟨g, cap, cur, rfl, hc, hB, ht⟩
theorem Wv.slice {w : World} {v : Value} {l : List Int} (h : Wv w v l) : ∃ p c, v = .slice p l.length c := by
  rcases h with ⟨rfl, p, c, rfl⟩ | ⟨g, cap, C, rfl, _⟩
  · exact ⟨p, c, rfl⟩
  · exact ⟨_, cap, rfl⟩
theorem Wv.open {w : World} {v : Value} {l : List Int} (h : Wv w v l) (h0 : 0 < l.length) :
    ∃ g cap C, v = .slice (some ⟨g, 0, none⟩) l.length cap ∧ l.length ≤ cap ∧ Blk w g 33 C ∧ C.toList.take (l.length * 16) = wcs l := by
  rcases h with ⟨rfl, _⟩ | h
  · exact absurd h0 (by decide)
  · exact h
theorem wv_range {w : World} {g : Nat} {C : Array Value} {l : List Int} (hB : Blk w g 33 C) (ht : C.toList.take (l.length * 16) = wcs l) {i : Nat} (hi : i < l.length) : w.rangeAt g (i * 16) (wc (zth l i)) := by
  intro j v hv
  have hj : j < 16 := by have := (List.getElem?_eq_some_iff.1 hv).1; rw [wc_len] at this; exact this
  refine hB.cell _ ?_
  rw [← Array.getElem?_toList, ← List.getElem?_take_of_lt (show i * 16 + j < l.length * 16 by omega), ht, wcs_mid hi hj]
  exact hv
section
variable {a : Act} {w : World} {g off : Nat} {z : Int}
theorem run_ldW {o : Oper} {ev : Operand → Value} {x : Operand} (ho : o.op = .load 33 x) (hx : ev x = .pointer (some ⟨g, off, none⟩)) (hC : w.rangeAt g off (wc z)) :
    (execOp ev o).run Tryz.prog w = .ok (.value (.agg (cells 16 (limb (enc z))))) w := by
  unfold execOp
  simp only [ho, hx, Instr.loadAt, Instr.sureAddr, Sem.run_bind, Sem.run_pure, Result.andThen_ok, run_loadVar_mid w g off _ (wc z) _ hC undW rfl (by rw [infoW, wc_len])]
  unfold wc
  simp
theorem ldW_P {ops : Array Oper} {rest : List Oper} {Q : Exit → Act → World → Prop} {d : Option Tmp} {s : Tmp} {ty : TypeId} {pos : String} {af : Array Edge} {gd : Option (Nat × Bool)} (hw : Region.wanted { dst := d, op := .load 33 (.tmp s), type := ty, pos := pos, after := af, guard := gd } (yielded ops a.tmps) = true) (hx : a.eval (.tmp s) = .pointer (some ⟨g, off, none⟩))
    (hC : w.rangeAt g off (wc z)) (h : wpList Tryz.prog ops Q rest (a.put d (.agg (cells 16 (limb (enc z))))) w) : wpList Tryz.prog ops Q ({ dst := d, op := .load 33 (.tmp s), type := ty, pos := pos, after := af, guard := gd } :: rest) a w :=
  wpList_run hw (run_ldW rfl hx hC) h
def splW (C : Array Value) (off : Nat) (z : Int) : Array Value := (C.toList.take off ++ wc z ++ C.toList.drop (off + 16)).toArray
theorem run_svW {C : Array Value} (hB : Blk w g 33 C) (hl : off + 16 ≤ C.size) :
    (storeVar 33 ⟨g, off, none⟩ (wideV (enc z))).run Tryz.prog w = .ok () (w.setRow g (splW C off z)) := by
  have hs := run_storeCells_at Tryz.prog g off 33 (wc z) 0 C w hB (by rw [wc_len]; omega) (wc_one z)
  rw [Nat.add_zero, wc_len] at hs
  unfold splW
  have hi := infoW
  cases hq : Tryz.prog.info? 33 with
  | none => rw [hq] at hi; simp at hi
  | some i =>
    rw [hq] at hi
    have hz : i.size = 16 := by simpa using hi
    have hv : (wideV (enc z)).cells.toList = wc z := rfl
    have hn : (wideV (enc z)).cells.size = 16 := cells_size _ _
    simp [storeVar, sizeOf, typeInfo, hq, hz, hv, hn, hs]
theorem wp_stW {C : Array Value} {K : Act → World → Prop} {Q : Exit → Act → World → Prop} {o : Oper} (x y : Operand) (ho : o.op = .store 33 x y) (hx : a.eval x = .pointer (some ⟨g, off, none⟩)) (hy : a.eval y = .agg (cells 16 (limb (enc z)))) (hB : Blk w g 33 C) (hl : off + 16 ≤ C.size)
    (h : K (a.put o.dst undef) (w.setRow g (splW C off z))) : o.wp Tryz.prog a w K Q := by
  have hw := run_svW (z := z) hB hl
  unfold wideV at hw
  unfold Oper.wp execOp
  simp only [ho, hx, hy, Instr.storeAt, Instr.sureAddr, Sem.run_bind, Sem.run_pure, Result.andThen_ok, hw]
  exact h
theorem stW_P {C : Array Value} {ops : Array Oper} {rest : List Oper} {Q : Exit → Act → World → Prop} {d : Option Tmp} {s u : Tmp} {ty : TypeId} {pos : String} {af : Array Edge} (hx : a.eval (.tmp s) = .pointer (some ⟨g, off, none⟩)) (hy : a.eval (.tmp u) = .agg (cells 16 (limb (enc z)))) (hB : Blk w g 33 C) (hl : off + 16 ≤ C.size)
    (h : wpList Tryz.prog ops Q rest (a.put d undef) (w.setRow g (splW C off z))) :
    wpList Tryz.prog ops Q ({ dst := d, op := .store 33 (.tmp s) (.tmp u), type := ty, pos := pos, after := af, guard := none } :: rest) a w :=
  wpList_plain rfl fun _ hK => wp_stW _ _ rfl hx hy hB hl (hK _ _ h)
end
theorem OwnW.open {w : World} {base : Nat} {v : Value} {l : List Int} (h : OwnW w base v l) (h0 : 0 < l.length) :
    ∃ g cap C, v = .slice (some ⟨g, 0, none⟩) l.length cap ∧ base ≤ g ∧ Blk w g 33 C ∧ l.length ≤ cap ∧ cap ≤ maxLen ∧ C.size = cap * 16 ∧ C.toList.take (l.length * 16) = wcs l := by
  obtain ⟨_, h1 | ⟨g, cap, cur, hv, hb, hB, hc, hm, hs, ht⟩⟩ := h
  · omega
  · exact ⟨g, cap, cur, hv, hb, hB, hc, hm, hs, ht⟩
theorem set_take {C : List Value} {l : List Int} {i : Nat} (ht : C.take (l.length * 16) = wcs l) (hi : i < l.length) (hC : l.length * 16 ≤ C.length) (z : Int) :
    (C.take (i * 16) ++ wc z ++ C.drop (i * 16 + 16)).take (l.length * 16) = wcs (l.set i z) := by
  rw [← wcs_set hi z, ← ht, List.take_take, Nat.min_eq_left (by omega), List.drop_take]
  have h1 : (C.take (i * 16) ++ wc z).length = i * 16 + 16 := by rw [List.length_append, wc_len, List.length_take]; omega
  rw [List.take_append, h1, List.take_of_length_le (by omega)]
theorem OwnW.set {w : World} {base g cap n : Nat} {C : Array Value} {l : List Int} (h : OwnW w base (.slice (some ⟨g, 0, none⟩) n cap) l) (hB : Blk w g 33 C) {i : Nat} (hi : i < l.length) (z : Int) :
    OwnW (w.setRow g (splW C (i * 16) z)) base (.slice (some ⟨g, 0, none⟩) n cap) (l.set i z) ∧ i * 16 + 16 ≤ C.size := by
  obtain ⟨g', cap', C', hv, hb, hB', hc, hm, hs, ht⟩ := h.open (by omega)
  injection hv with e1 e2 e3
  injection e1 with e1
  injection e1 with e1
  subst e1 e2 e3
  have hCC : C' = C := by
    unfold Blk at hB hB'
    rw [hB] at hB'
    simp at hB'
    exact hB'.symm
  subst hCC
  have hl : i * 16 + 16 ≤ C'.size := by omega
  unfold splW
  refine ⟨⟨by rw [wcs_len, List.length_set], .inr ⟨g, cap, _, by rw [List.length_set], hb, hB.setRow _, by rw [List.length_set]; exact hc, hm, ?_, ?_⟩⟩, hl⟩
  · simp [wc_len]; omega
  · rw [List.length_set]
    exact set_take ht hi (by simp; omega) z
theorem appW {ops : Array Oper} {rest : List Oper} {Q : Exit → Act → World → Prop} {a : Act} {w : World} {d : Option Tmp} {s u : Operand} {ty : TypeId} {pos : String} {af : Array Edge} {base g off c : Nat} {v : Value} {l m : List Int}
    (hs : a.eval s = v) (hu : a.eval u = .slice (some ⟨g, off, none⟩) m.length c) (hown : OwnW w base v l) (hV : w.rangeAt g off (wcs m)) (hbase : base ≤ w.heap.size) (hl : l.length < 1000000) (hm : m.length < 1000000)
    (h : ∀ v' w', OwnW w' base v' (l ++ m) → w.grownBy w' v.ownBlock → Below base w w' → wpList Tryz.prog ops Q rest (a.put d v') w') :
    wpList Tryz.prog ops Q ({ dst := d, op := .call { callee := .builtin .append, args := #[s, u], argTypes := #[38, 38] }, type := ty, pos := pos, after := af, guard := none } :: rest) a w := by
  obtain ⟨i0, hi0, he⟩ := Option.map_eq_some_iff.1 infoWs
  simp only [Prod.mk.injEq] at he
  obtain ⟨z0, hz0, hzs⟩ := Option.map_eq_some_iff.1 he.1
  have hlt := World.ownsRow.lt hown
  refine wpList_append_own w rfl s u 38 rfl base 33 i0 z0 16 128 undWs hi0 hz0 he.2.1 he.2.2 hzs (by decide) v l.length (wcs l) hs hown ⟨g, off, none⟩ m.length c (wcs m) hu (wcs_len m) (fun j x hx => by rw [Addr.add_mid]; exact hV j x hx) wcs_one (by unfold maxLen; omega) (by omega) hbase ?_
  intro v' w' h1 h2 _
  refine h v' w' (by unfold OwnW; rw [List.length_append, wcs_append]; exact h1) h2 ⟨h2.os, h2.tape, h2.output, h2.size, fun k hk => h2.block k (by omega) fun e => ?_⟩
  have := hlt k e.symm
  omega
theorem one_range {w : World} {z : Int} {g : Nat} (h : g = w.heap.size) : (w.alloc (.cells (cells 16 (limb (enc z))) 33)).rangeAt g 0 (wcs [z]) := by
  intro j v hv
  have hB : Blk (w.alloc (.cells (cells 16 (limb (enc z))) 33)) g 33 (cells 16 (limb (enc z))) := Blk.new _ _ h
  rw [Nat.zero_add]
  refine hB.cell _ ?_
  rw [← Array.getElem?_toList]
  rw [show wcs [z] = wc z from by rw [wcs_cons, wcs_nil, List.append_nil]] at hv
  exact hv
theorem fill_one (f : Nat → Nat) (z : Array Value) : Instr.fill (fun i => some (i * 16, 16)) ((Array.range (1 * 16)).map (z[· % z.size]!)) [(0, .agg (cells 16 f))] = some (cells 16 f) := by
  unfold cells
  kernel_rfl
theorem bsW_P {ops : Array Oper} {rest : List Oper} {Q : Exit → Act → World → Prop} {a : Act} {w : World} {d : Option Tmp} {s : Tmp} {ty : TypeId} {pos : String} {af : Array Edge} {z : Int} (hs : a.eval (.tmp s) = .agg (cells 16 (limb (enc z))))
    (h : wpList Tryz.prog ops Q rest (a.put d (.slice (some ⟨w.heap.size, 0, none⟩) 1 1)) (w.alloc (.cells (cells 16 (limb (enc z))) 33))) :
    wpList Tryz.prog ops Q ({ dst := d, op := .buildSlice 38 1 #[(0, .tmp s)], type := ty, pos := pos, after := af, guard := none } :: rest) a w := by
  obtain ⟨i0, hi0, he⟩ := Option.map_eq_some_iff.1 infoWs
  simp only [Prod.mk.injEq] at he
  obtain ⟨z0, hz0, hzs⟩ := Option.map_eq_some_iff.1 he.1
  refine wpList_buildSlice rfl 38 33 1 _ rfl (cells 16 (limb (enc z))) i0 z0 undWs hi0 hz0 (by rw [he.2.1]; decide) (by rw [he.2.1]; decide) ?_ h
  simp only [List.map_toArray, List.map_cons, List.map_nil, hs, he.2.1]
  exact fill_one _ _
theorem ent_fit {n : Nat} {l : List Int} (hR : rt n l = true) {i j : Nat} (hi : i < n) (hj : j < n) : (ent n l i j).natAbs ≤ 1073741824 := by
  obtain ⟨k, _, hk, he⟩ := idx_nat hR (show rng (n : Int) i j = true from decide_eq_true (by omega))
  have := (rt_spec hR).2.2.2 k hk
  rw [he]
  have := of_decide_eq_true this
  omega
theorem mul_bp1 {a b : Int} (ha : a.natAbs < bp 1) (hb' : b.natAbs < bp 1) : (a * b).natAbs < bp 2 := by
  rw [Int.natAbs_mul, show bp 2 = bp 1 * bp 1 from by rw [← bp_add]]
  exact Nat.mul_lt_mul_of_lt_of_lt ha hb'
theorem undBs : Tryz.prog.underlying 49 = some (.slice 46) := by kernel_rfl
theorem infoBs : (Tryz.prog.info? 46).map (fun i => (i.zero, i.size, i.bytes)) = some (some (.agg #[.bool false, .slice none 0 0]), 2, 32) := by kernel_rfl
def BigAt (w : World) (get : Nat → Option Value) (i : Nat) (z : Int) : Prop :=
  ∃ b a n c, get (i * 2) = some (.bool b) ∧ get (i * 2 + 1) = some (.slice a n c) ∧ Big w (.agg #[.bool b, .slice a n c]) z
theorem BigAt.up {w w' : World} (hu : Up w w') {get : Nat → Option Value} {i : Nat} {z : Int} (h : BigAt w get i z) : BigAt w' get i z := by
  obtain ⟨b, a, n, c, h1, h2, h3⟩ := h
  exact ⟨b, a, n, c, h1, h2, h3.up hu⟩
def OwnB (w : World) (base : Nat) (v : Value) (l : List Int) : Prop :=
  ∃ xs : List Value, w.ownsRow base 46 2 v l.length xs ∧ ∀ i, i < l.length → BigAt w (fun k => xs[k]?) i (zth l i)
theorem OwnB.up {w w' : World} {base : Nat} {v : Value} {l : List Int} (hu : Up w w') (h : OwnB w base v l) : OwnB w' base v l := by
  obtain ⟨xs, h1, h2⟩ := h
  exact ⟨xs, World.ownsRow.up h1 hu, fun i hi => (h2 i hi).up hu⟩
theorem OwnB.nil (w : World) (base : Nat) : OwnB w base (.slice none 0 0) [] := ⟨[], World.ownsRow_nil _ _ _ _, fun _ hi => absurd hi (Nat.not_lt_zero _)⟩
def Bv (w : World) (v : Value) (l : List Int) : Prop :=
  (l = [] ∧ ∃ p c, v = .slice p 0 c) ∨ ∃ g cap C, v = .slice (some ⟨g, 0, none⟩) l.length cap ∧ l.length ≤ cap ∧ Blk w g 46 C ∧ ∀ i, i < l.length → BigAt w (fun k => C[k]?) i (zth l i)
theorem Bv.up {w w' : World} (hu : Up w w') {v : Value} {l : List Int} (h : Bv w v l) : Bv w' v l := by
  rcases h with h | ⟨g, cap, C, h1, h2, h3, h4⟩
  · exact .inl h
  · exact .inr ⟨g, cap, C, h1, h2, h3.up hu, fun i hi => (h4 i hi).up hu⟩
theorem Bv.slice {w : World} {v : Value} {l : List Int} (h : Bv w v l) : ∃ p c, v = .slice p l.length c := by
  rcases h with ⟨rfl, p, c, rfl⟩ | ⟨g, cap, C, rfl, _⟩
  · exact ⟨p, c, rfl⟩
  · exact ⟨_, cap, rfl⟩
theorem Bv.open {w : World} {v : Value} {l : List Int} (h : Bv w v l) (h0 : 0 < l.length) :
    ∃ g cap C, v = .slice (some ⟨g, 0, none⟩) l.length cap ∧ l.length ≤ cap ∧ Blk w g 46 C ∧ ∀ i, i < l.length → BigAt w (fun k => C[k]?) i (zth l i) := by
  rcases h with ⟨rfl, _⟩ | h
  · exact absurd h0 (by decide)
  · exact h
theorem OwnB.open {w : World} {base : Nat} {v : Value} {l : List Int} (h : OwnB w base v l) (h0 : 0 < l.length) :
    ∃ g cap C, v = .slice (some ⟨g, 0, none⟩) l.length cap ∧ base ≤ g ∧ Blk w g 46 C ∧ l.length ≤ cap ∧ cap ≤ maxLen ∧ C.size = cap * 2 ∧ ∀ i, i < l.length → BigAt w (fun k => C[k]?) i (zth l i) := by
  obtain ⟨xs, ⟨_, h1 | ⟨g, cap, cur, hv, hb, hB, hc, hm, hs, ht⟩⟩, h2⟩ := h
  · omega
  · refine ⟨g, cap, cur, hv, hb, hB, hc, hm, hs, fun i hi => ?_⟩
    obtain ⟨b, a, n, c, h3, h4, h5⟩ := h2 i hi
    rw [← ht] at h3 h4
    refine ⟨b, a, n, c, ?_, ?_, h5⟩
    · dsimp only at h3 ⊢; rw [← h3, List.getElem?_take_of_lt (by omega), Array.getElem?_toList]
    · dsimp only at h4 ⊢; rw [← h4, List.getElem?_take_of_lt (by omega), Array.getElem?_toList]
theorem OwnB.bv {w : World} {base : Nat} {v : Value} {l : List Int} (h : OwnB w base v l) : Bv w v l := by
  rcases Nat.eq_zero_or_pos l.length with h0 | h0
  · obtain ⟨xs, ⟨_, ⟨rfl, _⟩ | ⟨g, cap, cur, rfl, _⟩⟩, _⟩ := h
    · exact .inl ⟨List.length_eq_zero_iff.1 h0, _, _, rfl⟩
    · exact .inl ⟨List.length_eq_zero_iff.1 h0, _, _, by rw [h0]⟩
  · obtain ⟨g, cap, C, hv, _, hB, hc, _, _, hE⟩ := h.open h0
    exact .inr ⟨g, cap, C, hv, hc, hB, hE⟩
theorem OwnB.slice {w : World} {base : Nat} {v : Value} {l : List Int} (h : OwnB w base v l) : ∃ p c, v = .slice p l.length c := h.bv.slice
theorem big_zero (w : World) : Big w (.agg #[.bool false, .slice none 0 0]) 0 := ⟨none, 0, by simp [nl_zero], am_nil w⟩
section
variable {a : Act} {w : World} {g off : Nat} {vs : List Value}
theorem bigAt_range {C : Array Value} (hB : Blk w g 46 C) {i : Nat} {b : Bool} {p : Option Addr} {n c : Nat} (h1 : C[i * 2]? = some (.bool b)) (h2 : C[i * 2 + 1]? = some (.slice p n c)) : w.rangeAt g (i * 2) [.bool b, .slice p n c] := by
  intro j v hv
  rcases j with _ | _ | j
  · simp at hv; subst hv; exact hB.cell _ h1
  · simp at hv; subst hv; exact hB.cell _ h2
  · simp at hv
theorem run_ldB2 {o : Oper} {ev : Operand → Value} {x : Operand} {b : Bool} {p : Option Addr} {n c : Nat} (ho : o.op = .load 46 x) (hx : ev x = .pointer (some ⟨g, off, none⟩)) (hC : w.rangeAt g off [.bool b, .slice p n c]) :
    (execOp ev o).run Tryz.prog w = .ok (.value (.agg #[.bool b, .slice p n c])) w := by
  obtain ⟨fs, hfs⟩ := undB
  unfold execOp
  simp only [ho, hx, Instr.loadAt, Instr.sureAddr, Sem.run_bind, Sem.run_pure, Result.andThen_ok, run_loadVar_mid w g off _ _ _ hC hfs rfl (by rw [infoB]; rfl)]
theorem ldB2_P {ops : Array Oper} {rest : List Oper} {Q : Exit → Act → World → Prop} {d : Option Tmp} {s : Tmp} {ty : TypeId} {pos : String} {af : Array Edge} {gd : Option (Nat × Bool)} {b : Bool} {p : Option Addr} {n c : Nat} (hw : Region.wanted { dst := d, op := .load 46 (.tmp s), type := ty, pos := pos, after := af, guard := gd } (yielded ops a.tmps) = true) (hx : a.eval (.tmp s) = .pointer (some ⟨g, off, none⟩))
    (hC : w.rangeAt g off [.bool b, .slice p n c]) (h : wpList Tryz.prog ops Q rest (a.put d (.agg #[.bool b, .slice p n c])) w) : wpList Tryz.prog ops Q ({ dst := d, op := .load 46 (.tmp s), type := ty, pos := pos, after := af, guard := gd } :: rest) a w :=
  wpList_run hw (run_ldB2 rfl hx hC) h
def splB (C : Array Value) (off : Nat) (vs : List Value) : Array Value := (C.toList.take off ++ vs ++ C.toList.drop (off + 2)).toArray
theorem run_svB {C : Array Value} {b : Bool} {p : Option Addr} {n c : Nat} (hB : Blk w g 46 C) (hl : off + 2 ≤ C.size) :
    (storeVar 46 ⟨g, off, none⟩ (.agg #[.bool b, .slice p n c])).run Tryz.prog w = .ok () (w.setRow g (splB C off [.bool b, .slice p n c])) := by
  have hs := run_storeCells_at Tryz.prog g off 46 [.bool b, .slice p n c] 0 C w hB (by simp; omega) (by simp [Value.oneCell'])
  rw [Nat.add_zero] at hs
  unfold splB
  have hi := infoB
  cases hq : Tryz.prog.info? 46 with
  | none => rw [hq] at hi; simp at hi
  | some i =>
    rw [hq] at hi
    have hz : i.size = 2 := by simpa using hi
    have hv : (Value.agg #[.bool b, .slice p n c]).cells.toList = [.bool b, .slice p n c] := rfl
    have hn : (Value.agg #[.bool b, .slice p n c]).cells.size = 2 := rfl
    have hl2 : ([Value.bool b, .slice p n c]).length = 2 := rfl
    rw [hl2] at hs
    simp [storeVar, sizeOf, typeInfo, hq, hz, hv, hn, hs]
theorem wp_stB2 {C : Array Value} {b : Bool} {p : Option Addr} {n c : Nat} {K : Act → World → Prop} {Q : Exit → Act → World → Prop} {o : Oper} (x y : Operand) (ho : o.op = .store 46 x y) (hx : a.eval x = .pointer (some ⟨g, off, none⟩)) (hy : a.eval y = .agg #[.bool b, .slice p n c]) (hB : Blk w g 46 C) (hl : off + 2 ≤ C.size)
    (h : K (a.put o.dst undef) (w.setRow g (splB C off [.bool b, .slice p n c]))) : o.wp Tryz.prog a w K Q := by
  unfold Oper.wp execOp
  simp only [ho, hx, hy, Instr.storeAt, Instr.sureAddr, Sem.run_bind, Sem.run_pure, Result.andThen_ok, run_svB hB hl]
  exact h
end
theorem splB_size {C : Array Value} {off : Nat} {x y : Value} (hl : off + 2 ≤ C.size) : (splB C off [x, y]).size = C.size := by
  unfold splB; simp; omega
theorem splB_get {C : Array Value} {off k : Nat} {x y : Value} (hl : off + 2 ≤ C.size) : (splB C off [x, y])[k]? = if k = off then some x else if k = off + 1 then some y else C[k]? := by
  unfold splB
  have h1 : (C.toList.take off).length = off := by rw [List.length_take, Array.length_toList]; omega
  rw [List.getElem?_toArray]
  rcases Nat.lt_trichotomy k off with h | h | h
  · rw [if_neg (by omega), if_neg (by omega), List.append_assoc, List.getElem?_append_left (by omega), List.getElem?_take_of_lt h, Array.getElem?_toList]
  · subst h
    rw [if_pos rfl, List.append_assoc, List.getElem?_append_right (by omega), h1, Nat.sub_self]
    rfl
  · rw [if_neg (by omega), List.append_assoc, List.getElem?_append_right (by omega), h1]
    by_cases h2 : k = off + 1
    · rw [if_pos h2, h2, show off + 1 - off = 1 by omega]; rfl
    · obtain ⟨d, rfl⟩ : ∃ d, k = off + 2 + d := ⟨k - (off + 2), by omega⟩
      rw [if_neg h2, show off + 2 + d - off = d + 2 by omega]
      show (C.toList.drop (off + 2))[d]? = _
      rw [List.getElem?_drop, Array.getElem?_toList]
theorem Big.grown {w w' : World} {row : Option Nat} {v : Value} {z : Int} (h : Big w v z) (hg : w.grownBy w' row) (hr : ∀ k, row = some k → ∃ C, Blk w k 46 C) : Big w' v z := by
  obtain ⟨a, c, h1, a2, c2, h2, h3, h4⟩ := h
  refine ⟨a, c, h1, a2, c2, h2, h3, fun h0 => ?_⟩
  obtain ⟨b, E, h5, h6, h7⟩ := h4 h0
  refine ⟨b, E, h5, ?_, h7⟩
  unfold Blk
  rw [hg.block b h6.lt ?_]
  · exact h6
  · intro e
    obtain ⟨C, hC⟩ := hr b e.symm
    unfold Blk at hC h6
    rw [hC] at h6
    simp at h6
theorem appB {ops : Array Oper} {rest : List Oper} {Q : Exit → Act → World → Prop} {a : Act} {w : World} {d : Option Tmp} {s u : Operand} {ty : TypeId} {pos : String} {af : Array Edge} {base g c : Nat} {v : Value} {l : List Int} {b : Bool} {p : Option Addr} {m n : Nat} {z : Int}
    (hs : a.eval s = v) (hu : a.eval u = .slice (some ⟨g, 0, none⟩) 1 c) (hown : OwnB w base v l) (hV : w.rangeAt g 0 [.bool b, .slice p m n]) (hb : Big w (.agg #[.bool b, .slice p m n]) z) (hbase : base ≤ w.heap.size) (hl : l.length < 1000000)
    (h : ∀ v' w', OwnB w' base v' (l ++ [z]) → w.grownBy w' v.ownBlock → Below base w w' → wpList Tryz.prog ops Q rest (a.put d v') w') :
    wpList Tryz.prog ops Q ({ dst := d, op := .call { callee := .builtin .append, args := #[s, u], argTypes := #[49, 49] }, type := ty, pos := pos, after := af, guard := none } :: rest) a w := by
  obtain ⟨i0, hi0, he⟩ := Option.map_eq_some_iff.1 infoBs
  simp only [Prod.mk.injEq] at he
  obtain ⟨xs, hx, hE⟩ := hown
  have hlt := World.ownsRow.lt hx
  have hrow : ∀ k, v.ownBlock = some k → ∃ C, Blk w k 46 C := by
    intro k hk
    obtain ⟨_, ⟨rfl, _⟩ | ⟨g', cap, cur, rfl, _, hB, _⟩⟩ := hx
    · simp [Value.ownBlock] at hk
    · simp [Value.ownBlock] at hk; subst hk; exact ⟨cur, hB⟩
  have hxl : xs.length = l.length * 2 := hx.1
  refine wpList_append_own w rfl s u 49 rfl base 46 i0 _ 2 32 undBs hi0 he.1 he.2.1 he.2.2 rfl (by decide) v l.length xs hs hx ⟨g, 0, none⟩ 1 c [.bool b, .slice p m n] hu rfl (fun j y hy => by rw [Addr.add_mid]; exact hV j y hy) (by simp [Value.oneCell']) (by unfold maxLen; omega) (by omega) hbase ?_
  intro v' w' h1 h2 _
  refine h v' w' ⟨xs ++ [.bool b, .slice p m n], by rw [List.length_append]; exact h1, fun i hi => ?_⟩ h2 ⟨h2.os, h2.tape, h2.output, h2.size, fun k hk => h2.block k (by omega) fun e => ?_⟩
  · rw [List.length_append, List.length_singleton] at hi
    by_cases e : i < l.length
    · obtain ⟨b', a', n', c', h3, h4, h5⟩ := hE i e
      have ez : zth (l ++ [z]) i = zth l i := by unfold zth; rw [List.getD_eq_getElem?_getD, List.getD_eq_getElem?_getD, List.getElem?_append_left e]
      rw [ez]
      exact ⟨b', a', n', c', by dsimp only at h3 ⊢; rw [List.getElem?_append_left (by omega)]; exact h3, by dsimp only at h4 ⊢; rw [List.getElem?_append_left (by omega)]; exact h4, h5.grown h2 hrow⟩
    · obtain rfl : i = l.length := by omega
      have ez : zth (l ++ [z]) l.length = z := by unfold zth; rw [List.getD_eq_getElem?_getD, List.getElem?_append_right (Nat.le_refl _), Nat.sub_self]; rfl
      rw [ez]
      exact ⟨b, p, m, n, by dsimp only; rw [List.getElem?_append_right (by omega), hxl, Nat.sub_self]; rfl, by dsimp only; rw [List.getElem?_append_right (by omega), hxl, show l.length * 2 + 1 - l.length * 2 = 1 by omega]; rfl, hb.grown h2 hrow⟩
  · have := hlt k e.symm
    omega
def RInv (w : World) (base bx rs : Nat) (n : Int) (sA : Value) (new old : List Int) (p : Nat) (wr : World) : Prop :=
  OwnI wr base sA (mixed new old p) ∧ (∀ q, q < p → fit (zth new q) = true) ∧ Blk wr bx 24 #[.int .i64 n, sA] ∧ Blk wr rs 24 #[.int .i64 0, .slice none 0 0] ∧ Up w wr
theorem In64.mixed {new old : List Int} (hl : new.length = old.length) (h : In64 old) {p : Nat} (hf : ∀ q, q < p → fit (zth new q) = true) : In64 (mixed new old p) := by
  intro i hi
  rw [mixed_len hl] at hi
  rw [mixed_get hl _ hi]
  split
  · rename_i h1; exact fit_i64 (hf i h1)
  · exact h i hi
theorem OwnI.sm {w : World} {base : Nat} {s : Value} {l : List Int} {N : Int} (h : OwnI w base s l) (hN : I64 N) (hl : In64 l) (hn : l.length ≤ 1000) : Sm w (.agg #[.int .i64 N, s]) N l := ⟨s, rfl, h.vw, hN, hl, hn⟩
set_option maxHeartbeats 8000000 in
theorem rdiag_any {v : Value} {N : Int} {l : List Int} (x : Int) {w : World} (hm : Sm w v N l) (hx : I64 x) :
    Calls Tryz.prog 38 #[v, .int .i64 x] w (RSymPost w (diN N l x) (diR N l x) (diC N l x)) := by
  have HR := hid (fun w' (hu : Up w w') => rright_any (hm.up hu))
  have HCP := hid (fun w' (hu : Up w w') => copy_any (hm.up hu))
  obtain ⟨s, rfl, hV, hN, hl, hlen⟩ := hm
  obtain ⟨p, cap, rfl, hcap, hc⟩ := hV
  obtain ⟨W0, hW0⟩ : ∃ W0, (w.alloc (.cells #[.int .i64 N, .slice p l.length cap] 24)).alloc (.cells #[.int .i64 0, .slice none 0 0] 24) = W0 := ⟨_, rfl⟩
  have hB : Blk W0 w.heap.size 24 #[.int .i64 N, .slice p l.length cap] := by rw [← hW0]; exact (Blk.new _ _ rfl).old _
  have hQ : Blk W0 (w.heap.size + 1) 24 #[.int .i64 0, .slice none 0 0] := by rw [← hW0]; exact Blk.new _ _ (by simp)
  have hU : Up w W0 := by rw [← hW0]; exact (Up.alloc _ _).trans (Up.alloc _ _)
  cases hR : rt N l with
  | false =>
    have e : diC N l x = 23 := by unfold diC; rw [hR]; rfl
    have e2 : diR N l x = [] := by unfold diR; rw [e]; rfl
    have e3 : diN N l x = 0 := by unfold diN; rw [e]; rfl
    rw [e, e2, e3]
    rw [hR] at HR
    clear e e2 e3 hR hc hl hN
    go_enter Tryz.func38, Tryz.ntmps38
    go_wp2_with (first
      | ((with_reducible apply ldM_P); exact rfl; exact rfl; exact hB; exact rfl)
      | (go_at_call 12; (with_reducible refine (HR.out _ hU).mono ?_); rintro r w1 ⟨rfl, hu1⟩; replace hQ := hQ.up hu1)
      | ((with_reducible apply stM_P); exact rfl; exact rfl; exact hQ; exact rfl; exact rfl; exact two2 _ _ _ _ _))
    exact bodyPost_ret (resMs (u := .int .i64 23) rfl rfl rfl (hQ.setRow _) rfl) rfl (RSymPost.err 23 (hU.trans hu1) (by omega))
  | true =>
    rw [hR] at HR
    obtain ⟨n0, n8, htri, _⟩ := rt_spec hR
    obtain ⟨n, rfl⟩ : ∃ n : Nat, N = (n : Int) := ⟨N.toNat, by omega⟩
    rw [tri_nat] at htri
    have n8' : n ≤ 8 := by omega
    have hln : l.length = triN n := by omega
    have eN : ((n : Int)).toNat = n := by omega
    obtain ⟨L', hL'⟩ : ∃ L', diL n l x = L' := ⟨_, rfl⟩
    have HlL : Hid (L'.length = l.length) := hid (by rw [← hL', diL_len])
    have Hat : Hid (∀ i, i < n → zth L' (pos n i i) = zth l (pos n i i) + x) := hid (fun i hi => by rw [← hL', diL_at x n8' hln (Nat.le_refl _) hi, if_pos rfl])
    have Hrow : Hid (∀ i q, i < n → pos n i i + 1 ≤ q → q < pos n (i + 1) (i + 1) → zth L' q = zth l q) := hid (fun i q hi h1 h2 => by rw [← hL']; exact diL_row x n8' hln hi h1 h2)
    have Hfl := hid (rt_spec hR).2.2.2
    obtain ⟨hc9, hd9⟩ : (∀ k, k < L'.length → fit (zth L' k) = false → RSymPost w (diN n l x) (diR n l x) (diC n l x) = RSymPost w 0 [] 21) ∧
        ((∀ k, k < L'.length → fit (zth L' k) = true) → RSymPost w (diN n l x) (diR n l x) (diC n l x) = RSymPost w n L' 0) := by
      refine ⟨fun k hk hf => ?_, fun hf => ?_⟩
      · have e : diC n l x = 21 := by unfold diC; rw [hR, eN, hL', all_no hk hf]; rfl
        unfold diN diR; rw [e]; rfl
      · have e : diC n l x = 0 := by unfold diC; rw [hR, eN, hL', all_yes hf]; rfl
        unfold diN diR; rw [e, if_pos rfl, if_pos rfl, eN, hL']
    have Hbad := hid hc9
    have Hgood := hid hd9
    obtain ⟨PP, hPP⟩ : ∃ PP, RSymPost w (diN n l x) (diR n l x) (diC n l x) = PP := ⟨_, rfl⟩
    rw [hPP] at Hbad Hgood ⊢
    have HN64 := hid hN
    have HLn := hid hln
    have Hl64 := hid hl
    have hx64 := hid hx
    have HOx := hid (fun w => of_big x hx.1 hx.2 w)
    clear hPP hc9 hd9 hL' hc hl hx hR htri hln hN eN hcap n0 n8
    go_enter Tryz.func38, Tryz.ntmps38
    go_wp2_with (first
      | ((with_reducible apply ldM_P); exact rfl; exact rfl; exact hB; exact rfl)
      | (go_at_call 12; (with_reducible refine (HR.out _ hU).mono ?_); rintro r w1 ⟨rfl, hu1⟩; replace hQ := hQ.up hu1; replace hB := hB.up hu1; replace hU := hU.trans hu1)
      | (go_at_call 9; (with_reducible refine (HCP.out _ hU).mono ?_); rintro r w2 ⟨sA, rfl, hu2, hO⟩; have hlt := hB.lt; have hlt2 := hQ.lt; replace hQ := hQ.up hu2; replace hB := hB.up hu2; replace hU := hU.trans hu2; obtain ⟨pA, nA, cA, rfl⟩ := OwnI.slice hO; have hO2 := OwnI.setRow (D := #[.int .i64 (n : Int), .slice pA nA cA]) hO hB; have hB2 := hB.setRow #[.int .i64 (n : Int), .slice pA nA cA]; have hQ2 := Blk.row_other hQ #[.int .i64 (n : Int), .slice pA nA cA] (show w.heap.size + 1 ≠ w.heap.size by omega); have hU2 := below_setRow hU (Nat.le_refl _) #[.int .i64 (n : Int), .slice pA nA cA])
      | ((with_reducible apply stM_P); exact rfl; exact rfl; exact hB; exact rfl; exact rfl; exact two2 _ _ _ _ _))
    obtain ⟨base, hbase⟩ : ∃ b, w1.heap.size = b := ⟨_, rfl⟩
    have hbs : w.heap.size + 1 < base := by omega
    rw [hbase] at hO2
    clear hbase hlt hlt2 hu1 hu2 hO hB hQ hU
    go_loopg [6] n (fun g ti wr => ∃ i : Nat, i ≤ n ∧ n - i ≤ g ∧ ti = .int .i64 (i : Nat) ∧ RInv w base w.heap.size (w.heap.size + 1) n (.slice pA nA cA) L' l (pos n i i) wr)
    case atStart => exact ⟨0, Nat.zero_le _, by omega, rfl, by rw [pos_zero, mixed_zero]; exact hO2, fun q hq => by rw [pos_zero] at hq; omega, hB2, hQ2, hU2⟩
    case round =>
      clear hB2 hQ2 hU2 hO2
      obtain ⟨i, hi, hig, rfl, hO, hfits, hB, hQ, hU⟩ := hrel
      have hc0 := hB.cell 0 rfl
      by_cases hlt : i < n
      · have e1 : IntKind.i64.wrap ((i : Int) + 1) = (i : Int) + 1 := IntWalk.i64_in _ (by omega)
        have hkl : pos n i i < l.length := by rw [HLn.out]; exact pos_lt (Nat.le_refl _) hlt
        have hM64 := In64.mixed HlL.out Hl64.out hfits
        have HSm := hid (hO.sm HN64.out hM64 (by rw [mixed_len HlL.out]; exact hlen))
        have HAt := hid (fun w' (hu : Up wr w') => rat_ent2 (HSm.out.up hu) n8' (by rw [mixed_len HlL.out]; exact HLn.out) (Nat.le_refl i) hlt)
        have hat := Hat.out i hlt
        have HX := hid (fun w => (pos_idx (Nat.le_refl i) hlt) ▸ rat_any (n : Int) (i : Int) (i : Int) (by omega) (by omega) (by omega) (by omega) (by omega) w)
        have Hro := hid (fun q => Hrow.out i q hlt)
        have HP := hid (pos_row hlt)
        have HFit := hid hfits
        have HPS : Hid (pos n i i + 1 ≤ pos n (i + 1) (i + 1) ∧ pos n (i + 1) (i + 1) ≤ l.length) := hid (by rw [HLn.out]; have := pos_row hlt; unfold pos at *; omega)
        obtain ⟨k, hk⟩ : ∃ k, pos n i i = k := ⟨_, rfl⟩
        have HK := hid hk
        rw [hk] at hkl HAt hat hO HX Hro HFit HPS
        obtain ⟨g, cp, C, hv, hbg, -⟩ := hO.open (by rw [mixed_len HlL.out]; omega)
        injection hv with x1 x2 x3
        rw [mixed_len HlL.out] at x2
        subst x1 x2 x3
        have hmx : zth (mixed L' l k) k = zth l k := mixed_at HlL.out hkl
        rw [hmx] at HAt
        have hak := Hl64.out k hkl
        have HOk := hid (fun w => of_big (zth l k) hak.1 hak.2 w)
        have n1 := nl_bp (by omega) (i64_bp hak)
        have n2 := nl_bp (by omega) (i64_bp hx64.out)
        have n3 : nl (zth l k + x).natAbs < 50000 := nl_bp (k := 2) (by omega) (by
          have b1 := i64_bp hak
          have b2 := i64_bp hx64.out
          have b3 : bp 2 = bp 1 * 18446744073709551616 := bp_succ 1
          have b4 := bp_pos 1
          omega)
        rw [← hat] at n3
        have HS9 := hid (mixed_set HlL.out hkl)
        have HML := hid (mixed_len HlL.out k)
        have HAD := hid (fun (va vb : Value) (w : World) (ha : Big w va (zth l k)) (hb : Big w vb x) => hat ▸ add_big ha hb n1 n2)
        clear hat n1 n2 hak hk hM64 hfits
        obtain ⟨z9, hz9'⟩ : ∃ z, zth L' k = z := ⟨_, rfl⟩
        have HZ9 := hid hz9'
        rw [hz9'] at HS9 n3 HAD
        clear hz9' hmx
        generalize zth l k = ak at *
        obtain ⟨M, hM9⟩ : ∃ M, mixed L' l k = M := ⟨_, rfl⟩
        rw [hM9] at hO HS9 HML
        clear hM9 HSm
        have hkM : k < M.length := by rw [HML.out]; exact hkl
        have HN3 := hid n3
        clear n3
        cases hf : fit z9 with
        | false =>
          have HF9 := hid (fun (va : Value) (w : World) (hb : Big w va z9) => hf ▸ rfits_any hb HN3.out)
          have Hf := hid hf
          clear hf
          go_wp2_with (first
            | ((with_reducible apply ldM_P); exact rfl; exact rfl; exact hB; exact rfl)
            | ((with_reducible apply stB_P); exact rfl; exact rfl; exact gBlk; exact rfl; exact rfl; exact one2 _ _ _ _)
            | ((with_reducible apply ldB_P); exact rfl; exact rfl; exact gBlk; exact rfl)
            | (go_at_call 22; (with_reducible refine (HAt.out _ (Up.refl _)).mono ?_); rintro r w3 ⟨rfl, hu3⟩)
            | (go_at_call 37; first
                | ((with_reducible refine (HOk.out _).mono ?_); rintro r w4 ⟨hu4, u4, rfl, hb4⟩)
                | ((with_reducible refine (HOx.out _).mono ?_); rintro r w5 ⟨hu5, u5, rfl, hb5⟩))
            | (go_at_call 72; (with_reducible refine (HAD.out _ _ _ (hb4.up hu5) hb5).mono ?_); rintro r w6 ⟨hu6, u6, rfl, hb6⟩; obtain ⟨bb, ba, bn, bc, rfl⟩ := hb6.shape; have hu36 := ((hu3.trans hu4).trans hu5).trans hu6; have hBg := (Blk.new (w := w6) (b := w6.heap.size) 46 #[.bool false, .slice none 0 0] rfl).setRow #[.bool bb, .slice ba bn bc]; have hbg6 : Big _ _ z9 := big_set (D := #[.bool bb, .slice ba bn bc]) (Blk.new (w := w6) (b := w6.heap.size) 46 #[.bool false, .slice none 0 0] rfl) (big_alloc hb6); have hu6X := hu36.trans (below_setRow (Up.alloc w6 (.cells #[.bool false, .slice none 0 0] 46)) (Nat.le_refl _) #[.bool bb, .slice ba bn bc]))
            | (go_at_call 68; (with_reducible refine (HF9.out _ _ hbg6).mono ?_); rintro r w7 ⟨rfl, hu7⟩; replace hQ := (hQ.up hu6X).up hu7)
            | ((with_reducible apply stM_P); exact rfl; exact rfl; exact hQ; exact rfl; exact rfl; exact two2 _ _ _ _ _))
          rw [Hbad.out k (by rw [HlL.out]; exact hkl) (by rw [HZ9.out]; exact Hf.out)]
          exact bodyPost_ret (resMs (u := .int .i64 21) rfl rfl rfl (hQ.setRow _) rfl) rfl (RSymPost.err 21 ((hU.trans hu6X).trans hu7) (by omega))
        | true =>
          have HF9 := hid (fun (va : Value) (w : World) (hb : Big w va z9) => hf ▸ rfits_any hb HN3.out)
          have Hf := hid hf
          have HIn := hid (fun (va : Value) (w : World) (hb : Big w va z9) => (i64V_yes (fit_i64 hf)) ▸ int64_big hb HN3.out)
          clear hf
          go_wp2_with (first
            | ((with_reducible apply ldM_P); exact rfl; exact rfl; exact hB; exact rfl)
            | ((with_reducible apply stB_P); exact rfl; exact rfl; exact gBlk; exact rfl; exact rfl; exact one2 _ _ _ _)
            | ((with_reducible apply ldB_P); exact rfl; exact rfl; exact gBlk; exact rfl)
            | (go_at_call 22; (with_reducible refine (HAt.out _ (Up.refl _)).mono ?_); rintro r w3 ⟨rfl, hu3⟩)
            | (go_at_call 37; first
                | ((with_reducible refine (HOk.out _).mono ?_); rintro r w4 ⟨hu4, u4, rfl, hb4⟩)
                | ((with_reducible refine (HOx.out _).mono ?_); rintro r w5 ⟨hu5, u5, rfl, hb5⟩))
            | (go_at_call 72; (with_reducible refine (HAD.out _ _ _ (hb4.up hu5) hb5).mono ?_); rintro r w6 ⟨hu6, u6, rfl, hb6⟩; obtain ⟨bb, ba, bn, bc, rfl⟩ := hb6.shape; have hu36 := ((hu3.trans hu4).trans hu5).trans hu6; have hBg := (Blk.new (w := w6) (b := w6.heap.size) 46 #[.bool false, .slice none 0 0] rfl).setRow #[.bool bb, .slice ba bn bc]; have hbg6 : Big _ _ z9 := big_set (D := #[.bool bb, .slice ba bn bc]) (Blk.new (w := w6) (b := w6.heap.size) 46 #[.bool false, .slice none 0 0] rfl) (big_alloc hb6); have hu6X := hu36.trans (below_setRow (Up.alloc w6 (.cells #[.bool false, .slice none 0 0] 46)) (Nat.le_refl _) #[.bool bb, .slice ba bn bc]))
            | (go_at_call 68; (with_reducible refine (HF9.out _ _ hbg6).mono ?_); rintro r w7 ⟨rfl, hu7⟩; replace hQ := (hQ.up hu6X).up hu7; replace hB := (hB.up hu6X).up hu7; replace hO := (hO.up hu6X).up hu7; replace hbg6 := hbg6.up hu7; replace hBg := hBg.up hu7; replace hU := (hU.trans hu6X).trans hu7))
          have hq0 := hB.cell 0 rfl
          have hq1 := hB.cell 1 rfl
          obtain ⟨b7, hb7⟩ : ∃ b, w6.heap.size = b := ⟨_, rfl⟩
          rw [hb7] at hBg
          rw [hb7]
          clear hb7 hu36 hu6X hu3 hu4 hu5 hu6 hb4 hb5 hb6 hc0
          refine wp_region_upS (S := (fun wq => Blk wq w.heap.size 24 #[.int .i64 (n : Int), .slice (some ⟨g, 0, none⟩) l.length cA] ∧ wq.cell? ⟨w.heap.size, 0, none⟩ = some (.int .i64 (n : Int)) ∧ wq.cell? ⟨w.heap.size, 1, none⟩ = some (.slice (some ⟨g, 0, none⟩) l.length cA) ∧ Blk wq b7 46 #[.bool bb, .slice ba bn bc] ∧ Big wq (.agg #[.bool bb, .slice ba bn bc]) z9 ∧ OwnI wq base (.slice (some ⟨g, 0, none⟩) l.length cA) M ∧ Blk wq (w.heap.size + 1) 24 #[.int .i64 0, .slice none 0 0] ∧ Below w.heap.size w wq)) (req := (fun j => j != 13)) (by kernel_rfl) (fun _ _ h hu => ⟨(h.1).up hu, hu.cell (h.2.1), hu.cell (h.2.2.1), (h.2.2.2.1).up hu, (h.2.2.2.2.1).up hu, (h.2.2.2.2.2.1).up hu, (h.2.2.2.2.2.2.1).up hu, below_up (h.2.2.2.2.2.2.2) hu⟩) ⟨gBlk, (by first | assumption | (apply Blk.cell; exact gBlk; exact rfl)), (by first | assumption | (apply Blk.cell; exact gBlk; exact rfl)), gBlk, (by (repeat (first | assumption | ((with_reducible apply big_set); exact gBlk) | (with_reducible apply big_alloc) | ((with_reducible apply big_up); assumption))); done), (by assumption), gBlk, gUp⟩ (fun wS hSS => ?_)
          have ⟨hS1, hS2, hS3, hS4, hS5, hS6, hS7, hSB⟩ := hSS
          refine wpAnyU_pure (i := 0) (d := (some 33)) (v := ?_) rfl rfl (by kernel_rfl) (fun _ _ _ h => h) (fun _ _ h hu => ⟨(h.1).up hu, hu.cell (h.2.1), hu.cell (h.2.2.1), (h.2.2.2.1).up hu, (h.2.2.2.2.1).up hu, (h.2.2.2.2.2.1).up hu, (h.2.2.2.2.2.2.1).up hu, below_up (h.2.2.2.2.2.2.2) hu⟩) (Or.inl ⟨by rfl, fun w' _ => yu_value ?_⟩) ?_
          rotate_left
          · (go_simp; (try exact rfl))
          try simp only [Act.put, pu1, pu2, pu3]
          refine wpAnyU_take (i := 1) (d := (some 34)) (v := ?_) rfl rfl (by kernel_rfl) (fun _ _ _ h => h) (fun _ _ h hu => ⟨(h.1).up hu, hu.cell (h.2.1), hu.cell (h.2.2.1), (h.2.2.2.1).up hu, (h.2.2.2.2.1).up hu, (h.2.2.2.2.2.1).up hu, (h.2.2.2.2.2.2.1).up hu, below_up (h.2.2.2.2.2.2.2) hu⟩) hSS (Or.inl ⟨by rfl, fun w' hSw => yu_value ?_⟩) ?_
          rotate_left
          · ((try dsimp only at hSw); (try obtain ⟨_, _, _, _, _, _, _, _⟩ := hSw); go_simp; (try exact rfl))
          try simp only [Act.put, pu1, pu2, pu3]
          refine wpAnyU_pure (i := 2) (d := (some 35)) (v := ?_) rfl rfl (by kernel_rfl) (fun _ _ _ h => h) (fun _ _ h hu => ⟨(h.1).up hu, hu.cell (h.2.1), hu.cell (h.2.2.1), (h.2.2.2.1).up hu, (h.2.2.2.2.1).up hu, (h.2.2.2.2.2.1).up hu, (h.2.2.2.2.2.2.1).up hu, below_up (h.2.2.2.2.2.2.2) hu⟩) (Or.inl ⟨by rfl, fun w' _ => yu_value ?_⟩) ?_
          rotate_left
          · (go_simp; (try exact rfl))
          try simp only [Act.put, pu1, pu2, pu3]
          refine wpAnyU_take (i := 3) (d := (some 36)) (v := ?_) rfl rfl (by kernel_rfl) (fun _ _ _ h => h) (fun _ _ h hu => ⟨(h.1).up hu, hu.cell (h.2.1), hu.cell (h.2.2.1), (h.2.2.2.1).up hu, (h.2.2.2.2.1).up hu, (h.2.2.2.2.2.1).up hu, (h.2.2.2.2.2.2.1).up hu, below_up (h.2.2.2.2.2.2.2) hu⟩) hSS (Or.inl ⟨by rfl, fun w' hSw => yu_value ?_⟩) ?_
          rotate_left
          · ((try dsimp only at hSw); (try obtain ⟨_, _, _, _, _, _, _, _⟩ := hSw); go_simp; (try exact rfl))
          try simp only [Act.put, pu1, pu2, pu3]
          refine wpAnyU_pure (i := 4) (d := (some 37)) (v := ?_) rfl rfl (by kernel_rfl) (fun _ _ _ h => h) (fun _ _ h hu => ⟨(h.1).up hu, hu.cell (h.2.1), hu.cell (h.2.2.1), (h.2.2.2.1).up hu, (h.2.2.2.2.1).up hu, (h.2.2.2.2.2.1).up hu, (h.2.2.2.2.2.2.1).up hu, below_up (h.2.2.2.2.2.2.2) hu⟩) (Or.inl ⟨by rfl, fun w' _ => yu_value ?_⟩) ?_
          rotate_left
          · (go_simp; (try exact rfl))
          try simp only [Act.put, pu1, pu2, pu3]
          refine wpAnyU_pure (i := 5) (d := (some 38)) (v := ?_) rfl rfl (by kernel_rfl) (fun _ _ _ h => h) (fun _ _ h hu => ⟨(h.1).up hu, hu.cell (h.2.1), hu.cell (h.2.2.1), (h.2.2.2.1).up hu, (h.2.2.2.2.1).up hu, (h.2.2.2.2.2.1).up hu, (h.2.2.2.2.2.2.1).up hu, below_up (h.2.2.2.2.2.2.2) hu⟩) (Or.inl ⟨by rfl, fun w' _ => yu_value ?_⟩) ?_
          rotate_left
          · (go_simp; (try exact rfl))
          try simp only [Act.put, pu1, pu2, pu3]
          refine wpAnyU_take (i := 6) (d := (some 39)) (v := _) rfl rfl (by kernel_rfl) (fun _ _ _ h => h) (fun _ _ h hu => ⟨(h.1).up hu, hu.cell (h.2.1), hu.cell (h.2.2.1), (h.2.2.2.1).up hu, (h.2.2.2.2.1).up hu, (h.2.2.2.2.2.1).up hu, (h.2.2.2.2.2.2.1).up hu, below_up (h.2.2.2.2.2.2.2) hu⟩) hSS (Or.inl ⟨by rfl, fun w' hSw => yu_call ?_ ((HX.out _).mono fun _ _ h => ⟨h.1, by rw [h.2]; exact Up.refl _⟩)⟩) ?_
          · go_simp
          try simp only [Act.put, pu1, pu2, pu3]
          refine wpAnyU_take (i := 7) (d := (some 40)) (v := _) rfl rfl (by kernel_rfl) (fun _ _ _ h => h) (fun _ _ h hu => ⟨(h.1).up hu, hu.cell (h.2.1), hu.cell (h.2.2.1), (h.2.2.2.1).up hu, (h.2.2.2.2.1).up hu, (h.2.2.2.2.2.1).up hu, (h.2.2.2.2.2.2.1).up hu, below_up (h.2.2.2.2.2.2.2) hu⟩) hSS (Or.inl ⟨by rfl, fun w' hSw => yu_value (run_ldB rfl rfl hSw.2.2.2.1 rfl)⟩) ?_
          try simp only [Act.put, pu1, pu2, pu3]
          refine wpAnyU_take (i := 8) (d := (some 41)) (v := _) rfl rfl (by kernel_rfl) (fun _ _ _ h => h) (fun _ _ h hu => ⟨(h.1).up hu, hu.cell (h.2.1), hu.cell (h.2.2.1), (h.2.2.2.1).up hu, (h.2.2.2.2.1).up hu, (h.2.2.2.2.2.1).up hu, (h.2.2.2.2.2.2.1).up hu, below_up (h.2.2.2.2.2.2.2) hu⟩) hSS (Or.inl ⟨by rfl, fun w' hSw => yu_call ?_ (HIn.out _ _ hSw.2.2.2.2.1)⟩) ?_
          · go_simp
          try simp only [Act.put, pu1, pu2, pu3]
          refine wpAnyU_pure (i := 9) (d := (some 32)) (v := ?_) rfl rfl (by kernel_rfl) (fun _ _ _ h => h) (fun _ _ h hu => ⟨(h.1).up hu, hu.cell (h.2.1), hu.cell (h.2.2.1), (h.2.2.2.1).up hu, (h.2.2.2.2.1).up hu, (h.2.2.2.2.2.1).up hu, (h.2.2.2.2.2.2.1).up hu, below_up (h.2.2.2.2.2.2.2) hu⟩) (Or.inl ⟨by rfl, fun w' _ => yu_value ?_⟩) ?_
          rotate_left
          · (go_simp; (try exact rfl))
          try simp only [Act.put, pu1, pu2, pu3]
          refine wpAnyU_pure (i := 10) (d := (some 42)) (v := ?_) rfl rfl (by kernel_rfl) (fun _ _ _ h => h) (fun _ _ h hu => ⟨(h.1).up hu, hu.cell (h.2.1), hu.cell (h.2.2.1), (h.2.2.2.1).up hu, (h.2.2.2.2.1).up hu, (h.2.2.2.2.2.1).up hu, (h.2.2.2.2.2.2.1).up hu, below_up (h.2.2.2.2.2.2.2) hu⟩) (Or.inl ⟨by rfl, fun w' _ => yu_value ?_⟩) ?_
          rotate_left
          · (go_simp; (try exact rfl))
          try simp only [Act.put, pu1, pu2, pu3]
          refine wpAnyU_pure (i := 11) (d := (some 43)) (v := ?_) rfl rfl (by kernel_rfl) (fun _ _ _ h => h) (fun _ _ h hu => ⟨(h.1).up hu, hu.cell (h.2.1), hu.cell (h.2.2.1), (h.2.2.2.1).up hu, (h.2.2.2.2.1).up hu, (h.2.2.2.2.2.1).up hu, (h.2.2.2.2.2.2.1).up hu, below_up (h.2.2.2.2.2.2.2) hu⟩) (Or.inl ⟨by rfl, fun w' _ => yu_value ?_⟩) ?_
          rotate_left
          · (go_simp; (try exact rfl))
          try simp only [Act.put, pu1, pu2, pu3]
          refine wpAnyU_pure (i := 12) (d := (some 44)) (v := ?_) rfl rfl (by kernel_rfl) (fun _ _ _ h => h) (fun _ _ h hu => ⟨(h.1).up hu, hu.cell (h.2.1), hu.cell (h.2.2.1), (h.2.2.2.1).up hu, (h.2.2.2.2.1).up hu, (h.2.2.2.2.2.1).up hu, (h.2.2.2.2.2.2.1).up hu, below_up (h.2.2.2.2.2.2.2) hu⟩) (Or.inl ⟨by rfl, fun w' _ => yu_value ?_⟩) ?_
          rotate_left
          · (go_simp; (try exact rfl))
          try simp only [Act.put, pu1, pu2, pu3]
          refine wpAnyU_one (i := 13) rfl (by kernel_rfl) (by rfl) fun wZ hwZ => ?_
          obtain ⟨hcW, hfW⟩ := (hS6.up hwZ).cells hkM
          go_simp
          clear hcW hfW
          refine wpAnyU_done (by kernel_rfl) (fun wF huE => ?_) _
          have hne1 : w.heap.size ≠ g := by omega
          have hne2 : w.heap.size + 1 ≠ g := by omega
          have hO5 := ((hS6.up hwZ).set hkM z9).up huE
          rw [HS9.out, mixed_same HlL.out HPS.out.1 HPS.out.2 (fun q h1 h2 => Hro.out q h1 h2)] at hO5
          have hB5 := ((hS1.up hwZ).other ⟨g, k, none⟩ (.int .i64 z9) hne1).up huE
          have hQ5 := ((hS7.up hwZ).other ⟨g, k, none⟩ (.int .i64 z9) hne2).up huE
          have hU5 := below_up ((below_up hSB hwZ).setCell (p := ⟨g, k, none⟩) (show w.heap.size ≤ g by omega) (.int .i64 z9)) huE
          have HFF : Hid (∀ q, q < pos n (i + 1) (i + 1) → fit (zth L' q) = true) := hid (fun q hq => by
            rcases Nat.lt_trichotomy q k with h1 | h1 | h1
            · exact HFit.out q h1
            · rw [h1, HZ9.out]; exact Hf.out
            · rw [Hro.out q h1 hq]; exact Hfl.out q (by have := HPS.out.2; omega))
          clear hq0 hq1 hwZ
          go_wp2_with fail
          go_roundg (n - (i + 1))
          case measure => omega
          case rel => exact ⟨i + 1, by omega, Nat.le_refl _, rfl, hO5, HFF.out, hB5, hQ5, hU5⟩
      · obtain rfl : i = n := by omega
        rw [pos_end, ← HLn.out, ← HlL.out] at hO hfits
        rw [mixed_all HlL.out] at hO
        have HI := hid (In64.of_fit hfits)
        have HG := hid (Hgood.out hfits)
        clear hfits hlt
        go_wp2_with (first
          | ((with_reducible apply ldM_P); exact rfl; exact rfl; exact hB; exact rfl)
          | ((with_reducible apply stM_P); exact rfl; exact rfl; exact hQ; exact rfl; exact rfl; exact two2 _ _ _ _ _))
        rw [HG.out]
        exact bodyPost_ret (resMs (u := .int .i64 0) rfl rfl rfl (hQ.setRow _) rfl) rfl (RSymPost.ok hU (by omega) hQ hO HN64.out HI.out (by rw [HlL.out]; exact hlen))
theorem blk_ne {w : World} {b b' : Nat} {t t' : TypeId} {C C' : Array Value} (h : Blk w b t C) (h' : Blk w b' t' C') (hne : t ≠ t') : b ≠ b' := by
  rintro rfl
  unfold Blk at h h'
  rw [h] at h'
  injection h' with h'
  injection h' with _ ht
  exact hne ht
theorem OwnI.setRowB {w : World} {base g : Nat} {v : Value} {l : List Int} {C D : Array Value} (h : OwnI w base v l) (hg : Blk w g 46 C) : OwnI (w.setRow g D) base v l := by
  refine ⟨h.1, ?_⟩
  rcases h.2 with h2 | ⟨b, cap, cur, h1, h2, h3, h4⟩
  · exact .inl h2
  · exact .inr ⟨b, cap, cur, h1, h2, Blk.row_other (t := 2) h3 D (blk_ne (t := 2) h3 hg (by decide)), h4⟩
theorem run_ldME {ev : Operand → Value} {w : World} {g : Nat} {C : Array Value} {o : Oper} {x : Operand} (ho : o.op = .load 24 x) (hx : ev x = .pointer (some ⟨g, 0, none⟩)) (hC : Blk w g 24 C) (h2 : C.size = 2) : (execOp ev o).run Tryz.prog w = .ok (.value (.agg C)) w := by
  obtain ⟨fs, hu⟩ := undM
  unfold execOp
  simp only [ho, hx, Instr.loadAt, Instr.sureAddr, Sem.run_bind, Sem.run_pure, Result.andThen_ok, run_loadVar_row w g _ 24 C (0, 0) _ hC hu rfl (by rw [infoM, h2])]
set_option maxHeartbeats 16000000 in
theorem router_any {v hv : Value} {N : Int} {l h : List Int} (x : Int) {w : World} (hm : Sm w v N l) (hh : Vw w hv h) (hx : I64 x) (hI : In64 h) (hh3 : h.length ≤ 1000) :
    Calls Tryz.prog 40 #[v, .int .i64 x, hv] w (RSymPost w (ouN N l x h) (ouR N l x h) (ouC N l x h)) := by
  have HR := hid (fun w' (hu : Up w w') => rright_any (hm.up hu))
  have HCP := hid (fun w' (hu : Up w w') => copy_any (hm.up hu))
  obtain ⟨s, rfl, hV, hN, hl, hlen⟩ := hm
  obtain ⟨p, cap, rfl, hcap, hc⟩ := hV
  have HH := hid hh
  obtain ⟨q, cq, rfl, _⟩ := hh
  obtain ⟨W0, hW0⟩ : ∃ W0, (w.alloc (.cells #[.int .i64 N, .slice p l.length cap] 24)).alloc (.cells #[.int .i64 0, .slice none 0 0] 24) = W0 := ⟨_, rfl⟩
  have hB : Blk W0 w.heap.size 24 #[.int .i64 N, .slice p l.length cap] := by rw [← hW0]; exact (Blk.new _ _ rfl).old _
  have hQ : Blk W0 (w.heap.size + 1) 24 #[.int .i64 0, .slice none 0 0] := by rw [← hW0]; exact Blk.new _ _ (by simp)
  have hU : Up w W0 := by rw [← hW0]; exact (Up.alloc _ _).trans (Up.alloc _ _)
  cases hR : rt N l with
  | false =>
    have e : ouC N l x h = 23 := by unfold ouC; rw [hR]; rfl
    have e2 : ouR N l x h = [] := by unfold ouR; rw [e]; rfl
    have e3 : ouN N l x h = 0 := by unfold ouN; rw [e]; rfl
    rw [e, e2, e3]
    rw [hR] at HR
    clear e e2 e3 hR hc hl hN hI
    go_enter Tryz.func40, Tryz.ntmps40
    go_wp2_with (first
      | ((with_reducible apply ldM_P); exact rfl; exact rfl; exact hB; exact rfl)
      | (go_at_call 12; (with_reducible refine (HR.out _ hU).mono ?_); rintro r w1 ⟨rfl, hu1⟩; replace hQ := hQ.up hu1)
      | ((with_reducible apply stM_P); exact rfl; exact rfl; exact hQ; exact rfl; exact rfl; exact two2 _ _ _ _ _))
    exact bodyPost_ret (resMs (u := .int .i64 23) rfl rfl rfl (hQ.setRow _) rfl) rfl (RSymPost.err 23 (hU.trans hu1) (by omega))
  | true =>
    rw [hR] at HR
    by_cases hn0 : (h.length : Int) = N
    · obtain ⟨n, rfl⟩ : ∃ n : Nat, N = (n : Int) := ⟨h.length, hn0.symm⟩
      obtain ⟨_, n8, htri, _⟩ := rt_spec hR
      rw [tri_nat] at htri
      have n8' : n ≤ 8 := by omega
      have hln : l.length = triN n := by omega
      have hhn : h.length = n := by omega
      have d3 : ((h.length : Int) != (n : Int)) = false := by rw [hn0]; simp
      have eN : ((n : Int)).toNat = n := by omega
      have HLn := hid hln
      have HhL := hid hhn
      have HI64 := hid hI
      have Hl64 := hid hl
      have hx64 := hid hx
      have HO := hid (fun v (hv : I64 v) w => of_big v hv.1 hv.2 w)
      obtain ⟨L', hL'⟩ : ∃ L', ouL n l x h = L' := ⟨_, rfl⟩
      have HlL : Hid (L'.length = l.length) := hid (by rw [← hL', ouL_len])
      have Hat : Hid (∀ i j, i ≤ j → j < n → zth L' (pos n i j) = zth l (pos n i j) + x * zth h i * zth h j) := hid (fun i j hij hj => by rw [← hL']; exact ouL_at x h n8' hln hij hj)
      obtain ⟨hc9, hd9⟩ : (∀ k, k < L'.length → fit (zth L' k) = false → RSymPost w (ouN n l x h) (ouR n l x h) (ouC n l x h) = RSymPost w 0 [] 21) ∧
          ((∀ k, k < L'.length → fit (zth L' k) = true) → RSymPost w (ouN n l x h) (ouR n l x h) (ouC n l x h) = RSymPost w n L' 0) := by
        refine ⟨fun k hk hf => ?_, fun hf => ?_⟩
        · have e : ouC n l x h = 21 := by unfold ouC; rw [hR, decide_eq_true hn0, eN, hL', all_no hk hf]; rfl
          unfold ouN ouR; rw [e]; rfl
        · have e : ouC n l x h = 0 := by unfold ouC; rw [hR, decide_eq_true hn0, eN, hL', all_yes hf]; rfl
          unfold ouN ouR; rw [e, if_pos rfl, if_pos rfl, eN, hL']
      have Hbad := hid hc9
      have Hgood := hid hd9
      obtain ⟨PP, hPP⟩ : ∃ PP, RSymPost w (ouN n l x h) (ouR n l x h) (ouC n l x h) = PP := ⟨_, rfl⟩
      rw [hPP] at Hbad Hgood ⊢
      have HN64 := hid hN
      clear hPP hc9 hd9 hL' hc hl hI hx hR hn0 htri hln hhn hN eN hcap
      go_enter Tryz.func40, Tryz.ntmps40
      go_wp2_with (first
        | ((with_reducible apply ldM_P); exact rfl; exact rfl; exact hB; exact rfl)
        | (go_at_call 12; (with_reducible refine (HR.out _ hU).mono ?_); rintro r w1 ⟨rfl, hu1⟩; replace hQ := hQ.up hu1; replace hB := hB.up hu1; replace hU := hU.trans hu1; have hc0 := hB.cell 0 rfl)
        | (go_at_call 9; (with_reducible refine (HCP.out _ hU).mono ?_); rintro r w2 ⟨sA, rfl, hu2, hO⟩; have hlt := hB.lt; have hlt2 := hQ.lt; replace hQ := hQ.up hu2; replace hB := hB.up hu2; replace hU := hU.trans hu2; obtain ⟨pA, nA, cA, rfl⟩ := OwnI.slice hO; have hO2 := OwnI.setRow (D := #[.int .i64 (n : Int), .slice pA nA cA]) hO hB; have hB2 := hB.setRow #[.int .i64 (n : Int), .slice pA nA cA]; have hQ2 := Blk.row_other hQ #[.int .i64 (n : Int), .slice pA nA cA] (show w.heap.size + 1 ≠ w.heap.size by omega); have hU2 := below_setRow hU (Nat.le_refl _) #[.int .i64 (n : Int), .slice pA nA cA])
        | ((with_reducible apply stM_P); exact rfl; exact rfl; exact hB; exact rfl; exact rfl; exact two2 _ _ _ _ _))
      obtain ⟨base, hbase⟩ : ∃ b, w1.heap.size = b := ⟨_, rfl⟩
      have hbs : w.heap.size + 1 < base := by omega
      rw [hbase] at hO2
      clear hbase hlt hlt2 hu1 hu2 hO hB hQ hU hc0 hW0
      go_loopg [8] n (fun g ti wr => ∃ i : Nat, i ≤ n ∧ n - i ≤ g ∧ ti = .int .i64 (i : Nat) ∧ RInv w base w.heap.size (w.heap.size + 1) n (.slice pA nA cA) L' l (pos n i i) wr)
      case atStart => exact ⟨0, Nat.zero_le _, by omega, rfl, by rw [pos_zero, mixed_zero]; exact hO2, fun q hq => by rw [pos_zero] at hq; omega, hB2, hQ2, hU2⟩
      case round =>
        clear hB2 hQ2 hU2 hO2
        obtain ⟨i, hi, hig, rfl, hO, hfits, hB, hQ, hU⟩ := hrel
        have hc0 := hB.cell 0 rfl
        by_cases hlt : i < n
        · have e1 : IntKind.i64.wrap ((i : Int) + 1) = (i : Int) + 1 := IntWalk.i64_in _ (by omega)
          go_wp2_with fail
          go_loopg [9] n (fun g tj wj => ∃ j : Nat, i ≤ j ∧ j ≤ n ∧ n - j ≤ g ∧ tj = .int .i64 (j : Nat) ∧ RInv w base w.heap.size (w.heap.size + 1) n (.slice pA nA cA) L' l (pos n i j) wj)
          case atStart => exact ⟨i, Nat.le_refl _, hi, by omega, rfl, hO, hfits, hB, hQ, hU⟩
          case round =>
            clear hO hfits hB hQ hU hc0
            obtain ⟨j, hij, hj, hjg, rfl, hO, hfits, hB, hQ, hU⟩ := hrel
            have hc0 := hB.cell 0 rfl
            by_cases hjlt : j < n
            · have hkl : pos n i j < l.length := by rw [HLn.out]; exact pos_lt hij hjlt
              have hM64 := In64.mixed HlL.out Hl64.out hfits
              have HSm := hid (hO.sm HN64.out hM64 (by rw [mixed_len HlL.out]; exact hlen))
              have HAt := hid (fun w' (hu : Up wr w') => rat_ent2 (HSm.out.up hu) n8' (by rw [mixed_len HlL.out]; exact HLn.out) hij hjlt)
              have hat := Hat.out i j hij hjlt
              have HX := hid (fun w => (pos_idx hij hjlt) ▸ rat_any (n : Int) (i : Int) (j : Int) (by omega) (by omega) (by omega) (by omega) (by omega) w)
              have HFit := hid hfits
              obtain ⟨k, hk⟩ : ∃ k, pos n i j = k := ⟨_, rfl⟩
              have HK := hid hk
              rw [hk] at hkl HAt hat hO HX HFit
              obtain ⟨g, cp, C, hv, hbg, -⟩ := hO.open (by rw [mixed_len HlL.out]; omega)
              injection hv with x1 x2 x3
              rw [mixed_len HlL.out] at x2
              subst x1 x2 x3
              have hihl : i < h.length := by rw [HhL.out]; exact hlt
              have hjhl : j < h.length := by rw [HhL.out]; exact hjlt
              obtain ⟨q', cq', xq, _, hcq⟩ := HH.out
              injection xq with y1 y2 y3
              subst y1 y3
              obtain ⟨ad, rfl, _⟩ := hcq i hihl
              have HAd := hid (fun w' (hu : Up w w') (i : Nat) (hi : i < h.length) => (show w'.cell? (ad.add i) = some (.int .i64 (zth h i)) from by obtain ⟨a2, z1, z2⟩ := hcq i hi; injection z1 with z1; subst z1; exact hu.cellEq z2))
              have hmx : zth (mixed L' l k) k = zth l k := mixed_at HlL.out hkl
              rw [hmx] at HAt
              have hak := Hl64.out k hkl
              have hzi := HI64.out i hihl
              have hzj := HI64.out j hjhl
              have b0 := i64_bp hak
              have b1 := i64_bp hx64.out
              have b2 := i64_bp hzi
              have b3 := i64_bp hzj
              have b4 : (zth h i * zth h j).natAbs < bp 2 := by rw [Int.natAbs_mul, bp_add 1 1]; exact Nat.mul_lt_mul'' b2 b3
              have b5 : (x * (zth h i * zth h j)).natAbs < bp 3 := by rw [Int.natAbs_mul, bp_add 1 2]; exact Nat.mul_lt_mul'' b1 b4
              have hat' : zth L' k = zth l k + x * (zth h i * zth h j) := by rw [hat, Int.mul_assoc]
              have b6 : (zth L' k).natAbs < bp 4 := by
                rw [hat']
                have c1 : bp 4 = bp 3 * 18446744073709551616 := bp_succ 3
                have c2 : bp 1 ≤ bp 3 := bp_mono (by omega)
                omega
              have n0 := nl_bp (by omega) b0
              have n1 := nl_bp (by omega) b1
              have n2 := nl_bp (by omega) b2
              have n3 := nl_bp (by omega) b3
              have n4 := nl_bp (by omega) b4
              have n5 := nl_bp (by omega) b5
              have HN3 := hid (nl_bp (by omega) b6)
              have HOk := hid (HO.out (zth l k) hak)
              have HOx := hid (HO.out x hx64.out)
              have HOi := hid (HO.out (zth h i) hzi)
              have HOj := hid (HO.out (zth h j) hzj)
              have HM1 := hid (fun (va vb : Value) (w : World) (ha : Big w va (zth h i)) (hb : Big w vb (zth h j)) => mul_big ha hb n2 n3)
              have HM2 := hid (fun (va vb : Value) (w : World) (ha : Big w va x) (hb : Big w vb (zth h i * zth h j)) => mul_big ha hb n1 n4)
              have HAD := hid (fun (va vb : Value) (w : World) (ha : Big w va (zth l k)) (hb : Big w vb (x * (zth h i * zth h j))) => hat' ▸ add_big ha hb n0 n5)
              have HS9 := hid (mixed_set HlL.out hkl)
              have HML := hid (mixed_len HlL.out k)
              clear hat hat' n0 n1 n2 n3 n4 n5 b0 b1 b2 b3 b4 b5 b6 hak hzi hzj hk hM64 hfits hcq y2 hmx HSm
              obtain ⟨z9, hz9'⟩ : ∃ z, zth L' k = z := ⟨_, rfl⟩
              have HZ9 := hid hz9'
              rw [hz9'] at HS9 HN3 HAD
              clear hz9'
              obtain ⟨p2, hp2⟩ : ∃ z, x * (zth h i * zth h j) = z := ⟨_, rfl⟩
              rw [hp2] at HM2 HAD
              clear hp2
              obtain ⟨p1, hp1⟩ : ∃ z, zth h i * zth h j = z := ⟨_, rfl⟩
              rw [hp1] at HM1 HM2
              clear hp1
              obtain ⟨zi, hzi9⟩ : ∃ z, zth h i = z := ⟨_, rfl⟩
              obtain ⟨zj, hzj9⟩ : ∃ z, zth h j = z := ⟨_, rfl⟩
              have HZi := hid hzi9
              have HZj := hid hzj9
              rw [hzi9, hzj9] at HM1
              rw [hzi9] at HOi
              rw [hzj9] at HOj
              clear hzi9 hzj9
              generalize zth l k = ak at *
              obtain ⟨M, hM9⟩ : ∃ M, mixed L' l k = M := ⟨_, rfl⟩
              rw [hM9] at hO HS9 HML
              clear hM9
              have hkM : k < M.length := by rw [HML.out]; exact hkl
              have hVh := Vw.up hU HH.out
              go_wp2_with fail
              refine wp_region_sp (n := 75) 21 [37, 38, 39, 40, 41, 42, 43, 44, 45, 46, 47, 48, 49, 50, 51, 52, 53, 54, 55, 56, 10] [SP.is (.agg #[.int .i64 (n : Int), .slice (some ⟨g, 0, none⟩) l.length cA]), SP.is (.int .i64 (i : Nat)), SP.is (.int .i64 (j : Nat)), SP.is (.int .i64 ak), SP.of (fun v w1 => Big w1 v ak) (fun _ _ _ h hu => h.up hu), SP.is (.int .i64 x), SP.of (fun v w1 => Big w1 v x) (fun _ _ _ h hu => h.up hu), SP.is (.slice (some ad) h.length cq), SP.is (.int .i64 (i : Nat)), SP.is (.pointer (some (ad.add i))), SP.is (.int .i64 zi), SP.of (fun v w1 => Big w1 v zi) (fun _ _ _ h hu => h.up hu), SP.is (.slice (some ad) h.length cq), SP.is (.int .i64 (j : Nat)), SP.is (.pointer (some (ad.add j))), SP.is (.int .i64 zj), SP.of (fun v w1 => Big w1 v zj) (fun _ _ _ h hu => h.up hu), SP.of (fun v w1 => Big w1 v p1) (fun _ _ _ h hu => h.up hu), SP.of (fun v w1 => Big w1 v p2) (fun _ _ _ h hu => h.up hu), SP.of (fun v w1 => Big w1 v z9) (fun _ _ _ h hu => h.up hu), SP.of (fun v w1 => ∃ b, v = .pointer (some ⟨b, 0, none⟩) ∧ w.heap.size ≤ b ∧ Blk w1 b 46 #[.bool false, .slice none 0 0]) (fun _ _ _ h hu => h.imp fun _ k => ⟨k.1, k.2.1, k.2.2.up hu⟩), SP.any] (fun wq => Blk wq w.heap.size 24 #[.int .i64 (n : Int), .slice (some ⟨g, 0, none⟩) l.length cA] ∧ Up wr wq ∧ Below w.heap.size w wq) (by kernel_rfl) (by rfl) (by kernel_rfl) (by kernel_rfl) (fun _ _ h hu => ⟨(h.1).up hu, (h.2.1).trans hu, below_up (h.2.2) hu⟩) ⟨(by first | assumption | exact gBlk), (by first | exact Up.refl _ | assumption), gUp⟩ (fun ev w9 hS9 i o hne hi hev => ?_) (fun gR wE hq hSE huE => ?_)
              · have ⟨hS1, hS2, hSB⟩ := hS9
                have hcC := hev.const
                have hcF := hev.func
                have hcG := hev.global
                rcases i with _ | _ | _ | _ | _ | _ | _ | _ | _ | _ | _ | _ | _ | _ | _ | _ | _ | _ | _ | _ | _ | _ | i
                · obtain rfl := Option.some.inj (show some _ = some o from hi)
                  have e3 := hev.other 3 (by kernel_rfl)
                  simp [Act.eval] at e3
                  exact leavesR_value (run_ldME rfl e3 hS1 rfl) rfl
                · obtain rfl := Option.some.inj (show some _ = some o from hi)
                  have e8 := hev.other 8 (by kernel_rfl)
                  simp [Act.eval] at e8
                  exact leavesR_value (u := .int .i64 (i : Nat)) (by first | (go_simp; done) | (go_simp; exact rfl)) rfl
                · obtain rfl := Option.some.inj (show some _ = some o from hi)
                  have e9 := hev.other 9 (by kernel_rfl)
                  simp [Act.eval] at e9
                  exact leavesR_value (u := .int .i64 (j : Nat)) (by first | (go_simp; done) | (go_simp; exact rfl)) rfl
                · obtain rfl := Option.some.inj (show some _ = some o from hi)
                  have e37 : ev (.tmp 37) = (.agg #[.int .i64 (n : Int), .slice (some ⟨g, 0, none⟩) l.length cA]) := hev.dep 0 37 (by kernel_rfl)
                  have e38 : ev (.tmp 38) = (.int .i64 (i : Nat)) := hev.dep 1 38 (by kernel_rfl)
                  have e39 : ev (.tmp 39) = (.int .i64 (j : Nat)) := hev.dep 2 39 (by kernel_rfl)
                  refine leavesR_call ?_ ((HAt.out _ hS2).mono fun _ _ h => ⟨h.2, _, h.1, rfl⟩)
                  go_simp
                · obtain rfl := Option.some.inj (show some _ = some o from hi)
                  have e40 : ev (.tmp 40) = (.int .i64 ak) := hev.dep 3 40 (by kernel_rfl)
                  refine leavesR_call ?_ (HOk.out _)
                  go_simp
                · obtain rfl := Option.some.inj (show some _ = some o from hi)
                  have e1 := hev.other 1 (by kernel_rfl)
                  simp [Act.eval] at e1
                  exact leavesR_value (u := .int .i64 x) (by first | (go_simp; done) | (go_simp; exact rfl)) rfl
                · obtain rfl := Option.some.inj (show some _ = some o from hi)
                  have e42 : ev (.tmp 42) = (.int .i64 x) := hev.dep 5 42 (by kernel_rfl)
                  refine leavesR_call ?_ (HOx.out _)
                  go_simp
                · obtain rfl := Option.some.inj (show some _ = some o from hi)
                  have e2 := hev.other 2 (by kernel_rfl)
                  simp [Act.eval] at e2
                  exact leavesR_value (u := .slice (some ad) h.length cq) (by first | (go_simp; done) | (go_simp; exact rfl)) rfl
                · obtain rfl := Option.some.inj (show some _ = some o from hi)
                  have e8 := hev.other 8 (by kernel_rfl)
                  simp [Act.eval] at e8
                  exact leavesR_value (u := .int .i64 (i : Nat)) (by first | (go_simp; done) | (go_simp; exact rfl)) rfl
                · obtain rfl := Option.some.inj (show some _ = some o from hi)
                  have e44 : ev (.tmp 44) = (.slice (some ad) h.length cq) := hev.dep 7 44 (by kernel_rfl)
                  have e45 : ev (.tmp 45) = (.int .i64 (i : Nat)) := hev.dep 8 45 (by kernel_rfl)
                  exact leavesR_value (u := .pointer (some (ad.add i))) (by first | (go_simp; done) | (go_simp; exact rfl)) rfl
                · obtain rfl := Option.some.inj (show some _ = some o from hi)
                  have e46 : ev (.tmp 46) = (.pointer (some (ad.add i))) := hev.dep 9 46 (by kernel_rfl)
                  have hcx := HAd.out w9 hSB i hihl; rw [HZi.out] at hcx; exact leavesR_value (u := .int .i64 zi) (by go_simp) rfl
                · obtain rfl := Option.some.inj (show some _ = some o from hi)
                  have e47 : ev (.tmp 47) = (.int .i64 zi) := hev.dep 10 47 (by kernel_rfl)
                  refine leavesR_call ?_ (HOi.out _)
                  go_simp
                · obtain rfl := Option.some.inj (show some _ = some o from hi)
                  have e2 := hev.other 2 (by kernel_rfl)
                  simp [Act.eval] at e2
                  exact leavesR_value (u := .slice (some ad) h.length cq) (by first | (go_simp; done) | (go_simp; exact rfl)) rfl
                · obtain rfl := Option.some.inj (show some _ = some o from hi)
                  have e9 := hev.other 9 (by kernel_rfl)
                  simp [Act.eval] at e9
                  exact leavesR_value (u := .int .i64 (j : Nat)) (by first | (go_simp; done) | (go_simp; exact rfl)) rfl
                · obtain rfl := Option.some.inj (show some _ = some o from hi)
                  have e49 : ev (.tmp 49) = (.slice (some ad) h.length cq) := hev.dep 12 49 (by kernel_rfl)
                  have e50 : ev (.tmp 50) = (.int .i64 (j : Nat)) := hev.dep 13 50 (by kernel_rfl)
                  exact leavesR_value (u := .pointer (some (ad.add j))) (by first | (go_simp; done) | (go_simp; exact rfl)) rfl
                · obtain rfl := Option.some.inj (show some _ = some o from hi)
                  have e51 : ev (.tmp 51) = (.pointer (some (ad.add j))) := hev.dep 14 51 (by kernel_rfl)
                  have hcx := HAd.out w9 hSB j hjhl; rw [HZj.out] at hcx; exact leavesR_value (u := .int .i64 zj) (by go_simp) rfl
                · obtain rfl := Option.some.inj (show some _ = some o from hi)
                  have e52 : ev (.tmp 52) = (.int .i64 zj) := hev.dep 15 52 (by kernel_rfl)
                  refine leavesR_call ?_ (HOj.out _)
                  go_simp
                · obtain rfl := Option.some.inj (show some _ = some o from hi)
                  have e48 : (fun v w1 => Big w1 v zi) (ev (.tmp 48)) w9 := hev.dep 11 48 (by kernel_rfl)
                  dsimp only at e48
                  obtain ⟨v48, hv48⟩ : ∃ v, ev (.tmp 48) = v := ⟨_, rfl⟩
                  rw [hv48] at e48
                  have e53 : (fun v w1 => Big w1 v zj) (ev (.tmp 53)) w9 := hev.dep 16 53 (by kernel_rfl)
                  dsimp only at e53
                  obtain ⟨v53, hv53⟩ : ∃ v, ev (.tmp 53) = v := ⟨_, rfl⟩
                  rw [hv53] at e53
                  refine leavesR_call ?_ (HM1.out _ _ _ e48 e53)
                  go_simp
                · obtain rfl := Option.some.inj (show some _ = some o from hi)
                  have e43 : (fun v w1 => Big w1 v x) (ev (.tmp 43)) w9 := hev.dep 6 43 (by kernel_rfl)
                  dsimp only at e43
                  obtain ⟨v43, hv43⟩ : ∃ v, ev (.tmp 43) = v := ⟨_, rfl⟩
                  rw [hv43] at e43
                  have e54 : (fun v w1 => Big w1 v p1) (ev (.tmp 54)) w9 := hev.dep 17 54 (by kernel_rfl)
                  dsimp only at e54
                  obtain ⟨v54, hv54⟩ : ∃ v, ev (.tmp 54) = v := ⟨_, rfl⟩
                  rw [hv54] at e54
                  refine leavesR_call ?_ (HM2.out _ _ _ e43 e54)
                  go_simp
                · obtain rfl := Option.some.inj (show some _ = some o from hi)
                  have e41 : (fun v w1 => Big w1 v ak) (ev (.tmp 41)) w9 := hev.dep 4 41 (by kernel_rfl)
                  dsimp only at e41
                  obtain ⟨v41, hv41⟩ : ∃ v, ev (.tmp 41) = v := ⟨_, rfl⟩
                  rw [hv41] at e41
                  have e55 : (fun v w1 => Big w1 v p2) (ev (.tmp 55)) w9 := hev.dep 18 55 (by kernel_rfl)
                  dsimp only at e55
                  obtain ⟨v55, hv55⟩ : ∃ v, ev (.tmp 55) = v := ⟨_, rfl⟩
                  rw [hv55] at e55
                  refine leavesR_call ?_ (HAD.out _ _ _ e41 e55)
                  go_simp
                · obtain rfl := Option.some.inj (show some _ = some o from hi)
                  exact leavesR_up (u := .pointer (some ⟨w9.heap.size, 0, none⟩)) (w' := w9.alloc (.cells #[.bool false, .slice none 0 0] 46)) (by go_simp) (Up.alloc _ _) ⟨_, rfl, hSB.size, Blk.new _ _ rfl⟩
                · exact absurd rfl hne
                · exact absurd (show i + 22 < 22 from (Array.getElem?_eq_some_iff.1 hi).1) (by omega)
              have ⟨hS1, hS2, hSB⟩ := hSE
              have q0 : gR 37 = (.agg #[.int .i64 (n : Int), .slice (some ⟨g, 0, none⟩) l.length cA]) := hq 0 37 (by decide) (by kernel_rfl)
              have q1 : gR 38 = (.int .i64 (i : Nat)) := hq 1 38 (by decide) (by kernel_rfl)
              have q2 : gR 39 = (.int .i64 (j : Nat)) := hq 2 39 (by decide) (by kernel_rfl)
              have q3 : gR 40 = (.int .i64 ak) := hq 3 40 (by decide) (by kernel_rfl)
              have q4 : (fun v w1 => Big w1 v ak) (gR 41) wE := hq 4 41 (by decide) (by kernel_rfl)
              dsimp only at q4
              obtain ⟨v41, hv41⟩ : ∃ v, gR 41 = v := ⟨_, rfl⟩
              rw [hv41] at q4
              have q5 : gR 42 = (.int .i64 x) := hq 5 42 (by decide) (by kernel_rfl)
              have q6 : (fun v w1 => Big w1 v x) (gR 43) wE := hq 6 43 (by decide) (by kernel_rfl)
              dsimp only at q6
              obtain ⟨v43, hv43⟩ : ∃ v, gR 43 = v := ⟨_, rfl⟩
              rw [hv43] at q6
              have q7 : gR 44 = (.slice (some ad) h.length cq) := hq 7 44 (by decide) (by kernel_rfl)
              have q8 : gR 45 = (.int .i64 (i : Nat)) := hq 8 45 (by decide) (by kernel_rfl)
              have q9 : gR 46 = (.pointer (some (ad.add i))) := hq 9 46 (by decide) (by kernel_rfl)
              have q10 : gR 47 = (.int .i64 zi) := hq 10 47 (by decide) (by kernel_rfl)
              have q11 : (fun v w1 => Big w1 v zi) (gR 48) wE := hq 11 48 (by decide) (by kernel_rfl)
              dsimp only at q11
              obtain ⟨v48, hv48⟩ : ∃ v, gR 48 = v := ⟨_, rfl⟩
              rw [hv48] at q11
              have q12 : gR 49 = (.slice (some ad) h.length cq) := hq 12 49 (by decide) (by kernel_rfl)
              have q13 : gR 50 = (.int .i64 (j : Nat)) := hq 13 50 (by decide) (by kernel_rfl)
              have q14 : gR 51 = (.pointer (some (ad.add j))) := hq 14 51 (by decide) (by kernel_rfl)
              have q15 : gR 52 = (.int .i64 zj) := hq 15 52 (by decide) (by kernel_rfl)
              have q16 : (fun v w1 => Big w1 v zj) (gR 53) wE := hq 16 53 (by decide) (by kernel_rfl)
              dsimp only at q16
              obtain ⟨v53, hv53⟩ : ∃ v, gR 53 = v := ⟨_, rfl⟩
              rw [hv53] at q16
              have q17 : (fun v w1 => Big w1 v p1) (gR 54) wE := hq 17 54 (by decide) (by kernel_rfl)
              dsimp only at q17
              obtain ⟨v54, hv54⟩ : ∃ v, gR 54 = v := ⟨_, rfl⟩
              rw [hv54] at q17
              have q18 : (fun v w1 => Big w1 v p2) (gR 55) wE := hq 18 55 (by decide) (by kernel_rfl)
              dsimp only at q18
              obtain ⟨v55, hv55⟩ : ∃ v, gR 55 = v := ⟨_, rfl⟩
              rw [hv55] at q18
              have q19 : (fun v w1 => Big w1 v z9) (gR 56) wE := hq 19 56 (by decide) (by kernel_rfl)
              dsimp only at q19
              obtain ⟨v56, hv56⟩ : ∃ v, gR 56 = v := ⟨_, rfl⟩
              rw [hv56] at q19
              have q20 : (fun v w1 => ∃ b, v = .pointer (some ⟨b, 0, none⟩) ∧ w.heap.size ≤ b ∧ Blk w1 b 46 #[.bool false, .slice none 0 0]) (gR 10) wE := hq 20 10 (by decide) (by kernel_rfl)
              dsimp only at q20
              obtain ⟨v10, hv10⟩ : ∃ v, gR 10 = v := ⟨_, rfl⟩
              rw [hv10] at q20
              refine ⟨fun h => absurd h (by decide), fun o ho => ?_⟩
              obtain rfl := Option.some.inj (show some _ = some o from ho)
              simp only [putL, List.map_cons, List.map_nil, q0, q1, q2, q3, hv41, q5, hv43, q7, q8, q9, q10, hv48, q12, q13, q14, q15, hv53, hv54, hv55, hv56, hv10, Act.put, pu1, pu2, pu3]
              clear hq hSE q0 q1 q2 q3 q5 q7 q8 q9 q10 q12 q13 q14 q15
              obtain ⟨b7, rfl, hb7, hBz⟩ := q20
              obtain ⟨bb, ba, bn, bc, rfl⟩ := q19.shape
              refine wp_stB rfl rfl rfl rfl hBz rfl rfl (one2 _ _ _ _) ?_
              have hB7 := Blk.row_other (hB.up huE) #[.bool bb, .slice ba bn bc] (blk_ne (hB.up huE) hBz (by decide))
              have hQ7 := Blk.row_other (hQ.up huE) #[.bool bb, .slice ba bn bc] (blk_ne (hQ.up huE) hBz (by decide))
              have hO7 := OwnI.setRowB (D := #[.bool bb, .slice ba bn bc]) (hO.up huE) hBz
              have hU7 := below_setRow (hU.trans huE) hb7 #[.bool bb, .slice ba bn bc]
              have hBg := hBz.setRow #[.bool bb, .slice ba bn bc]
              have hbg6 := big_set (D := #[.bool bb, .slice ba bn bc]) hBz q19
              obtain ⟨wK, hwK⟩ : ∃ wK, wE.setRow b7 #[.bool bb, .slice ba bn bc] = wK := ⟨_, rfl⟩
              rw [hwK] at hB7 hQ7 hO7 hU7 hBg hbg6 ⊢
              clear hwK hBz q19 q17 q18 q16 q11 q6 q4 hS1 hS2 hSB huE hB hQ hO hU hc0 hVh
              cases hf : fit z9 with
              | false =>
                have HF9 := hid (fun (va : Value) (w : World) (hb : Big w va z9) => hf ▸ rfits_any hb HN3.out)
                have Hf := hid hf
                clear hf
                go_wp2_with (first
                  | ((with_reducible apply ldB_P); exact rfl; exact rfl; exact hBg; exact rfl)
                  | (go_at_call 68; (with_reducible refine (HF9.out _ _ hbg6).mono ?_); rintro r w7 ⟨rfl, hu7⟩; replace hQ7 := hQ7.up hu7)
                  | ((with_reducible apply stM_P); exact rfl; exact rfl; exact hQ7; exact rfl; exact rfl; exact two2 _ _ _ _ _))
                rw [Hbad.out k (by rw [HlL.out]; exact hkl) (by rw [HZ9.out]; exact Hf.out)]
                exact bodyPost_ret (resMs (u := .int .i64 21) rfl rfl rfl (hQ7.setRow _) rfl) rfl (RSymPost.err 21 (below_up hU7 hu7) (by omega))
              | true =>
                have HF9 := hid (fun (va : Value) (w : World) (hb : Big w va z9) => hf ▸ rfits_any hb HN3.out)
                have Hf := hid hf
                have HIn := hid (fun (va : Value) (w : World) (hb : Big w va z9) => (i64V_yes (fit_i64 hf)) ▸ int64_big hb HN3.out)
                clear hf
                go_wp2_with (first
                  | ((with_reducible apply ldB_P); exact rfl; exact rfl; exact hBg; exact rfl)
                  | (go_at_call 68; (with_reducible refine (HF9.out _ _ hbg6).mono ?_); rintro r w7 ⟨rfl, hu7⟩; replace hQ7 := hQ7.up hu7; replace hB7 := hB7.up hu7; replace hO7 := hO7.up hu7; replace hbg6 := hbg6.up hu7; replace hBg := hBg.up hu7; replace hU7 := below_up hU7 hu7))
                have hq0 := hB7.cell 0 rfl
                have hq1 := hB7.cell 1 rfl
                refine wp_region_upS (S := (fun wq => Blk wq w.heap.size 24 #[.int .i64 (n : Int), .slice (some ⟨g, 0, none⟩) l.length cA] ∧ wq.cell? ⟨w.heap.size, 0, none⟩ = some (.int .i64 (n : Int)) ∧ wq.cell? ⟨w.heap.size, 1, none⟩ = some (.slice (some ⟨g, 0, none⟩) l.length cA) ∧ Blk wq b7 46 #[.bool bb, .slice ba bn bc] ∧ Big wq (.agg #[.bool bb, .slice ba bn bc]) z9 ∧ OwnI wq base (.slice (some ⟨g, 0, none⟩) l.length cA) M ∧ Blk wq (w.heap.size + 1) 24 #[.int .i64 0, .slice none 0 0] ∧ Below w.heap.size w wq)) (req := (fun j => j != 13)) (by kernel_rfl) (fun _ _ h hu => ⟨(h.1).up hu, hu.cell (h.2.1), hu.cell (h.2.2.1), (h.2.2.2.1).up hu, (h.2.2.2.2.1).up hu, (h.2.2.2.2.2.1).up hu, (h.2.2.2.2.2.2.1).up hu, below_up (h.2.2.2.2.2.2.2) hu⟩) ⟨gBlk, (by first | assumption | (apply Blk.cell; exact gBlk; exact rfl)), (by first | assumption | (apply Blk.cell; exact gBlk; exact rfl)), gBlk, (by (repeat (first | assumption | ((with_reducible apply big_set); exact gBlk) | (with_reducible apply big_alloc) | ((with_reducible apply big_up); assumption))); done), (by assumption), gBlk, gUp⟩ (fun wS hSS => ?_)
                have ⟨hS1, hS2, hS3, hS4, hS5, hS6, hS7, hSB⟩ := hSS
                refine wpAnyU_pure (i := 0) (d := (some 62)) (v := ?_) rfl rfl (by kernel_rfl) (fun _ _ _ h => h) (fun _ _ h hu => ⟨(h.1).up hu, hu.cell (h.2.1), hu.cell (h.2.2.1), (h.2.2.2.1).up hu, (h.2.2.2.2.1).up hu, (h.2.2.2.2.2.1).up hu, (h.2.2.2.2.2.2.1).up hu, below_up (h.2.2.2.2.2.2.2) hu⟩) (Or.inl ⟨by rfl, fun w' _ => yu_value ?_⟩) ?_
                rotate_left
                · (go_simp; (try exact rfl))
                try simp only [Act.put, pu1, pu2, pu3]
                refine wpAnyU_take (i := 1) (d := (some 63)) (v := ?_) rfl rfl (by kernel_rfl) (fun _ _ _ h => h) (fun _ _ h hu => ⟨(h.1).up hu, hu.cell (h.2.1), hu.cell (h.2.2.1), (h.2.2.2.1).up hu, (h.2.2.2.2.1).up hu, (h.2.2.2.2.2.1).up hu, (h.2.2.2.2.2.2.1).up hu, below_up (h.2.2.2.2.2.2.2) hu⟩) hSS (Or.inl ⟨by rfl, fun w' hSw => yu_value ?_⟩) ?_
                rotate_left
                · ((try dsimp only at hSw); (try obtain ⟨_, _, _, _, _, _, _, _⟩ := hSw); go_simp; (try exact rfl))
                try simp only [Act.put, pu1, pu2, pu3]
                refine wpAnyU_pure (i := 2) (d := (some 64)) (v := ?_) rfl rfl (by kernel_rfl) (fun _ _ _ h => h) (fun _ _ h hu => ⟨(h.1).up hu, hu.cell (h.2.1), hu.cell (h.2.2.1), (h.2.2.2.1).up hu, (h.2.2.2.2.1).up hu, (h.2.2.2.2.2.1).up hu, (h.2.2.2.2.2.2.1).up hu, below_up (h.2.2.2.2.2.2.2) hu⟩) (Or.inl ⟨by rfl, fun w' _ => yu_value ?_⟩) ?_
                rotate_left
                · (go_simp; (try exact rfl))
                try simp only [Act.put, pu1, pu2, pu3]
                refine wpAnyU_take (i := 3) (d := (some 65)) (v := ?_) rfl rfl (by kernel_rfl) (fun _ _ _ h => h) (fun _ _ h hu => ⟨(h.1).up hu, hu.cell (h.2.1), hu.cell (h.2.2.1), (h.2.2.2.1).up hu, (h.2.2.2.2.1).up hu, (h.2.2.2.2.2.1).up hu, (h.2.2.2.2.2.2.1).up hu, below_up (h.2.2.2.2.2.2.2) hu⟩) hSS (Or.inl ⟨by rfl, fun w' hSw => yu_value ?_⟩) ?_
                rotate_left
                · ((try dsimp only at hSw); (try obtain ⟨_, _, _, _, _, _, _, _⟩ := hSw); go_simp; (try exact rfl))
                try simp only [Act.put, pu1, pu2, pu3]
                refine wpAnyU_pure (i := 4) (d := (some 66)) (v := ?_) rfl rfl (by kernel_rfl) (fun _ _ _ h => h) (fun _ _ h hu => ⟨(h.1).up hu, hu.cell (h.2.1), hu.cell (h.2.2.1), (h.2.2.2.1).up hu, (h.2.2.2.2.1).up hu, (h.2.2.2.2.2.1).up hu, (h.2.2.2.2.2.2.1).up hu, below_up (h.2.2.2.2.2.2.2) hu⟩) (Or.inl ⟨by rfl, fun w' _ => yu_value ?_⟩) ?_
                rotate_left
                · (go_simp; (try exact rfl))
                try simp only [Act.put, pu1, pu2, pu3]
                refine wpAnyU_pure (i := 5) (d := (some 67)) (v := ?_) rfl rfl (by kernel_rfl) (fun _ _ _ h => h) (fun _ _ h hu => ⟨(h.1).up hu, hu.cell (h.2.1), hu.cell (h.2.2.1), (h.2.2.2.1).up hu, (h.2.2.2.2.1).up hu, (h.2.2.2.2.2.1).up hu, (h.2.2.2.2.2.2.1).up hu, below_up (h.2.2.2.2.2.2.2) hu⟩) (Or.inl ⟨by rfl, fun w' _ => yu_value ?_⟩) ?_
                rotate_left
                · (go_simp; (try exact rfl))
                try simp only [Act.put, pu1, pu2, pu3]
                refine wpAnyU_take (i := 6) (d := (some 68)) (v := _) rfl rfl (by kernel_rfl) (fun _ _ _ h => h) (fun _ _ h hu => ⟨(h.1).up hu, hu.cell (h.2.1), hu.cell (h.2.2.1), (h.2.2.2.1).up hu, (h.2.2.2.2.1).up hu, (h.2.2.2.2.2.1).up hu, (h.2.2.2.2.2.2.1).up hu, below_up (h.2.2.2.2.2.2.2) hu⟩) hSS (Or.inl ⟨by rfl, fun w' hSw => yu_call ?_ ((HX.out _).mono fun _ _ h => ⟨h.1, by rw [h.2]; exact Up.refl _⟩)⟩) ?_
                · go_simp
                try simp only [Act.put, pu1, pu2, pu3]
                refine wpAnyU_take (i := 7) (d := (some 69)) (v := _) rfl rfl (by kernel_rfl) (fun _ _ _ h => h) (fun _ _ h hu => ⟨(h.1).up hu, hu.cell (h.2.1), hu.cell (h.2.2.1), (h.2.2.2.1).up hu, (h.2.2.2.2.1).up hu, (h.2.2.2.2.2.1).up hu, (h.2.2.2.2.2.2.1).up hu, below_up (h.2.2.2.2.2.2.2) hu⟩) hSS (Or.inl ⟨by rfl, fun w' hSw => yu_value (run_ldB rfl rfl hSw.2.2.2.1 rfl)⟩) ?_
                try simp only [Act.put, pu1, pu2, pu3]
                refine wpAnyU_take (i := 8) (d := (some 70)) (v := _) rfl rfl (by kernel_rfl) (fun _ _ _ h => h) (fun _ _ h hu => ⟨(h.1).up hu, hu.cell (h.2.1), hu.cell (h.2.2.1), (h.2.2.2.1).up hu, (h.2.2.2.2.1).up hu, (h.2.2.2.2.2.1).up hu, (h.2.2.2.2.2.2.1).up hu, below_up (h.2.2.2.2.2.2.2) hu⟩) hSS (Or.inl ⟨by rfl, fun w' hSw => yu_call ?_ (HIn.out _ _ hSw.2.2.2.2.1)⟩) ?_
                · go_simp
                try simp only [Act.put, pu1, pu2, pu3]
                refine wpAnyU_pure (i := 9) (d := (some 61)) (v := ?_) rfl rfl (by kernel_rfl) (fun _ _ _ h => h) (fun _ _ h hu => ⟨(h.1).up hu, hu.cell (h.2.1), hu.cell (h.2.2.1), (h.2.2.2.1).up hu, (h.2.2.2.2.1).up hu, (h.2.2.2.2.2.1).up hu, (h.2.2.2.2.2.2.1).up hu, below_up (h.2.2.2.2.2.2.2) hu⟩) (Or.inl ⟨by rfl, fun w' _ => yu_value ?_⟩) ?_
                rotate_left
                · (go_simp; (try exact rfl))
                try simp only [Act.put, pu1, pu2, pu3]
                refine wpAnyU_pure (i := 10) (d := (some 71)) (v := ?_) rfl rfl (by kernel_rfl) (fun _ _ _ h => h) (fun _ _ h hu => ⟨(h.1).up hu, hu.cell (h.2.1), hu.cell (h.2.2.1), (h.2.2.2.1).up hu, (h.2.2.2.2.1).up hu, (h.2.2.2.2.2.1).up hu, (h.2.2.2.2.2.2.1).up hu, below_up (h.2.2.2.2.2.2.2) hu⟩) (Or.inl ⟨by rfl, fun w' _ => yu_value ?_⟩) ?_
                rotate_left
                · (go_simp; (try exact rfl))
                try simp only [Act.put, pu1, pu2, pu3]
                refine wpAnyU_pure (i := 11) (d := (some 72)) (v := ?_) rfl rfl (by kernel_rfl) (fun _ _ _ h => h) (fun _ _ h hu => ⟨(h.1).up hu, hu.cell (h.2.1), hu.cell (h.2.2.1), (h.2.2.2.1).up hu, (h.2.2.2.2.1).up hu, (h.2.2.2.2.2.1).up hu, (h.2.2.2.2.2.2.1).up hu, below_up (h.2.2.2.2.2.2.2) hu⟩) (Or.inl ⟨by rfl, fun w' _ => yu_value ?_⟩) ?_
                rotate_left
                · (go_simp; (try exact rfl))
                try simp only [Act.put, pu1, pu2, pu3]
                refine wpAnyU_pure (i := 12) (d := (some 73)) (v := ?_) rfl rfl (by kernel_rfl) (fun _ _ _ h => h) (fun _ _ h hu => ⟨(h.1).up hu, hu.cell (h.2.1), hu.cell (h.2.2.1), (h.2.2.2.1).up hu, (h.2.2.2.2.1).up hu, (h.2.2.2.2.2.1).up hu, (h.2.2.2.2.2.2.1).up hu, below_up (h.2.2.2.2.2.2.2) hu⟩) (Or.inl ⟨by rfl, fun w' _ => yu_value ?_⟩) ?_
                rotate_left
                · (go_simp; (try exact rfl))
                try simp only [Act.put, pu1, pu2, pu3]
                refine wpAnyU_one (i := 13) rfl (by kernel_rfl) (by rfl) fun wZ hwZ => ?_
                obtain ⟨hcW, hfW⟩ := (hS6.up hwZ).cells hkM
                go_simp
                clear hcW hfW
                refine wpAnyU_done (by kernel_rfl) (fun wF huE => ?_) _
                have hne1 : w.heap.size ≠ g := by omega
                have hne2 : w.heap.size + 1 ≠ g := by omega
                have hO5 := ((hS6.up hwZ).set hkM z9).up huE
                rw [HS9.out] at hO5
                have hB5 := ((hS1.up hwZ).other ⟨g, k, none⟩ (.int .i64 z9) hne1).up huE
                have hQ5 := ((hS7.up hwZ).other ⟨g, k, none⟩ (.int .i64 z9) hne2).up huE
                have hU5 := below_up ((below_up hSB hwZ).setCell (p := ⟨g, k, none⟩) (show w.heap.size ≤ g by omega) (.int .i64 z9)) huE
                clear hq0 hq1 hwZ
                go_wp2_with fail
                go_roundg (n - (j + 1))
                case measure => omega
                case rel => exact ⟨j + 1, by omega, by omega, Nat.le_refl _, rfl, by rw [pos_succ hij, HK.out]; exact ⟨hO5, fun q hq => by rcases Nat.lt_succ_iff_lt_or_eq.1 hq with h1 | h1; exact HFit.out q h1; rw [h1, HZ9.out]; exact Hf.out, hB5, hQ5, hU5⟩⟩
            · obtain rfl : j = n := by omega
              have HP := hid (pos_row hlt)
              go_wp2_with fail
              go_roundg (j - (i + 1))
              case measure => omega
              case rel => exact ⟨i + 1, hlt, Nat.le_refl _, rfl, by rw [← HP.out]; exact ⟨hO, hfits, hB, hQ, hU⟩⟩
        · obtain rfl : i = n := by omega
          rw [pos_end, ← HLn.out, ← HlL.out] at hO hfits
          rw [mixed_all HlL.out] at hO
          have HI := hid (In64.of_fit hfits)
          have HG := hid (Hgood.out hfits)
          clear hfits hlt
          go_wp2_with (first
            | ((with_reducible apply ldM_P); exact rfl; exact rfl; exact hB; exact rfl)
            | ((with_reducible apply stM_P); exact rfl; exact rfl; exact hQ; exact rfl; exact rfl; exact two2 _ _ _ _ _))
          rw [HG.out]
          exact bodyPost_ret (resMs (u := .int .i64 0) rfl rfl rfl (hQ.setRow _) rfl) rfl (RSymPost.ok hU (by omega) hQ hO HN64.out HI.out (by rw [HlL.out]; exact hlen))
    · have e : ouC N l x h = 23 := by unfold ouC; rw [hR, decide_eq_false hn0]; rfl
      have e2 : ouR N l x h = [] := by unfold ouR; rw [e]; rfl
      have e3 : ouN N l x h = 0 := by unfold ouN; rw [e]; rfl
      rw [e, e2, e3]
      have d3 : ((h.length : Int) != N) = true := by simpa using hn0
      clear e e2 e3 hR hc hl hN hI hn0
      go_enter Tryz.func40, Tryz.ntmps40
      go_wp2_with (first
        | ((with_reducible apply ldM_P); exact rfl; exact rfl; exact hB; exact rfl)
        | (go_at_call 12; (with_reducible refine (HR.out _ hU).mono ?_); rintro r w1 ⟨rfl, hu1⟩; replace hQ := hQ.up hu1; replace hB := hB.up hu1; have hc0 := hB.cell 0 rfl)
        | ((with_reducible apply stM_P); exact rfl; exact rfl; exact hQ; exact rfl; exact rfl; exact two2 _ _ _ _ _))
      exact bodyPost_ret (resMs (u := .int .i64 23) rfl rfl rfl (hQ.setRow _) rfl) rfl (RSymPost.err 23 (hU.trans hu1) (by omega))
theorem sm_one (w : World) : Sm w (.agg #[.int .i64 1, .slice none 0 0]) 1 [] :=
  ⟨_, rfl, ⟨none, 0, rfl, ⟨Nat.le_refl _, fun _ => rfl⟩, fun i hi => absurd hi (Nat.not_lt_zero _)⟩, by unfold I64; omega, fun i hi => absurd hi (Nat.not_lt_zero _), by simp⟩
end Go.Proofs.YtnpaodlhhcnbgaaGreatDoor
