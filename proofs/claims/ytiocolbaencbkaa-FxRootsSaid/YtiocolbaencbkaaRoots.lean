/-
  The reference's roots.
-/
import Derived.Test.YtiocolbaencbkaaRefJ
import Derived.Test.YtiocolbaencbkaaSums
namespace Go.Proofs.Ytiocolbaencbkaa
open Go Go.RowKit
set_option maxRecDepth 100000

theorem op_shl1 {P : Program} {o : Oper} {a : Act} {x y : Operand} {t u : TypeId} (ho : o.op = .binOp .shl t x y u) {s : Nat} (hx : a.eval x = .int .u64 1) (hy : a.eval y = .int .i64 (s : Nat)) (hs : s < 64) (w : World) :
    (execOp a.eval o).run P w = .ok (.value (.int .u64 ((2 ^ s : Nat) : Int))) w := by
  have h1 : 2 ^ s < 2 ^ 64 := Nat.pow_lt_pow_right (by decide) hs
  have e : IntKind.u64.wrap ((1 : Int) * 2 ^ s) = ((2 ^ s : Nat) : Int) := by
    rw [IntKind.wrap_u64, Int.one_mul, show (2 : Int) ^ s = ((2 ^ s : Nat) : Int) by simp]
    generalize 2 ^ s = q at *
    omega
  unfold execOp
  simp only [ho, hx, hy, eqGuard, binOp, shift_shl .u64 .i64 (1 : Int) (s : Int) (by omega) (show (s : Int) ≤ 64 by omega)]
  simpa using e
theorem shl1P {P : Program} {t u : TypeId} {ops : Array Oper} {rest : List Oper} {Q : Exit → Act → World → Prop} {a : Act} {w : World} {d : Option Tmp} {x y : Operand} {ty : TypeId} {pos : String} {af : Array Edge} {gd : Option (Nat × Bool)} {s : Nat}
    (hw : Region.wanted { dst := d, op := .binOp .shl t x y u, type := ty, pos := pos, after := af, guard := gd } (yielded ops a.tmps) = true) (hx : a.eval x = .int .u64 1) (hy : a.eval y = .int .i64 (s : Nat)) (hs : s < 64)
    (h : wpList P ops Q rest (a.put d (.int .u64 ((2 ^ s : Nat) : Int))) w) : wpList P ops Q ({ dst := d, op := .binOp .shl t x y u, type := ty, pos := pos, after := af, guard := gd } :: rest) a w := wpList_run hw (op_shl1 rfl hx hy hs w) h
/-- A root's beginning, bit by bit from above. -/
structure RootUp (N m r : Nat) : Prop where
  out : (∃ t, r = 2 ^ m * t) ∧ r + 2 ^ m ≤ 18446744073709551616 ∧ r * r ≤ N ∧ N < (r + 2 ^ m) * (r + 2 ^ m)
theorem up_start {N : Nat} (h : N < 340282366920938463463374607431768211456) : RootUp N 64 0 := ⟨⟨0, by omega⟩, by decide, by omega, by
  rw [Nat.zero_add, show (2 : Nat) ^ 64 * 2 ^ 64 = 340282366920938463463374607431768211456 from rfl]; exact h⟩
theorem up_next {N k r : Nat} (h : RootUp N (k + 1) r) : (r ||| 2 ^ k) = r + 2 ^ k ∧ r + 2 ^ k < 18446744073709551616 ∧ r < 18446744073709551616 ∧ 2 ^ k < 18446744073709551616 ∧ 0 < 2 ^ k ∧
    ((r + 2 ^ k) * (r + 2 ^ k) ≤ N → RootUp N k (r + 2 ^ k)) ∧ (¬ (r + 2 ^ k) * (r + 2 ^ k) ≤ N → RootUp N k r) := by
  obtain ⟨⟨t, ht⟩, h2, h3, h4⟩ := h.out
  have hp := Nat.two_pow_pos k
  have e := Nat.pow_succ 2 k
  have hor : (r ||| 2 ^ k) = r + 2 ^ k := by rw [ht]; exact or_add (by rw [e]; omega)
  rw [e] at h2 h4 ht
  refine ⟨hor, by omega, by omega, by omega, hp, fun hc => ⟨⟨2 * t + 1, by rw [ht]; grind⟩, by omega, hc, ?_⟩, fun hc => ⟨⟨2 * t, by rw [ht]; grind⟩, by omega, h3, by omega⟩⟩
  rw [show r + 2 ^ k + 2 ^ k = r + 2 ^ k * 2 by omega]
  exact h4
theorem up_end {N r : Nat} (h : RootUp N 0 r) : r * r ≤ N ∧ N < (r + 1) * (r + 1) := ⟨h.out.2.2.1, h.out.2.2.2⟩
set_option maxHeartbeats 2000000 in
theorem rooted_big {N r : Nat} {v : Value} {w : World} (h : Big w v (N : Nat)) (hN : N < 340282366920938463463374607431768211456) (h1 : r * r ≤ N) (h2 : N < (r + 1) * (r + 1)) :
    Calls Try.prog 55 #[v] w fun e w' => e = .returned (.int .u64 (r : Nat)) ∧ Up w w' := by
  obtain ⟨a, c, rfl, hA⟩ := h
  rw [Int.natAbs_natCast] at hA ⊢
  have hn : nl N < 100000 := by have := nl_le (x := N) (k := 2) (by rw [bp_succ, bp_succ, bp_zero]; omega); omega
  have H0 := hid (up_start hN)
  have HR1 := hid h1
  have HR2 := hid h2
  have HA := hid hA
  rw [show decide (((N : Nat) : Int) < 0) = false from decide_eq_false (by omega)]
  clear hA h1 h2 hN
  go_enter Try.func55, Try.ntmps55
  go_wp2
  go_loopw [3, 4] (fun tr ts wr => ∃ (m q : Nat), m ≤ 64 ∧ tr = .int .u64 (q : Nat) ∧ ts = .int .i64 ((m : Int) - 1) ∧ RootUp N m q ∧ Blk wr w.heap.size 30 #[.bool false, .slice a (nl N) c] ∧ Below w.heap.size w wr)
    (fun _ ts _ => (intOf ts + 1).toNat)
  case atStart => exact ⟨64, 0, by omega, rfl, rfl, H0.out, (by (repeat (first | assumption | ((with_reducible apply blk_new); (focus (first | rfl | (simp; done)))) | (with_reducible apply blk_alloc) | (with_reducible apply blk_drew) | (with_reducible apply blk_drewN) | ((with_reducible apply blk_up); assumption) | (with_reducible apply blk_same) | ((with_reducible apply blk_else); (focus (first | (simp; done) | (simp; omega) | omega)))))), (by repeat (first | assumption | (with_reducible apply Up.of) | (with_reducible exact Below.refl _ _) | (with_reducible exact Up.refl _) | ((with_reducible apply bl_setRow); (focus (first | exact Nat.le_refl _ | (simp; done) | (simp; omega) | omega))) | (with_reducible apply below_drewN) | (with_reducible apply Below.drew) | ((with_reducible apply bl_alloc); (focus (first | exact Nat.le_refl _ | (simp; done) | (simp; omega) | omega))) | ((with_reducible apply bl_setCell); (focus (first | exact Nat.le_refl _ | (simp; done) | (simp; omega) | omega))) | ((with_reducible apply up_tr); assumption)))⟩
  case round =>
    obtain ⟨m, q, hm, rfl, rfl, hup, hK, hB⟩ := hrel
    have HUP := hid hup
    by_cases hlt : 0 < m
    · obtain ⟨k, rfl⟩ : ∃ k, m = k + 1 := ⟨m - 1, by omega⟩
      have e : (((k + 1 : Nat) : Int) - 1) = (k : Int) := by omega
      rw [e]
      clear e
      obtain ⟨hor, b1, b2, b3, b4, hy, hno⟩ := up_next hup
      have hk64 : k < 64 := by omega
      obtain ⟨cc, hcc⟩ : ∃ cc, 2 ^ k = cc := ⟨_, rfl⟩
      rw [hcc] at hor b1 b3 b4 hy hno
      obtain ⟨x, hx⟩ : ∃ x, q + cc = x := ⟨_, rfl⟩
      rw [hx] at hor b1 hy hno
      have HOR := hid hor
      have HCC := hid hcc
      have hx0 : 0 < x := by omega
      clear hor hcc hup hx
      go_wp2_with (first | ((with_reducible apply shl1P); exact rfl; exact rfl; exact rfl; exact hk64; rw [HCC.out]) | ((with_reducible apply orNP); exact rfl; exact rfl; exact rfl; exact b2; exact b3; rw [HOR.out]))
      have hAx := fun w' b (hR : Row w' b 25 1 (fun _ => x)) => am_one b1 hx0 hR
      have hrow : Row (wr.alloc (Obj.cells #[Value.int IntKind.u64 (x : Nat)] 25)) wr.heap.size 25 1 (fun _ => x) := row_one rfl
      have hAx1 := (hAx _ _ hrow).1
      have hn1 := (hAx _ _ hrow).2
      have hcx := hrow.cell 0 (by decide)
      have hc1 := (blk_alloc (o := Obj.cells #[Value.int IntKind.u64 (x : Nat)] 25) hK).cell 1 rfl
      have hszr := hB.size
      have hnx : nl (x * x) < 1000000 := by
        have hxx : x * x ≤ 18446744073709551615 * 18446744073709551615 := Nat.mul_le_mul (by omega) (by omega)
        have := nl_le (x := x * x) (k := 2) (by rw [bp_succ, bp_succ, bp_zero]; omega)
        omega
      refine wp_region_upS (S := (fun wq => Am wq (.slice (some ⟨wr.heap.size, 0, none⟩) 1 1) x ∧ Blk wq w.heap.size 30 #[.bool false, .slice a (nl N) c] ∧ wq.cell? ⟨w.heap.size, 1, none⟩ = some (.slice a (nl N) c) ∧ wq.cell? ⟨wr.heap.size, 0, none⟩ = some (.int .u64 (x : Nat)) ∧ Below w.heap.size w wq)) (req := (fun _ => true)) (by kernel_rfl) (fun _ _ h hu => ⟨(h.1).up hu, (h.2.1).up hu, hu.cell (h.2.2.1), hu.cell (h.2.2.2.1), below_up (h.2.2.2.2) hu⟩) ⟨(by (repeat (first | assumption | ((with_reducible apply am_set); (focus (repeat (first | assumption | ((with_reducible apply blk_new); (focus (first | rfl | (simp; done)))) | (with_reducible apply blk_alloc) | (with_reducible apply blk_drew) | (with_reducible apply blk_drewN) | ((with_reducible apply blk_up); assumption) | (with_reducible apply blk_same) | ((with_reducible apply blk_else); (focus (first | (simp; done) | (simp; omega) | omega))))))) | (with_reducible apply am_alloc) | ((with_reducible apply am_up); assumption)))), (by (repeat (first | assumption | ((with_reducible apply blk_new); (focus (first | rfl | (simp; done)))) | (with_reducible apply blk_alloc) | (with_reducible apply blk_drew) | (with_reducible apply blk_drewN) | ((with_reducible apply blk_up); assumption) | (with_reducible apply blk_same) | ((with_reducible apply blk_else); (focus (first | (simp; done) | (simp; omega) | omega)))))), (by first | assumption | (apply Blk.cell; (focus (repeat (first | assumption | ((with_reducible apply blk_new); (focus (first | rfl | (simp; done)))) | (with_reducible apply blk_alloc) | (with_reducible apply blk_drew) | (with_reducible apply blk_drewN) | ((with_reducible apply blk_up); assumption) | (with_reducible apply blk_same) | ((with_reducible apply blk_else); (focus (first | (simp; done) | (simp; omega) | omega)))))); exact rfl)), (by first | assumption | (apply Blk.cell; (focus (repeat (first | assumption | ((with_reducible apply blk_new); (focus (first | rfl | (simp; done)))) | (with_reducible apply blk_alloc) | (with_reducible apply blk_drew) | (with_reducible apply blk_drewN) | ((with_reducible apply blk_up); assumption) | (with_reducible apply blk_same) | ((with_reducible apply blk_else); (focus (first | (simp; done) | (simp; omega) | omega)))))); exact rfl)), (by repeat (first | assumption | (with_reducible apply Up.of) | (with_reducible exact Below.refl _ _) | (with_reducible exact Up.refl _) | ((with_reducible apply bl_setRow); (focus (first | exact Nat.le_refl _ | (simp; done) | (simp; omega) | omega))) | (with_reducible apply below_drewN) | (with_reducible apply Below.drew) | ((with_reducible apply bl_alloc); (focus (first | exact Nat.le_refl _ | (simp; done) | (simp; omega) | omega))) | ((with_reducible apply bl_setCell); (focus (first | exact Nat.le_refl _ | (simp; done) | (simp; omega) | omega))) | ((with_reducible apply up_tr); assumption)))⟩ (fun wS hSS => ?_)
      have ⟨hS1, hS2, hS3, hS4, hSB⟩ := hSS
      clear hcx hc1 hAx1 hAx hrow hK
      refine wpAnyU_pure (i := 0) (d := (some 15)) (v := ?_) rfl rfl (by kernel_rfl) (fun _ _ _ h => h) (fun _ _ h hu => ⟨(h.1).up hu, (h.2.1).up hu, hu.cell (h.2.2.1), hu.cell (h.2.2.2.1), below_up (h.2.2.2.2) hu⟩) (Or.inl ⟨by rfl, fun w' _ => yu_value ?_⟩) ?_
      rotate_left
      · (go_simp; (try exact rfl))
      try simp only [Act.put, List.setIfInBounds_toArray, List.set_cons_zero, List.set_cons_succ]
      refine wpAnyU_pure (i := 1) (d := (some 16)) (v := ?_) rfl rfl (by kernel_rfl) (fun _ _ _ h => h) (fun _ _ h hu => ⟨(h.1).up hu, (h.2.1).up hu, hu.cell (h.2.2.1), hu.cell (h.2.2.2.1), below_up (h.2.2.2.2) hu⟩) (Or.inl ⟨by rfl, fun w' _ => yu_value ?_⟩) ?_
      rotate_left
      · (go_simp; (try exact rfl))
      try simp only [Act.put, List.setIfInBounds_toArray, List.set_cons_zero, List.set_cons_succ]
      refine wpAnyU_pure (i := 3) (d := (some 18)) (v := ?_) rfl rfl (by kernel_rfl) (fun _ _ _ h => h) (fun _ _ h hu => ⟨(h.1).up hu, (h.2.1).up hu, hu.cell (h.2.2.1), hu.cell (h.2.2.2.1), below_up (h.2.2.2.2) hu⟩) (Or.inl ⟨by rfl, fun w' _ => yu_value ?_⟩) ?_
      rotate_left
      · (go_simp; (try exact rfl))
      try simp only [Act.put, List.setIfInBounds_toArray, List.set_cons_zero, List.set_cons_succ]
      refine wpAnyU_take (i := 4) (d := (some 19)) (v := ?_) rfl rfl (by kernel_rfl) (fun _ _ _ h => h) (fun _ _ h hu => ⟨(h.1).up hu, (h.2.1).up hu, hu.cell (h.2.2.1), hu.cell (h.2.2.2.1), below_up (h.2.2.2.2) hu⟩) hSS (Or.inl ⟨by rfl, fun w' hSw => yu_value ?_⟩) ?_
      rotate_left
      · ((try dsimp only at hSw); (try obtain ⟨_, _, _, _, _⟩ := hSw); go_simp; (try exact rfl))
      try simp only [Act.put, List.setIfInBounds_toArray, List.set_cons_zero, List.set_cons_succ]
      refine wpAnyU_callE (i := 2) (d := (some 17)) rfl rfl (by kernel_rfl) (by rfl) (fun _ _ h hu => ⟨(h.1).up hu, (h.2.1).up hu, hu.cell (h.2.2.1), hu.cell (h.2.2.2.1), below_up (h.2.2.2.2) hu⟩) (fun w' => by go_simp) (fun w' hw' => times_am (hS1.up hw') (hS1.up hw') (by omega) (by omega)) fun vP wP hwP hRP => ?_
      try simp only [Act.put, List.setIfInBounds_toArray, List.set_cons_zero, List.set_cons_succ]
      obtain ⟨a1, c1, rfl⟩ := hRP.shape
      refine wpAnyU_callE (i := 5) (d := (some 20)) rfl rfl (by kernel_rfl) (by rfl) (fun _ _ h hu => ⟨(h.1).up hu, (h.2.1).up hu, hu.cell (h.2.2.1), hu.cell (h.2.2.2.1), below_up (h.2.2.2.2) hu⟩) (fun w' => by go_simp) (fun w' hw' => callE_of (cmp_am (hRP.up hw') (HA.out.up (below_up (below_up hSB hwP) hw')) hnx (by omega))) fun vT wT hwT hRT => ?_
      try simp only [Act.put, List.setIfInBounds_toArray, List.set_cons_zero, List.set_cons_succ]
      subst hRT
      obtain ⟨o, ho⟩ : ∃ o : Bool, decide (ordZ (x * x) N ≤ 0) = o := ⟨_, rfl⟩
      refine wpAnyU_pure (i := 6) (d := (some 21)) (v := ?_) rfl rfl (by kernel_rfl) (fun _ _ _ h => h) (fun _ _ h hu => ⟨(h.1).up hu, (h.2.1).up hu, hu.cell (h.2.2.1), hu.cell (h.2.2.2.1), below_up (h.2.2.2.2) hu⟩) (Or.inl ⟨by rfl, fun w' _ => yu_value ?_⟩) ?_
      rotate_left
      · (go_simp; (try exact rfl))
      try simp only [Act.put, List.setIfInBounds_toArray, List.set_cons_zero, List.set_cons_succ]
      refine wpAnyU_done (by kernel_rfl) (fun wF huE => ?_) _
      have gU := (hwP.trans hwT).trans huE
      have gK := hS2.up gU
      have gc := gU.cell hS4
      have gB := below_up hSB gU
      clear hS1 hS2 hS3 hS4 hSB hSS hwP hwT huE gU hRP
      by_cases hc : x * x ≤ N
      · have HNX := hid (hy hc)
        obtain rfl : o = true := by
          rw [← ho]
          unfold ordZ
          split
          · rfl
          · rw [if_neg (by omega)]; rfl
        clear hy hno hc ho
        go_wp2
        go_roundw
        case rel => exact ⟨k, x, by omega, rfl, by go_num, HNX.out, gK, gB⟩
        case measure => simp [intOf] <;> omega
      · have HNX := hid (hno hc)
        obtain rfl : o = false := by
          rw [← ho]
          unfold ordZ
          rw [if_neg (by omega), if_pos (by omega)]
          rfl
        clear hy hno hc ho
        go_wp2
        go_roundw
        case rel => exact ⟨k, q, by omega, rfl, by go_num, HNX.out, gK, gB⟩
        case measure => simp [intOf] <;> omega
    · obtain rfl : m = 0 := by omega
      obtain ⟨e1, e2⟩ := up_end hup
      have he : q = r := Nat.le_antisymm (root_one e1 HR2.out) (root_one HR1.out e2)
      subst he
      clear e1 e2 hup HUP HR1 HR2
      go_wp2
      go_ret
      exact ⟨rfl, hB⟩
end Go.Proofs.Ytiocolbaencbkaa
