/-
  wide: the quotient by a number of two limbs or more.
-/
import Derived.Test.YtlkolfnklbldcaaLongN
import Derived.Test.YtlkolfnklbldcaaRefA
import Derived.Deep.DeepCutAuto
import Derived.Deep.CutRange
import Derived.Deep.CutBlock
namespace Go.Proofs.Ytlkolfnklbldcaa
open Go Go.RowKit
set_option maxRecDepth 100000

theorem run_allocL {o : Oper} {a : Act} (ho : o.op = .alloc 76) (w : World) :
    (execOp a.eval o).run Try.prog w = .ok (.value (.pointer (some ⟨w.heap.size, 0, none⟩))) (w.alloc (.cells (cells 17 (fun _ => 0)) 76)) := by
  rw [← zeros17]
  unfold execOp
  rw [ho]
  dsimp only
  go_simp
theorem wpAnyU_allocL {ops : Array Oper} {Q : Exit → Act → World → Prop} {md : Region.Mode} {S : World → Prop} {req : Nat → Bool} {i : Nat} {o : Oper} {d : Option Tmp} {fuel : Nat} {listed : Array Bool} {a : Act} {w : World}
    (hi : ops[i]? = some o) (hd : o.dst = d) (hr : Region.ready md ops listed = [i]) (hw : Region.wanted o (yielded ops a.tmps) = true) (ho : o.op = .alloc 76) (hSup : ∀ w w', S w → Up w w' → S w')
    (h : ∀ w1, Up w w1 → wpAnyU Try.prog md ops Q S req fuel (listed.setIfInBounds i true) (a.put d (.pointer (some ⟨w1.heap.size, 0, none⟩))) (w1.alloc (.cells (cells 17 (fun _ => 0)) 76))) : wpAnyU Try.prog md ops Q S req (fuel + 1) listed a w := by
  subst hd
  refine wpAnyU_one hi hr hw fun w1 hw1 => ?_
  unfold Oper.wp
  rw [run_allocL ho w1]
  exact ⟨fun _ hS => hSup _ _ hS (Up.alloc _ _), h w1 hw1⟩
theorem wpAnyU_alloc2L {ops : Array Oper} {Q : Exit → Act → World → Prop} {md : Region.Mode} {S : World → Prop} {req : Nat → Bool} {i j : Nat} {oi oj : Oper} {di dj : Tmp} {fuel : Nat} {listed : Array Bool} {a : Act} {w : World}
    (hi : ops[i]? = some oi) (hj : ops[j]? = some oj) (hdi : oi.dst = some di) (hdj : oj.dst = some dj) (hd : di ≠ dj) (hgi : oi.guard = none) (hgj : oj.guard = none) (hoi : oi.op = .alloc 76) (hoj : oj.op = .alloc 76)
    (hr : Region.ready md ops listed = [i, j]) (hr1 : Region.ready md ops (listed.setIfInBounds i true) = [j]) (hr2 : Region.ready md ops (listed.setIfInBounds j true) = [i]) (hij : i ≠ j) (hSup : ∀ w w', S w → Up w w' → S w')
    (h : ∀ w1 p q, Up w w1 → Row w1 p 76 17 (fun _ => 0) → Row w1 q 76 17 (fun _ => 0) → p ≠ q → w.heap.size ≤ p → w.heap.size ≤ q →
      wpAnyU Try.prog md ops Q S req fuel ((listed.setIfInBounds i true).setIfInBounds j true) ((a.put (some di) (.pointer (some ⟨p, 0, none⟩))).put (some dj) (.pointer (some ⟨q, 0, none⟩))) w1) :
    wpAnyU Try.prog md ops Q S req (fuel + 2) listed a w := by
  have hwi : ∀ a : Act, Region.wanted oi (yielded ops a.tmps) = true := fun a => by simp [Region.wanted, hgi]
  have hwj : ∀ a : Act, Region.wanted oj (yielded ops a.tmps) = true := fun a => by simp [Region.wanted, hgj]
  refine wpAnyU_all hr (by simp) fun w1 hw1 k hk => ?_
  simp only [List.mem_cons, List.not_mem_nil, or_false] at hk
  rcases hk with rfl | rfl
  · unfold wpOp
    simp only [hi, hwi, if_true]
    refine .inl ?_
    unfold Oper.wp
    rw [run_allocL hoi w1]
    refine ⟨fun _ hS => hSup _ _ hS (Up.alloc _ _), ?_⟩
    refine wpAnyU_allocL hj hdj hr1 (hwj _) hoj hSup fun w2 hw2 => ?_
    rw [hdi]
    have h1 := hw1.size
    have h2 := hw2.size
    simp only [World.alloc, Array.size_push] at h2
    exact h _ _ _ ((hw1.trans ((Up.alloc _ _).trans hw2)).trans (Up.alloc _ _)) ((Row.up (row_newc _ 17 _ rfl) hw2).up (Up.alloc _ _)) (row_newc _ 17 _ rfl) (by omega) (by omega) (by omega)
  · unfold wpOp
    simp only [hj, hwj, if_true]
    refine .inl ?_
    unfold Oper.wp
    rw [run_allocL hoj w1]
    refine ⟨fun _ hS => hSup _ _ hS (Up.alloc _ _), ?_⟩
    refine wpAnyU_allocL hi hdi hr2 (hwi _) hoi hSup fun w2 hw2 => ?_
    rw [hdj, Act.put_comm a (x := some dj) (y := some di) _ _ (fun d h1 h2 => hd (by rw [Option.some.inj h1, Option.some.inj h2])), Array.setIfInBounds_comm _ _ (Ne.symm hij)]
    have h1 := hw1.size
    have h2 := hw2.size
    simp only [World.alloc, Array.size_push] at h2
    exact h _ _ _ ((hw1.trans ((Up.alloc _ _).trans hw2)).trans (Up.alloc _ _)) (row_newc _ 17 _ rfl) ((Row.up (row_newc _ 17 _ rfl) hw2).up (Up.alloc _ _)) (by omega) (by omega) (by omega)
theorem wp_worldD {P : Program} {c : Code} {Q : Exit → Act → World → Prop} {a : Act} {w : World} (R : World → Prop) (h : R w) (k : ∀ w', R w' → c.wp P Q a w') : c.wp P Q a w := k w h
section
variable {P : Program} {ops : Array Oper} {Q : Exit → Act → World → Prop} {md : Region.Mode} {S : World → Prop} {req : Nat → Bool}
theorem wpAnyU_callN {i : Nat} {o : Oper} {d : Option Tmp} {fuel : Nat} {listed : Array Bool} {a : Act} {w : World} {f : FuncId} {args : Array Value} {R : World → Value → World → Prop} (hi : ops[i]? = some o) (hd : o.dst = d) (hr : Region.ready md ops listed = [i]) (hw : Region.wanted o (yielded ops a.tmps) = true) (hq : req i = false)
    (hrun : ∀ w', (execOp a.eval o).run P w' = .ok (.enter f args) w') (hc : ∀ w', Up w w' → Calls P f args w' fun e w'' => ∃ v, e = .returned v ∧ R w' v w'')
    (h : ∀ w' v w'', Up w w' → R w' v w'' → wpAnyU P md ops Q S req fuel (listed.setIfInBounds i true) (a.put d v) w'') : wpAnyU P md ops Q S req (fuel + 1) listed a w := by
  refine wpAnyU_one hi hr hw fun w1 hw1 => ?_
  unfold Oper.wp
  rw [hrun w1]
  subst hd
  refine Calls.mono (hc w1 hw1) fun e w'' he => ?_
  obtain ⟨v, rfl, hR⟩ := he
  exact ⟨(fun h1 => by (rw [hq] at h1; cases h1)), h w1 v w'' hw1 hR⟩
end
theorem undL2 : Try.prog.underlying 76 = some (.array (Try.prog.arrayLen 76) (Try.prog.elem 76)) := by kernel_rfl
theorem lenL2 : Try.prog.arrayLen 76 = 17 := by kernel_rfl
theorem run_size1 (w : World) : (sizeOf (Try.prog.elem 76)).run Try.prog w = .ok 1 w := by rfl
theorem slice_win {p i m : Nat} (h : i + m < 17) (w : World) :
    (Instr.sliceAt 76 (.pointer (some ⟨p, 0, none⟩)) (some (.int .i64 (i : Nat))) (some (.int .i64 ((i : Int) + (m : Int) + 1))) none).run Try.prog w = .ok (.slice (some ⟨p, i, none⟩) (m + 1) (17 - i)) w := by
  rw [run_sliceAt_array_lh w 76 ⟨p, 0, none⟩ undL2 .i64 .i64 (i : Nat) ((i : Int) + (m : Int) + 1) (by omega) (by omega) (by rw [lenL2]; omega), run_size1, lenL2]
  simp only [Result.andThen_ok, slicedAt, Int.toNat_natCast, Nat.mul_one]
  rw [if_neg (by omega), show ((i : Int) + (m : Int) + 1).toNat - i = m + 1 by omega]
  simp [Addr.add]
  intro h0; exact h0.symm
theorem slice_low {q m : Nat} (h : m < 17) (w : World) :
    (Instr.sliceAt 76 (.pointer (some ⟨q, 0, none⟩)) none (some (.int .i64 (m : Nat))) none).run Try.prog w = .ok (.slice (some ⟨q, 0, none⟩) m 17) w := by
  rw [run_sliceAt_array_h w 76 ⟨q, 0, none⟩ undL2 .i64 (m : Nat) (by omega) (by rw [lenL2]; omega), run_size1, lenL2]
  simp [slicedAt, Addr.add]
set_option maxHeartbeats 8000000 in
theorem divide_long (x y : Nat) (hx : x < bp 16) (hy : y < bp 16) (hxy : y ≤ x) (hm2 : 2 ≤ lenL (limb y) 16) (w : World) :
    Calls Try.prog 63 #[wideV x, wideV y] w fun e w' => e = .returned (divV x y) ∧ Up w w' := by
  have HLX := hid (length_any x)
  have HLY := hid (length_any y)
  have hn16 := lenL_le (limb x) 16
  have hm16 := lenL_le (limb y) 16
  have hyb := sum_len hy
  have hxb := lt_bp_len hx
  have hyl := lt_bp_len hy
  have hyg := bp_le_of_len (limb y) 16 (by omega)
  have htop := lenL_top (limb y) 16 (by omega)
  rw [sumL_limb, Nat.mod_eq_of_lt hy] at hyg
  obtain ⟨n, hn⟩ : ∃ n, lenL (limb x) 16 = n := ⟨_, rfl⟩
  obtain ⟨m, hm⟩ : ∃ m, lenL (limb y) 16 = m := ⟨_, rfl⟩
  rw [hn] at HLX hn16 hxb
  rw [hm] at HLY hm16 hyl hyg htop hm2
  have hmn : m ≤ n := by
    rcases Nat.lt_or_ge (m - 1) n with h | h
    · omega
    · have := bp_mono h; omega
  obtain ⟨s, hs⟩ : ∃ s, s = 64 - Lib.bitLen (limb y (m - 1)) := ⟨_, rfl⟩
  obtain ⟨hP1, hP2, hs64⟩ := norm_part hyl (by omega) htop hs
  have hlz := fun w => Try.bits_LeadingZeros64 (limb y (m - 1) : Nat) w (by omega) (by have := limb_lt y (m - 1); omega)
  have hbl := (bitLen_spec (limb_lt y (m - 1)) htop).2.2.2
  rw [Int.toNat_natCast, show (64 : Int) - (Lib.bitLen (limb y (m - 1)) : Int) = (s : Nat) by omega] at hlz
  have HLZ := hid hlz
  have HL1 := hid (left_any x hx s hs64)
  have HL2 := hid (left_any y hy s hs64)
  have es : IntKind.u64.wrap (s : Int) = (s : Nat) := by rw [IntKind.wrap_u64]; omega
  have em1 : IntKind.i64.wrap ((m : Int) - 1) = ((m - 1 : Nat) : Int) := by rw [IntWalk.i64_in _ (by omega)]; omega
  obtain ⟨m1, hm1⟩ : ∃ m1, m - 1 = m1 := ⟨_, rfl⟩
  rw [hm1] at em1 HLZ htop
  have enm : IntKind.i64.wrap ((n : Int) - (m : Int)) = (n : Int) - (m : Int) := IntWalk.i64_in _ (by omega)
  have HP1 := hid hP1
  have HP2 := hid hP2
  have Hn := hid hxb
  have hy0 := hid (show 0 < y by have := bp_pos (m - 1); omega)
  have Hx := hid hx
  have Hy := hid hy
  have Hm1 := hid hm1
  have ltm : m1 < 16 := by omega
  clear hyb hyg hyl hxb htop hs hlz hbl hP1 hP2 hxy hx hy hn hm hm1
  unfold wideV at HLX HLY HL1 HL2
  unfold longV at HL1 HL2
  have HD := hid (show divV x y = divV x y from rfl)
  unfold wideV
  go_enter Try.func63, Try.ntmps63
  go_wp2
  refine wp_region_upS (S := (fun wq => Row wq w.heap.size 27 16 (limb x) ∧ Row wq (w.heap.size + 1) 27 16 (limb y) ∧ Row wq (w.heap.size + 1 + 1) 27 16 (fun _ => 0) ∧ Row wq (w.heap.size + 1 + 1 + 1) 27 16 (fun _ => 0) ∧ Below w.heap.size w wq)) (req := (fun _ => true)) (by kernel_rfl) (fun _ _ h hu => ⟨(h.1).up hu, (h.2.1).up hu, (h.2.2.1).up hu, (h.2.2.2.1).up hu, below_up (h.2.2.2.2) hu⟩) ⟨(by (repeat (first | assumption | ((with_reducible apply row_newc); (focus (first | rfl | (simp; done)))) | ((with_reducible apply row_newz); (focus (first | rfl | (simp; done)))) | (with_reducible apply row_same) | ((with_reducible apply row_else); (focus (first | (simp; done) | (simp; omega) | omega))) | (with_reducible apply row_alloc) | (with_reducible apply row_drew) | (with_reducible apply row_drewN) | ((with_reducible apply row_up); assumption)))), (by (repeat (first | assumption | ((with_reducible apply row_newc); (focus (first | rfl | (simp; done)))) | ((with_reducible apply row_newz); (focus (first | rfl | (simp; done)))) | (with_reducible apply row_same) | ((with_reducible apply row_else); (focus (first | (simp; done) | (simp; omega) | omega))) | (with_reducible apply row_alloc) | (with_reducible apply row_drew) | (with_reducible apply row_drewN) | ((with_reducible apply row_up); assumption)))), (by (repeat (first | assumption | ((with_reducible apply row_newc); (focus (first | rfl | (simp; done)))) | ((with_reducible apply row_newz); (focus (first | rfl | (simp; done)))) | (with_reducible apply row_same) | ((with_reducible apply row_else); (focus (first | (simp; done) | (simp; omega) | omega))) | (with_reducible apply row_alloc) | (with_reducible apply row_drew) | (with_reducible apply row_drewN) | ((with_reducible apply row_up); assumption)))), (by (repeat (first | assumption | ((with_reducible apply row_newc); (focus (first | rfl | (simp; done)))) | ((with_reducible apply row_newz); (focus (first | rfl | (simp; done)))) | (with_reducible apply row_same) | ((with_reducible apply row_else); (focus (first | (simp; done) | (simp; omega) | omega))) | (with_reducible apply row_alloc) | (with_reducible apply row_drew) | (with_reducible apply row_drewN) | ((with_reducible apply row_up); assumption)))), (by repeat (first | assumption | (with_reducible apply Up.of) | (with_reducible exact Below.refl _ _) | (with_reducible exact Up.refl _) | ((with_reducible apply bl_setRow); (focus (first | exact Nat.le_refl _ | (simp; done) | (simp; omega) | omega))) | (with_reducible apply below_drewN) | (with_reducible apply Below.drew) | ((with_reducible apply bl_alloc); (focus (first | exact Nat.le_refl _ | (simp; done) | (simp; omega) | omega))) | ((with_reducible apply bl_setCell); (focus (first | exact Nat.le_refl _ | (simp; done) | (simp; omega) | omega))) | ((with_reducible apply up_tr); assumption)))⟩ (fun wS hSS => ?_)
  have ⟨hS1, hS2, hS3, hS4, hSB⟩ := hSS
  refine wpAnyU_take (i := 0) (d := (some 15)) (v := _) rfl rfl (by kernel_rfl) (fun _ _ _ h => h) (fun _ _ h hu => ⟨(h.1).up hu, (h.2.1).up hu, (h.2.2.1).up hu, (h.2.2.2.1).up hu, below_up (h.2.2.2.2) hu⟩) hSS (Or.inl ⟨by rfl, fun w' hSw => yu_value (run_ld undW infoW _ rfl _ rfl hSw.1)⟩) ?_
  try simp only [Act.put, List.setIfInBounds_toArray, List.set_cons_zero, List.set_cons_succ]
  refine wpAnyU_take (i := 1) (d := (some 16)) (v := _) rfl rfl (by kernel_rfl) (fun _ _ _ h => h) (fun _ _ h hu => ⟨(h.1).up hu, (h.2.1).up hu, (h.2.2.1).up hu, (h.2.2.2.1).up hu, below_up (h.2.2.2.2) hu⟩) hSS (Or.inl ⟨by rfl, fun w' hSw => yu_call ?_ (HLX.out _)⟩) ?_
  · go_simp
  try simp only [Act.put, List.setIfInBounds_toArray, List.set_cons_zero, List.set_cons_succ]
  refine wpAnyU_take (i := 2) (d := (some 17)) (v := _) rfl rfl (by kernel_rfl) (fun _ _ _ h => h) (fun _ _ h hu => ⟨(h.1).up hu, (h.2.1).up hu, (h.2.2.1).up hu, (h.2.2.2.1).up hu, below_up (h.2.2.2.2) hu⟩) hSS (Or.inl ⟨by rfl, fun w' hSw => yu_value (run_ld undW infoW _ rfl _ rfl hSw.2.1)⟩) ?_
  try simp only [Act.put, List.setIfInBounds_toArray, List.set_cons_zero, List.set_cons_succ]
  refine wpAnyU_take (i := 3) (d := (some 18)) (v := _) rfl rfl (by kernel_rfl) (fun _ _ _ h => h) (fun _ _ h hu => ⟨(h.1).up hu, (h.2.1).up hu, (h.2.2.1).up hu, (h.2.2.2.1).up hu, below_up (h.2.2.2.2) hu⟩) hSS (Or.inl ⟨by rfl, fun w' hSw => yu_call ?_ (HLY.out _)⟩) ?_
  · go_simp
  try simp only [Act.put, List.setIfInBounds_toArray, List.set_cons_zero, List.set_cons_succ]
  refine wpAnyU_pure (i := 4) (d := (some 6)) (v := ?_) rfl rfl (by kernel_rfl) (fun _ _ _ h => h) (fun _ _ h hu => ⟨(h.1).up hu, (h.2.1).up hu, (h.2.2.1).up hu, (h.2.2.2.1).up hu, below_up (h.2.2.2.2) hu⟩) (Or.inl ⟨by rfl, fun w' _ => yu_value ?_⟩) ?_
  rotate_left
  · (go_simp; (try exact rfl))
  try simp only [Act.put, List.setIfInBounds_toArray, List.set_cons_zero, List.set_cons_succ]
  refine wpAnyU_pure (i := 5) (d := (some 7)) (v := ?_) rfl rfl (by kernel_rfl) (fun _ _ _ h => h) (fun _ _ h hu => ⟨(h.1).up hu, (h.2.1).up hu, (h.2.2.1).up hu, (h.2.2.2.1).up hu, below_up (h.2.2.2.2) hu⟩) (Or.inl ⟨by rfl, fun w' _ => yu_value ?_⟩) ?_
  rotate_left
  · (go_simp; (try exact rfl))
  try simp only [Act.put, List.setIfInBounds_toArray, List.set_cons_zero, List.set_cons_succ]
  refine wpAnyU_done (by kernel_rfl) (fun wF huE => ?_) _
  have gX := hS1.up huE
  have gY := hS2.up huE
  have gQ := hS3.up huE
  have gR := hS4.up huE
  have gB := below_up hSB huE
  clear hS1 hS2 hS3 hS4 hSB hSS huE
  have hct := gY.cell m1 ltm
  go_upto_region 3 with (first | (go_at_call 65; (with_reducible refine (HLZ.out _).mono ?_); rintro e w' ⟨rfl, rfl⟩))
  clear hct HLX HLY HLZ
  refine wp_region_upS (S := (fun wq => Row wq w.heap.size 27 16 (limb x) ∧ Row wq (w.heap.size + 1) 27 16 (limb y) ∧ Row wq (w.heap.size + 1 + 1) 27 16 (fun _ => 0) ∧ Row wq (w.heap.size + 1 + 1 + 1) 27 16 (fun _ => 0) ∧ Below w.heap.size w wq)) (req := (fun j => j != 8 && j != 9)) (by kernel_rfl) (fun _ _ h hu => ⟨(h.1).up hu, (h.2.1).up hu, (h.2.2.1).up hu, (h.2.2.2.1).up hu, below_up (h.2.2.2.2) hu⟩) ⟨(by (repeat (first | assumption | ((with_reducible apply row_newc); (focus (first | rfl | (simp; done)))) | ((with_reducible apply row_newz); (focus (first | rfl | (simp; done)))) | (with_reducible apply row_same) | ((with_reducible apply row_else); (focus (first | (simp; done) | (simp; omega) | omega))) | (with_reducible apply row_alloc) | (with_reducible apply row_drew) | (with_reducible apply row_drewN) | ((with_reducible apply row_up); assumption)))), (by (repeat (first | assumption | ((with_reducible apply row_newc); (focus (first | rfl | (simp; done)))) | ((with_reducible apply row_newz); (focus (first | rfl | (simp; done)))) | (with_reducible apply row_same) | ((with_reducible apply row_else); (focus (first | (simp; done) | (simp; omega) | omega))) | (with_reducible apply row_alloc) | (with_reducible apply row_drew) | (with_reducible apply row_drewN) | ((with_reducible apply row_up); assumption)))), (by (repeat (first | assumption | ((with_reducible apply row_newc); (focus (first | rfl | (simp; done)))) | ((with_reducible apply row_newz); (focus (first | rfl | (simp; done)))) | (with_reducible apply row_same) | ((with_reducible apply row_else); (focus (first | (simp; done) | (simp; omega) | omega))) | (with_reducible apply row_alloc) | (with_reducible apply row_drew) | (with_reducible apply row_drewN) | ((with_reducible apply row_up); assumption)))), (by (repeat (first | assumption | ((with_reducible apply row_newc); (focus (first | rfl | (simp; done)))) | ((with_reducible apply row_newz); (focus (first | rfl | (simp; done)))) | (with_reducible apply row_same) | ((with_reducible apply row_else); (focus (first | (simp; done) | (simp; omega) | omega))) | (with_reducible apply row_alloc) | (with_reducible apply row_drew) | (with_reducible apply row_drewN) | ((with_reducible apply row_up); assumption)))), (by repeat (first | assumption | (with_reducible apply Up.of) | (with_reducible exact Below.refl _ _) | (with_reducible exact Up.refl _) | ((with_reducible apply bl_setRow); (focus (first | exact Nat.le_refl _ | (simp; done) | (simp; omega) | omega))) | (with_reducible apply below_drewN) | (with_reducible apply Below.drew) | ((with_reducible apply bl_alloc); (focus (first | exact Nat.le_refl _ | (simp; done) | (simp; omega) | omega))) | ((with_reducible apply bl_setCell); (focus (first | exact Nat.le_refl _ | (simp; done) | (simp; omega) | omega))) | ((with_reducible apply up_tr); assumption)))⟩ (fun wS hSS => ?_)
  have ⟨hS1, hS2, hS3, hS4, hSB⟩ := hSS
  clear gX gY gQ gR gB
  refine wpAnyU_take (i := 0) (d := (some 25)) (v := _) rfl rfl (by kernel_rfl) (fun _ _ _ h => h) (fun _ _ h hu => ⟨(h.1).up hu, (h.2.1).up hu, (h.2.2.1).up hu, (h.2.2.2.1).up hu, below_up (h.2.2.2.2) hu⟩) hSS (Or.inl ⟨by rfl, fun w' hSw => yu_value (run_ld undW infoW _ rfl _ rfl hSw.1)⟩) ?_
  try simp only [Act.put, List.setIfInBounds_toArray, List.set_cons_zero, List.set_cons_succ]
  refine wpAnyU_pure (i := 1) (d := (some 26)) (v := ?_) rfl rfl (by kernel_rfl) (fun _ _ _ h => h) (fun _ _ h hu => ⟨(h.1).up hu, (h.2.1).up hu, (h.2.2.1).up hu, (h.2.2.2.1).up hu, below_up (h.2.2.2.2) hu⟩) (Or.inl ⟨by rfl, fun w' _ => yu_value ?_⟩) ?_
  rotate_left
  · (go_simp; (try exact rfl))
  try simp only [Act.put, List.setIfInBounds_toArray, List.set_cons_zero, List.set_cons_succ]
  refine wpAnyU_take (i := 2) (d := (some 27)) (v := _) rfl rfl (by kernel_rfl) (fun _ _ _ h => h) (fun _ _ h hu => ⟨(h.1).up hu, (h.2.1).up hu, (h.2.2.1).up hu, (h.2.2.2.1).up hu, below_up (h.2.2.2.2) hu⟩) hSS (Or.inl ⟨by rfl, fun w' hSw => yu_call ?_ (HL1.out _)⟩) ?_
  · go_simp
  try simp only [Act.put, List.setIfInBounds_toArray, List.set_cons_zero, List.set_cons_succ]
  refine wpAnyU_take (i := 3) (d := (some 28)) (v := _) rfl rfl (by kernel_rfl) (fun _ _ _ h => h) (fun _ _ h hu => ⟨(h.1).up hu, (h.2.1).up hu, (h.2.2.1).up hu, (h.2.2.2.1).up hu, below_up (h.2.2.2.2) hu⟩) hSS (Or.inl ⟨by rfl, fun w' hSw => yu_value (run_ld undW infoW _ rfl _ rfl hSw.2.1)⟩) ?_
  try simp only [Act.put, List.setIfInBounds_toArray, List.set_cons_zero, List.set_cons_succ]
  refine wpAnyU_pure (i := 4) (d := (some 29)) (v := ?_) rfl rfl (by kernel_rfl) (fun _ _ _ h => h) (fun _ _ h hu => ⟨(h.1).up hu, (h.2.1).up hu, (h.2.2.1).up hu, (h.2.2.2.1).up hu, below_up (h.2.2.2.2) hu⟩) (Or.inl ⟨by rfl, fun w' _ => yu_value ?_⟩) ?_
  rotate_left
  · (go_simp; (try exact rfl))
  try simp only [Act.put, List.setIfInBounds_toArray, List.set_cons_zero, List.set_cons_succ]
  refine wpAnyU_take (i := 5) (d := (some 30)) (v := _) rfl rfl (by kernel_rfl) (fun _ _ _ h => h) (fun _ _ h hu => ⟨(h.1).up hu, (h.2.1).up hu, (h.2.2.1).up hu, (h.2.2.2.1).up hu, below_up (h.2.2.2.2) hu⟩) hSS (Or.inl ⟨by rfl, fun w' hSw => yu_call ?_ (HL2.out _)⟩) ?_
  · go_simp
  try simp only [Act.put, List.setIfInBounds_toArray, List.set_cons_zero, List.set_cons_succ]
  refine wpAnyU_alloc2L (i := 6) (j := 7) (di := 9) (dj := 10) rfl rfl rfl rfl (by decide) rfl rfl rfl rfl (by kernel_rfl) (by kernel_rfl) (by kernel_rfl) (by decide) (fun _ _ h hu => ⟨(h.1).up hu, (h.2.1).up hu, (h.2.2.1).up hu, (h.2.2.2.1).up hu, below_up (h.2.2.2.2) hu⟩) fun w3 p q hw3 hp hq hpq hpl hql => ?_
  try simp only [Act.put, List.setIfInBounds_toArray, List.set_cons_zero, List.set_cons_succ]
  have l3 := hS3.lt
  have l4 := hS4.lt
  have lB := hSB.size
  refine wpAnyU_one (i := 8) rfl (by kernel_rfl) (by rfl) fun w4 hw4 => ?_
  refine wp_st_rowN infoL rfl _ _ rfl _ rfl rfl (hp.up hw4) ?_
  refine ⟨fun h => by simp at h, ?_⟩
  try simp only [Act.put, List.setIfInBounds_toArray, List.set_cons_zero, List.set_cons_succ]
  refine wpAnyU_one (i := 9) rfl (by kernel_rfl) (by rfl) fun w5 hw5 => ?_
  refine wp_st_rowN infoL rfl _ _ rfl _ rfl rfl (((hq.up hw4).row_other _ (Ne.symm hpq)).up hw5) ?_
  refine ⟨fun h => by simp at h, ?_⟩
  try simp only [Act.put, List.setIfInBounds_toArray, List.set_cons_zero, List.set_cons_succ]
  refine wpAnyU_done (by kernel_rfl) (fun wF huE => ?_) _
  have g3 := (((((hS3.up hw3).up hw4).row_other (cells 17 (limb (x * 2 ^ s))) (show w.heap.size + 1 + 1 ≠ p by omega)).up hw5).row_other (cells 17 (limb (y * 2 ^ s))) (show w.heap.size + 1 + 1 ≠ q by omega)).up huE
  have g4 := (((((hS4.up hw3).up hw4).row_other (cells 17 (limb (x * 2 ^ s))) (show w.heap.size + 1 + 1 + 1 ≠ p by omega)).up hw5).row_other (cells 17 (limb (y * 2 ^ s))) (show w.heap.size + 1 + 1 + 1 ≠ q by omega)).up huE
  have gp : Row wF p 76 17 (limb (x * 2 ^ s)) := ((((hp.up hw4).setRow _).up hw5).row_other (cells 17 (limb (y * 2 ^ s))) hpq).up huE
  have gq : Row wF q 76 17 (limb (y * 2 ^ s)) := ((((hq.up hw4).row_other (cells 17 (limb (x * 2 ^ s))) (Ne.symm hpq)).up hw5).setRow _).up huE
  have gB := below_up (below_setRow (below_up (below_setRow (below_up (below_up hSB hw3) hw4) (show w.heap.size ≤ p by omega) (cells 17 (limb (x * 2 ^ s)))) hw5) (show w.heap.size ≤ q by omega) (cells 17 (limb (y * 2 ^ s)))) huE
  have lp : w.heap.size + 1 + 1 + 1 < p := by omega
  have lq : w.heap.size + 1 + 1 + 1 < q := by omega
  clear hS1 hS2 hS3 hS4 hSB hSS hw3 hw4 hw5 huE hp hq hpl hql l3 l4 lB HL1 HL2
  have l1 := gp.lt
  have l2 := gq.lt
  have l5 := gB.size
  go_upto_block 0 with (fail)
  try simp only [Act.put]
  refine wp_worldD (fun wd => Row wd (w.heap.size + 1 + 1) 27 16 (fun _ => 0) ∧ Row wd (w.heap.size + 1 + 1 + 1) 27 16 (fun _ => 0) ∧ Row wd p 76 17 (limb (x * 2 ^ s)) ∧ Row wd q 76 17 (limb (y * 2 ^ s)) ∧ Row wd wF.heap.size 27 16 (fun _ => 0) ∧ Below w.heap.size w wd) ⟨(by (repeat (first | assumption | ((with_reducible apply row_newc); (focus (first | rfl | (simp; done)))) | ((with_reducible apply row_newz); (focus (first | rfl | (simp; done)))) | (with_reducible apply row_same) | ((with_reducible apply row_else); (focus (first | (simp; done) | (simp; omega) | omega))) | (with_reducible apply row_alloc) | (with_reducible apply row_drew) | (with_reducible apply row_drewN) | ((with_reducible apply row_up); assumption)))), (by (repeat (first | assumption | ((with_reducible apply row_newc); (focus (first | rfl | (simp; done)))) | ((with_reducible apply row_newz); (focus (first | rfl | (simp; done)))) | (with_reducible apply row_same) | ((with_reducible apply row_else); (focus (first | (simp; done) | (simp; omega) | omega))) | (with_reducible apply row_alloc) | (with_reducible apply row_drew) | (with_reducible apply row_drewN) | ((with_reducible apply row_up); assumption)))), (by (repeat (first | assumption | ((with_reducible apply row_newc); (focus (first | rfl | (simp; done)))) | ((with_reducible apply row_newz); (focus (first | rfl | (simp; done)))) | (with_reducible apply row_same) | ((with_reducible apply row_else); (focus (first | (simp; done) | (simp; omega) | omega))) | (with_reducible apply row_alloc) | (with_reducible apply row_drew) | (with_reducible apply row_drewN) | ((with_reducible apply row_up); assumption)))), (by (repeat (first | assumption | ((with_reducible apply row_newc); (focus (first | rfl | (simp; done)))) | ((with_reducible apply row_newz); (focus (first | rfl | (simp; done)))) | (with_reducible apply row_same) | ((with_reducible apply row_else); (focus (first | (simp; done) | (simp; omega) | omega))) | (with_reducible apply row_alloc) | (with_reducible apply row_drew) | (with_reducible apply row_drewN) | ((with_reducible apply row_up); assumption)))), (by (repeat (first | assumption | ((with_reducible apply row_newc); (focus (first | rfl | (simp; done)))) | ((with_reducible apply row_newz); (focus (first | rfl | (simp; done)))) | (with_reducible apply row_same) | ((with_reducible apply row_else); (focus (first | (simp; done) | (simp; omega) | omega))) | (with_reducible apply row_alloc) | (with_reducible apply row_drew) | (with_reducible apply row_drewN) | ((with_reducible apply row_up); assumption)))), (by repeat (first | assumption | (with_reducible apply Up.of) | (with_reducible exact Below.refl _ _) | (with_reducible exact Up.refl _) | ((with_reducible apply bl_setRow); (focus (first | exact Nat.le_refl _ | (simp; done) | (simp; omega) | omega))) | (with_reducible apply below_drewN) | (with_reducible apply Below.drew) | ((with_reducible apply bl_alloc); (focus (first | exact Nat.le_refl _ | (simp; done) | (simp; omega) | omega))) | ((with_reducible apply bl_setCell); (focus (first | exact Nat.le_refl _ | (simp; done) | (simp; omega) | omega))) | ((with_reducible apply up_tr); assumption)))⟩ (fun w0 hD => ?_)
  clear g3 g4 gp gq gB
  obtain ⟨g3, g4, gp, gq, gT, gB⟩ := hD
  have lt : p < wF.heap.size ∧ q < wF.heap.size := ⟨l1, l2⟩
  clear l1 l2 l5
  generalize wF.heap.size = t at *
  clear enm em1 es
  obtain ⟨P, hP⟩ : ∃ P, y * 2 ^ s = P := ⟨_, rfl⟩
  obtain ⟨X2, hX2⟩ : ∃ X2, x * 2 ^ s = X2 := ⟨_, rfl⟩
  have HP := hid hP
  have HX2 := hid hX2
  rw [hP] at HP1 HP2 gq
  rw [hX2] at gp
  clear hP hX2
  have hPm : sumL (limb P) m = P := by rw [sumL_limb, Nat.mod_eq_of_lt HP1.out]
  have HPm := hid hPm
  have hP0 : 0 < P := by have := HP2.out; have := bp_pos (m - 1); omega
  have HP0 := hid hP0
  clear hPm hP0
  go_wp2_with fail
  go_loopw [12] (fun ti wr => ∃ (k : Nat) (S T : Nat → Nat), k ≤ n - m + 1 ∧ ti = .int .i64 ((k : Int) - 1) ∧ (∀ j, j < 17 → S j < 18446744073709551616) ∧ (∀ j, j < 16 → T j < 18446744073709551616) ∧ (∀ j, j < k → T j = 0) ∧ X2 = sumL T 16 * P + sumL S 17 ∧ sumL S 17 < P * bp k ∧
      Row wr (w.heap.size + 1 + 1) 27 16 (fun _ => 0) ∧ Row wr (w.heap.size + 1 + 1 + 1) 27 16 (fun _ => 0) ∧ Row wr p 76 17 S ∧ Row wr q 76 17 (limb P) ∧ Row wr t 27 16 T ∧ Below w.heap.size w wr)
    (fun ti _ => (intOf ti + 1).toNat)
  case atStart =>
    refine ⟨n - m + 1, limb X2, fun _ => 0, Nat.le_refl _, ?_, fun j _ => limb_lt _ j, fun _ _ => by simp, fun _ _ => rfl, ?_, ?_, g3, g4, gp, gq, gT, gB⟩
    · congr 1; omega
    · have h1 := Hn.out
      have h2 := HX2.out
      have h3 := bp_mono hn16
      have h4 := bp_succ 16
      have h5 : 2 ^ s ≤ 18446744073709551616 := Nat.pow_le_pow_right (n := 2) (by decide) (show s ≤ 64 by omega)
      have h6 : x * 2 ^ s < bp 16 * 18446744073709551616 := Nat.mul_lt_mul_of_lt_of_le (by omega) h5 (by decide)
      rw [sumL_zeros, sumL_limb, Nat.mod_eq_of_lt (by rw [h4]; omega)]
      omega
    · have h1 := Hn.out
      have h2 := HX2.out
      have h7 := HP2.out
      have h5 : 2 ^ s ≤ 9223372036854775808 := Nat.pow_le_pow_right (n := 2) (by decide) (show s ≤ 63 by omega)
      have h6 : x * 2 ^ s < bp n * 9223372036854775808 := Nat.mul_lt_mul_of_lt_of_le h1 h5 (by decide)
      have h8 : 9223372036854775808 * bp (m - 1) * bp (n - m + 1) ≤ P * bp (n - m + 1) := Nat.mul_le_mul_right _ h7
      rw [Nat.mul_assoc, ← bp_add, show m - 1 + (n - m + 1) = n by omega] at h8
      have h9 := Nat.mod_le X2 (bp 17)
      rw [sumL_limb]
      omega
  case round =>
    clear g3 g4 gp gq gT gB
    obtain ⟨k, S, T, hk, rfl, hS, hT, hT0, hX, hR, g3, g4, gp, gq, gT, gB⟩ := hrel
    have HS := hid hS
    have HT := hid hT
    have HT0 := hid hT0
    have HX := hid hX
    have HR := hid hR
    clear hS hT hT0 hX hR
    rcases Nat.eq_zero_or_pos k with hk0 | hk0
    · subst hk0
      have hE : sumL T 16 = x / y ∧ sumL S 17 / 2 ^ s % bp 16 = x % y := by
        have h1 := HX.out
        have h2 := HR.out
        rw [bp_zero, Nat.mul_one] at h2
        rw [← HX2.out, ← HP.out] at h1
        rw [← HP.out] at h2
        obtain ⟨h3, h4⟩ := long_end hy0.out h1 h2
        refine ⟨h3, ?_⟩
        rw [h4]
        exact Nat.mod_eq_of_lt (Nat.lt_of_le_of_lt (Nat.mod_le _ _) Hx.out)
      have hTl : ∀ j, j < 16 → T j = limb (x / y) j := fun j hj => by rw [← hE.1]; exact (limb_sumL HT.out hj).symm
      have gT2 : Row wr t 27 16 (limb (x / y)) := gT.congr hTl
      have hRt := fun w => right_any S HS.out s hs64 w
      rw [hE.2] at hRt
      unfold longV wideV at hRt
      have HRt := hid hRt
      clear hE hTl hRt gT
      go_wp2_with fail
      refine wp_region_upS (S := (fun wq => Row wq (w.heap.size + 1 + 1) 27 16 (fun _ => 0) ∧ Row wq (w.heap.size + 1 + 1 + 1) 27 16 (fun _ => 0) ∧ Row wq p 76 17 S ∧ Row wq t 27 16 (limb (x / y)) ∧ Below w.heap.size w wq)) (req := (fun j => j != 4 && j != 5)) (by kernel_rfl) (fun _ _ h hu => ⟨(h.1).up hu, (h.2.1).up hu, (h.2.2.1).up hu, (h.2.2.2.1).up hu, below_up (h.2.2.2.2) hu⟩) ⟨(by (repeat (first | assumption | ((with_reducible apply row_newc); (focus (first | rfl | (simp; done)))) | ((with_reducible apply row_newz); (focus (first | rfl | (simp; done)))) | (with_reducible apply row_same) | ((with_reducible apply row_else); (focus (first | (simp; done) | (simp; omega) | omega))) | (with_reducible apply row_alloc) | (with_reducible apply row_drew) | (with_reducible apply row_drewN) | ((with_reducible apply row_up); assumption)))), (by (repeat (first | assumption | ((with_reducible apply row_newc); (focus (first | rfl | (simp; done)))) | ((with_reducible apply row_newz); (focus (first | rfl | (simp; done)))) | (with_reducible apply row_same) | ((with_reducible apply row_else); (focus (first | (simp; done) | (simp; omega) | omega))) | (with_reducible apply row_alloc) | (with_reducible apply row_drew) | (with_reducible apply row_drewN) | ((with_reducible apply row_up); assumption)))), (by (repeat (first | assumption | ((with_reducible apply row_newc); (focus (first | rfl | (simp; done)))) | ((with_reducible apply row_newz); (focus (first | rfl | (simp; done)))) | (with_reducible apply row_same) | ((with_reducible apply row_else); (focus (first | (simp; done) | (simp; omega) | omega))) | (with_reducible apply row_alloc) | (with_reducible apply row_drew) | (with_reducible apply row_drewN) | ((with_reducible apply row_up); assumption)))), (by (repeat (first | assumption | ((with_reducible apply row_newc); (focus (first | rfl | (simp; done)))) | ((with_reducible apply row_newz); (focus (first | rfl | (simp; done)))) | (with_reducible apply row_same) | ((with_reducible apply row_else); (focus (first | (simp; done) | (simp; omega) | omega))) | (with_reducible apply row_alloc) | (with_reducible apply row_drew) | (with_reducible apply row_drewN) | ((with_reducible apply row_up); assumption)))), (by repeat (first | assumption | (with_reducible apply Up.of) | (with_reducible exact Below.refl _ _) | (with_reducible exact Up.refl _) | ((with_reducible apply bl_setRow); (focus (first | exact Nat.le_refl _ | (simp; done) | (simp; omega) | omega))) | (with_reducible apply below_drewN) | (with_reducible apply Below.drew) | ((with_reducible apply bl_alloc); (focus (first | exact Nat.le_refl _ | (simp; done) | (simp; omega) | omega))) | ((with_reducible apply bl_setCell); (focus (first | exact Nat.le_refl _ | (simp; done) | (simp; omega) | omega))) | ((with_reducible apply up_tr); assumption)))⟩ (fun wS hSS => ?_)
      have ⟨hS1, hS2, hS3, hS4, hSB⟩ := hSS
      clear g3 g4 gp gq gT2 gB
      refine wpAnyU_take (i := 0) (d := (some 80)) (v := _) rfl rfl (by kernel_rfl) (fun _ _ _ h => h) (fun _ _ h hu => ⟨(h.1).up hu, (h.2.1).up hu, (h.2.2.1).up hu, (h.2.2.2.1).up hu, below_up (h.2.2.2.2) hu⟩) hSS (Or.inl ⟨by rfl, fun w' hSw => yu_value (run_ld undW infoW _ rfl _ rfl hSw.2.2.2.1)⟩) ?_
      try simp only [Act.put, List.setIfInBounds_toArray, List.set_cons_zero, List.set_cons_succ]
      refine wpAnyU_take (i := 1) (d := (some 81)) (v := _) rfl rfl (by kernel_rfl) (fun _ _ _ h => h) (fun _ _ h hu => ⟨(h.1).up hu, (h.2.1).up hu, (h.2.2.1).up hu, (h.2.2.2.1).up hu, below_up (h.2.2.2.2) hu⟩) hSS (Or.inl ⟨by rfl, fun w' hSw => yu_value (run_ld undL infoL _ rfl _ rfl hSw.2.2.1)⟩) ?_
      try simp only [Act.put, List.setIfInBounds_toArray, List.set_cons_zero, List.set_cons_succ]
      refine wpAnyU_pure (i := 2) (d := (some 82)) (v := ?_) rfl rfl (by kernel_rfl) (fun _ _ _ h => h) (fun _ _ h hu => ⟨(h.1).up hu, (h.2.1).up hu, (h.2.2.1).up hu, (h.2.2.2.1).up hu, below_up (h.2.2.2.2) hu⟩) (Or.inl ⟨by rfl, fun w' _ => yu_value ?_⟩) ?_
      rotate_left
      · (go_simp; (try exact rfl))
      try simp only [Act.put, List.setIfInBounds_toArray, List.set_cons_zero, List.set_cons_succ]
      refine wpAnyU_take (i := 3) (d := (some 83)) (v := _) rfl rfl (by kernel_rfl) (fun _ _ _ h => h) (fun _ _ h hu => ⟨(h.1).up hu, (h.2.1).up hu, (h.2.2.1).up hu, (h.2.2.2.1).up hu, below_up (h.2.2.2.2) hu⟩) hSS (Or.inl ⟨by rfl, fun w' hSw => yu_call ?_ (HRt.out _)⟩) ?_
      · go_simp
      try simp only [Act.put, List.setIfInBounds_toArray, List.set_cons_zero, List.set_cons_succ]
      refine wpAnyU_one (i := 4) rfl (by kernel_rfl) (by rfl) fun w4 hw4 => ?_
      refine wp_st_rowN infoW rfl _ _ rfl _ rfl rfl ((hS1.up hw4)) ?_
      refine ⟨fun h => by simp at h, ?_⟩
      try simp only [Act.put, List.setIfInBounds_toArray, List.set_cons_zero, List.set_cons_succ]
      refine wpAnyU_one (i := 5) rfl (by kernel_rfl) (by rfl) fun w5 hw5 => ?_
      refine wp_st_rowN infoW rfl _ _ rfl _ rfl rfl ((((hS2.up hw4).row_other _ (show w.heap.size + 1 + 1 + 1 ≠ w.heap.size + 1 + 1 by omega)).up hw5)) ?_
      refine ⟨fun h => by simp at h, ?_⟩
      try simp only [Act.put, List.setIfInBounds_toArray, List.set_cons_zero, List.set_cons_succ]
      refine wpAnyU_done (by kernel_rfl) (fun wF huE => ?_) _
      have ga : Row wF (w.heap.size + 1 + 1) 27 16 (limb (x / y)) := ((((hS1.up hw4).setRow _).up hw5).row_other (cells 16 (limb (x % y))) (show w.heap.size + 1 + 1 ≠ w.heap.size + 1 + 1 + 1 by omega)).up huE
      have gb : Row wF (w.heap.size + 1 + 1 + 1) 27 16 (limb (x % y)) := ((((hS2.up hw4).row_other (cells 16 (limb (x / y))) (show w.heap.size + 1 + 1 + 1 ≠ w.heap.size + 1 + 1 by omega)).up hw5).setRow _).up huE
      have gB := below_up (below_setRow (below_up (below_setRow (below_up hSB hw4) (show w.heap.size ≤ w.heap.size + 1 + 1 by omega) (cells 16 (limb (x / y)))) hw5) (show w.heap.size ≤ w.heap.size + 1 + 1 + 1 by omega) (cells 16 (limb (x % y)))) huE
      clear hS1 hS2 hS3 hS4 hSB hSS hw4 hw5 huE
      go_wp2_with fail
      exact bodyPost_ret (resCC rfl undW infoW _ _ _ rfl rfl ga gb) rfl ⟨rfl, gB⟩
    · obtain ⟨i, rfl⟩ : ∃ i, k = i + 1 := ⟨k - 1, by omega⟩
      rw [show ((i + 1 : Nat) : Int) - 1 = (i : Nat) by omega]
      have him : i + m < 17 := by omega
      have hm1 : m = m1 + 1 := by have := Hm1.out; omega
      have HM := hid hm1
      have him1 : i + m1 < 17 := by omega
      have e1 : IntKind.i64.wrap ((i : Int) + (m : Int)) = (i : Int) + (m : Int) := IntWalk.i64_in _ (by omega)
      have e2 : IntKind.i64.wrap ((i : Int) + (m : Int) - 1) = (i : Int) + (m1 : Int) := by rw [IntWalk.i64_in _ (by omega)]; omega
      have e3 : IntKind.i64.wrap ((m : Int) - 1) = (m1 : Int) := by rw [IntWalk.i64_in _ (by omega)]; omega
      have e4 : ((i : Int) + (m : Int)).toNat = i + m := by omega
      have e5 : ((i : Int) + (m1 : Int)).toNat = i + m1 := by omega
      have j1 : (i : Int) + (m : Int) < 17 := by omega
      have j2 : (0 : Int) ≤ (i : Int) + (m : Int) := by omega
      have j3 : (i : Int) + (m1 : Int) < 17 := by omega
      have j4 : (0 : Int) ≤ (i : Int) + (m1 : Int) := by omega
      have j5 : (m1 : Int) < 17 := by omega
      have e6 : IntKind.i64.wrap ((i : Int) + (m : Int) + 1) = (i : Int) + (m : Int) + 1 := IntWalk.i64_in _ (by omega)
      have hgs := fun w => guess_any (S (i + m)) (S (i + m1)) (limb P m1) (HS.out _ him) (HS.out _ him1) (limb_lt _ _) w
      have hgl := guess_lt (h := S (i + m)) (y := limb P m1) (HS.out _ him1)
      obtain ⟨g, hg⟩ : ∃ g, guessN (S (i + m)) (S (i + m1)) (limb P m1) = g := ⟨_, rfl⟩
      rw [hg] at hgs hgl
      have HG := hid hgs
      have Hg := hid hg
      have HGL := hid hgl
      clear hgs hg hgl hm1
      have c1 := gp.cell (i + m) him
      have c2 := gp.cell (i + m1) him1
      have c3 := gq.cell m1 (by omega)
      go_wp2_with fail
      refine wp_region_upS (S := (fun wq => Row wq (w.heap.size + 1 + 1) 27 16 (fun _ => 0) ∧ Row wq (w.heap.size + 1 + 1 + 1) 27 16 (fun _ => 0) ∧ Row wq p 76 17 S ∧ Row wq q 76 17 (limb P) ∧ Row wq t 27 16 T ∧ wq.cell? ⟨p, i + m, none⟩ = some (.int .u64 (S (i + m) : Nat)) ∧ wq.cell? ⟨p, i + m1, none⟩ = some (.int .u64 (S (i + m1) : Nat)) ∧ wq.cell? ⟨q, m1, none⟩ = some (.int .u64 (limb P m1 : Nat)) ∧ Below w.heap.size w wq)) (req := (fun _ => true)) (by kernel_rfl) (fun _ _ h hu => ⟨(h.1).up hu, (h.2.1).up hu, (h.2.2.1).up hu, (h.2.2.2.1).up hu, (h.2.2.2.2.1).up hu, hu.cell (h.2.2.2.2.2.1), hu.cell (h.2.2.2.2.2.2.1), hu.cell (h.2.2.2.2.2.2.2.1), below_up (h.2.2.2.2.2.2.2.2) hu⟩) ⟨(by (repeat (first | assumption | ((with_reducible apply row_newc); (focus (first | rfl | (simp; done)))) | ((with_reducible apply row_newz); (focus (first | rfl | (simp; done)))) | (with_reducible apply row_same) | ((with_reducible apply row_else); (focus (first | (simp; done) | (simp; omega) | omega))) | (with_reducible apply row_alloc) | (with_reducible apply row_drew) | (with_reducible apply row_drewN) | ((with_reducible apply row_up); assumption)))), (by (repeat (first | assumption | ((with_reducible apply row_newc); (focus (first | rfl | (simp; done)))) | ((with_reducible apply row_newz); (focus (first | rfl | (simp; done)))) | (with_reducible apply row_same) | ((with_reducible apply row_else); (focus (first | (simp; done) | (simp; omega) | omega))) | (with_reducible apply row_alloc) | (with_reducible apply row_drew) | (with_reducible apply row_drewN) | ((with_reducible apply row_up); assumption)))), (by (repeat (first | assumption | ((with_reducible apply row_newc); (focus (first | rfl | (simp; done)))) | ((with_reducible apply row_newz); (focus (first | rfl | (simp; done)))) | (with_reducible apply row_same) | ((with_reducible apply row_else); (focus (first | (simp; done) | (simp; omega) | omega))) | (with_reducible apply row_alloc) | (with_reducible apply row_drew) | (with_reducible apply row_drewN) | ((with_reducible apply row_up); assumption)))), (by (repeat (first | assumption | ((with_reducible apply row_newc); (focus (first | rfl | (simp; done)))) | ((with_reducible apply row_newz); (focus (first | rfl | (simp; done)))) | (with_reducible apply row_same) | ((with_reducible apply row_else); (focus (first | (simp; done) | (simp; omega) | omega))) | (with_reducible apply row_alloc) | (with_reducible apply row_drew) | (with_reducible apply row_drewN) | ((with_reducible apply row_up); assumption)))), (by (repeat (first | assumption | ((with_reducible apply row_newc); (focus (first | rfl | (simp; done)))) | ((with_reducible apply row_newz); (focus (first | rfl | (simp; done)))) | (with_reducible apply row_same) | ((with_reducible apply row_else); (focus (first | (simp; done) | (simp; omega) | omega))) | (with_reducible apply row_alloc) | (with_reducible apply row_drew) | (with_reducible apply row_drewN) | ((with_reducible apply row_up); assumption)))), (by first | assumption | (apply Blk.cell; (focus (repeat (first | assumption | ((with_reducible apply blk_new); (focus (first | rfl | (simp; done)))) | (with_reducible apply blk_alloc) | (with_reducible apply blk_drew) | (with_reducible apply blk_drewN) | ((with_reducible apply blk_up); assumption) | (with_reducible apply blk_same) | ((with_reducible apply blk_else); (focus (first | (simp; done) | (simp; omega) | omega)))))); exact rfl)), (by first | assumption | (apply Blk.cell; (focus (repeat (first | assumption | ((with_reducible apply blk_new); (focus (first | rfl | (simp; done)))) | (with_reducible apply blk_alloc) | (with_reducible apply blk_drew) | (with_reducible apply blk_drewN) | ((with_reducible apply blk_up); assumption) | (with_reducible apply blk_same) | ((with_reducible apply blk_else); (focus (first | (simp; done) | (simp; omega) | omega)))))); exact rfl)), (by first | assumption | (apply Blk.cell; (focus (repeat (first | assumption | ((with_reducible apply blk_new); (focus (first | rfl | (simp; done)))) | (with_reducible apply blk_alloc) | (with_reducible apply blk_drew) | (with_reducible apply blk_drewN) | ((with_reducible apply blk_up); assumption) | (with_reducible apply blk_same) | ((with_reducible apply blk_else); (focus (first | (simp; done) | (simp; omega) | omega)))))); exact rfl)), (by repeat (first | assumption | (with_reducible apply Up.of) | (with_reducible exact Below.refl _ _) | (with_reducible exact Up.refl _) | ((with_reducible apply bl_setRow); (focus (first | exact Nat.le_refl _ | (simp; done) | (simp; omega) | omega))) | (with_reducible apply below_drewN) | (with_reducible apply Below.drew) | ((with_reducible apply bl_alloc); (focus (first | exact Nat.le_refl _ | (simp; done) | (simp; omega) | omega))) | ((with_reducible apply bl_setCell); (focus (first | exact Nat.le_refl _ | (simp; done) | (simp; omega) | omega))) | ((with_reducible apply up_tr); assumption)))⟩ (fun wS hSS => ?_)
      have ⟨hS1, hS2, hS3, hS4, hS5, hS6, hS7, hS8, hSB⟩ := hSS
      clear g3 g4 gp gq gT gB c1 c2 c3
      refine wpAnyU_pure (i := 0) (d := (some 38)) (v := ?_) rfl rfl (by kernel_rfl) (fun _ _ _ h => h) (fun _ _ h hu => ⟨(h.1).up hu, (h.2.1).up hu, (h.2.2.1).up hu, (h.2.2.2.1).up hu, (h.2.2.2.2.1).up hu, hu.cell (h.2.2.2.2.2.1), hu.cell (h.2.2.2.2.2.2.1), hu.cell (h.2.2.2.2.2.2.2.1), below_up (h.2.2.2.2.2.2.2.2) hu⟩) (Or.inl ⟨by rfl, fun w' _ => yu_value ?_⟩) ?_
      rotate_left
      · (go_simp; (try exact rfl))
      try simp only [Act.put, List.setIfInBounds_toArray, List.set_cons_zero, List.set_cons_succ]
      refine wpAnyU_pure (i := 1) (d := (some 39)) (v := ?_) rfl rfl (by kernel_rfl) (fun _ _ _ h => h) (fun _ _ h hu => ⟨(h.1).up hu, (h.2.1).up hu, (h.2.2.1).up hu, (h.2.2.2.1).up hu, (h.2.2.2.2.1).up hu, hu.cell (h.2.2.2.2.2.1), hu.cell (h.2.2.2.2.2.2.1), hu.cell (h.2.2.2.2.2.2.2.1), below_up (h.2.2.2.2.2.2.2.2) hu⟩) (Or.inl ⟨by rfl, fun w' _ => yu_value ?_⟩) ?_
      rotate_left
      · (go_simp; (try exact rfl))
      try simp only [Act.put, List.setIfInBounds_toArray, List.set_cons_zero, List.set_cons_succ]
      refine wpAnyU_pure (i := 2) (d := (some 40)) (v := ?_) rfl rfl (by kernel_rfl) (fun _ _ _ h => h) (fun _ _ h hu => ⟨(h.1).up hu, (h.2.1).up hu, (h.2.2.1).up hu, (h.2.2.2.1).up hu, (h.2.2.2.2.1).up hu, hu.cell (h.2.2.2.2.2.1), hu.cell (h.2.2.2.2.2.2.1), hu.cell (h.2.2.2.2.2.2.2.1), below_up (h.2.2.2.2.2.2.2.2) hu⟩) (Or.inl ⟨by rfl, fun w' _ => yu_value ?_⟩) ?_
      rotate_left
      · (go_simp; (try exact rfl))
      try simp only [Act.put, List.setIfInBounds_toArray, List.set_cons_zero, List.set_cons_succ]
      refine wpAnyU_pure (i := 3) (d := (some 41)) (v := ?_) rfl rfl (by kernel_rfl) (fun _ _ _ h => h) (fun _ _ h hu => ⟨(h.1).up hu, (h.2.1).up hu, (h.2.2.1).up hu, (h.2.2.2.1).up hu, (h.2.2.2.2.1).up hu, hu.cell (h.2.2.2.2.2.1), hu.cell (h.2.2.2.2.2.2.1), hu.cell (h.2.2.2.2.2.2.2.1), below_up (h.2.2.2.2.2.2.2.2) hu⟩) (Or.inl ⟨by rfl, fun w' _ => yu_value ?_⟩) ?_
      rotate_left
      · (go_simp; (try exact rfl))
      try simp only [Act.put, List.setIfInBounds_toArray, List.set_cons_zero, List.set_cons_succ]
      refine wpAnyU_take (i := 4) (d := (some 42)) (v := ?_) rfl rfl (by kernel_rfl) (fun _ _ _ h => h) (fun _ _ h hu => ⟨(h.1).up hu, (h.2.1).up hu, (h.2.2.1).up hu, (h.2.2.2.1).up hu, (h.2.2.2.2.1).up hu, hu.cell (h.2.2.2.2.2.1), hu.cell (h.2.2.2.2.2.2.1), hu.cell (h.2.2.2.2.2.2.2.1), below_up (h.2.2.2.2.2.2.2.2) hu⟩) hSS (Or.inl ⟨by rfl, fun w' hSw => yu_value ?_⟩) ?_
      rotate_left
      · ((try dsimp only at hSw); (try obtain ⟨_, _, _, _, _, _, _, _, _⟩ := hSw); go_simp; (try exact rfl))
      try simp only [Act.put, List.setIfInBounds_toArray, List.set_cons_zero, List.set_cons_succ]
      refine wpAnyU_pure (i := 5) (d := (some 43)) (v := ?_) rfl rfl (by kernel_rfl) (fun _ _ _ h => h) (fun _ _ h hu => ⟨(h.1).up hu, (h.2.1).up hu, (h.2.2.1).up hu, (h.2.2.2.1).up hu, (h.2.2.2.2.1).up hu, hu.cell (h.2.2.2.2.2.1), hu.cell (h.2.2.2.2.2.2.1), hu.cell (h.2.2.2.2.2.2.2.1), below_up (h.2.2.2.2.2.2.2.2) hu⟩) (Or.inl ⟨by rfl, fun w' _ => yu_value ?_⟩) ?_
      rotate_left
      · (go_simp; (try exact rfl))
      try simp only [Act.put, List.setIfInBounds_toArray, List.set_cons_zero, List.set_cons_succ]
      refine wpAnyU_pure (i := 6) (d := (some 44)) (v := ?_) rfl rfl (by kernel_rfl) (fun _ _ _ h => h) (fun _ _ h hu => ⟨(h.1).up hu, (h.2.1).up hu, (h.2.2.1).up hu, (h.2.2.2.1).up hu, (h.2.2.2.2.1).up hu, hu.cell (h.2.2.2.2.2.1), hu.cell (h.2.2.2.2.2.2.1), hu.cell (h.2.2.2.2.2.2.2.1), below_up (h.2.2.2.2.2.2.2.2) hu⟩) (Or.inl ⟨by rfl, fun w' _ => yu_value ?_⟩) ?_
      rotate_left
      · (go_simp; (try exact rfl))
      try simp only [Act.put, List.setIfInBounds_toArray, List.set_cons_zero, List.set_cons_succ]
      refine wpAnyU_pure (i := 7) (d := (some 45)) (v := ?_) rfl rfl (by kernel_rfl) (fun _ _ _ h => h) (fun _ _ h hu => ⟨(h.1).up hu, (h.2.1).up hu, (h.2.2.1).up hu, (h.2.2.2.1).up hu, (h.2.2.2.2.1).up hu, hu.cell (h.2.2.2.2.2.1), hu.cell (h.2.2.2.2.2.2.1), hu.cell (h.2.2.2.2.2.2.2.1), below_up (h.2.2.2.2.2.2.2.2) hu⟩) (Or.inl ⟨by rfl, fun w' _ => yu_value ?_⟩) ?_
      rotate_left
      · (go_simp; (try exact rfl))
      try simp only [Act.put, List.setIfInBounds_toArray, List.set_cons_zero, List.set_cons_succ]
      refine wpAnyU_pure (i := 8) (d := (some 46)) (v := ?_) rfl rfl (by kernel_rfl) (fun _ _ _ h => h) (fun _ _ h hu => ⟨(h.1).up hu, (h.2.1).up hu, (h.2.2.1).up hu, (h.2.2.2.1).up hu, (h.2.2.2.2.1).up hu, hu.cell (h.2.2.2.2.2.1), hu.cell (h.2.2.2.2.2.2.1), hu.cell (h.2.2.2.2.2.2.2.1), below_up (h.2.2.2.2.2.2.2.2) hu⟩) (Or.inl ⟨by rfl, fun w' _ => yu_value ?_⟩) ?_
      rotate_left
      · (go_simp; (try exact rfl))
      try simp only [Act.put, List.setIfInBounds_toArray, List.set_cons_zero, List.set_cons_succ]
      refine wpAnyU_pure (i := 9) (d := (some 47)) (v := ?_) rfl rfl (by kernel_rfl) (fun _ _ _ h => h) (fun _ _ h hu => ⟨(h.1).up hu, (h.2.1).up hu, (h.2.2.1).up hu, (h.2.2.2.1).up hu, (h.2.2.2.2.1).up hu, hu.cell (h.2.2.2.2.2.1), hu.cell (h.2.2.2.2.2.2.1), hu.cell (h.2.2.2.2.2.2.2.1), below_up (h.2.2.2.2.2.2.2.2) hu⟩) (Or.inl ⟨by rfl, fun w' _ => yu_value ?_⟩) ?_
      rotate_left
      · (go_simp; (try exact rfl))
      try simp only [Act.put, List.setIfInBounds_toArray, List.set_cons_zero, List.set_cons_succ]
      refine wpAnyU_take (i := 10) (d := (some 48)) (v := ?_) rfl rfl (by kernel_rfl) (fun _ _ _ h => h) (fun _ _ h hu => ⟨(h.1).up hu, (h.2.1).up hu, (h.2.2.1).up hu, (h.2.2.2.1).up hu, (h.2.2.2.2.1).up hu, hu.cell (h.2.2.2.2.2.1), hu.cell (h.2.2.2.2.2.2.1), hu.cell (h.2.2.2.2.2.2.2.1), below_up (h.2.2.2.2.2.2.2.2) hu⟩) hSS (Or.inl ⟨by rfl, fun w' hSw => yu_value ?_⟩) ?_
      rotate_left
      · ((try dsimp only at hSw); (try obtain ⟨_, _, _, _, _, _, _, _, _⟩ := hSw); go_simp; (try exact rfl))
      try simp only [Act.put, List.setIfInBounds_toArray, List.set_cons_zero, List.set_cons_succ]
      refine wpAnyU_pure (i := 11) (d := (some 49)) (v := ?_) rfl rfl (by kernel_rfl) (fun _ _ _ h => h) (fun _ _ h hu => ⟨(h.1).up hu, (h.2.1).up hu, (h.2.2.1).up hu, (h.2.2.2.1).up hu, (h.2.2.2.2.1).up hu, hu.cell (h.2.2.2.2.2.1), hu.cell (h.2.2.2.2.2.2.1), hu.cell (h.2.2.2.2.2.2.2.1), below_up (h.2.2.2.2.2.2.2.2) hu⟩) (Or.inl ⟨by rfl, fun w' _ => yu_value ?_⟩) ?_
      rotate_left
      · (go_simp; (try exact rfl))
      try simp only [Act.put, List.setIfInBounds_toArray, List.set_cons_zero, List.set_cons_succ]
      refine wpAnyU_pure (i := 12) (d := (some 50)) (v := ?_) rfl rfl (by kernel_rfl) (fun _ _ _ h => h) (fun _ _ h hu => ⟨(h.1).up hu, (h.2.1).up hu, (h.2.2.1).up hu, (h.2.2.2.1).up hu, (h.2.2.2.2.1).up hu, hu.cell (h.2.2.2.2.2.1), hu.cell (h.2.2.2.2.2.2.1), hu.cell (h.2.2.2.2.2.2.2.1), below_up (h.2.2.2.2.2.2.2.2) hu⟩) (Or.inl ⟨by rfl, fun w' _ => yu_value ?_⟩) ?_
      rotate_left
      · (go_simp; (try exact rfl))
      try simp only [Act.put, List.setIfInBounds_toArray, List.set_cons_zero, List.set_cons_succ]
      refine wpAnyU_pure (i := 13) (d := (some 51)) (v := ?_) rfl rfl (by kernel_rfl) (fun _ _ _ h => h) (fun _ _ h hu => ⟨(h.1).up hu, (h.2.1).up hu, (h.2.2.1).up hu, (h.2.2.2.1).up hu, (h.2.2.2.2.1).up hu, hu.cell (h.2.2.2.2.2.1), hu.cell (h.2.2.2.2.2.2.1), hu.cell (h.2.2.2.2.2.2.2.1), below_up (h.2.2.2.2.2.2.2.2) hu⟩) (Or.inl ⟨by rfl, fun w' _ => yu_value ?_⟩) ?_
      rotate_left
      · (go_simp; (try exact rfl))
      try simp only [Act.put, List.setIfInBounds_toArray, List.set_cons_zero, List.set_cons_succ]
      refine wpAnyU_take (i := 14) (d := (some 52)) (v := ?_) rfl rfl (by kernel_rfl) (fun _ _ _ h => h) (fun _ _ h hu => ⟨(h.1).up hu, (h.2.1).up hu, (h.2.2.1).up hu, (h.2.2.2.1).up hu, (h.2.2.2.2.1).up hu, hu.cell (h.2.2.2.2.2.1), hu.cell (h.2.2.2.2.2.2.1), hu.cell (h.2.2.2.2.2.2.2.1), below_up (h.2.2.2.2.2.2.2.2) hu⟩) hSS (Or.inl ⟨by rfl, fun w' hSw => yu_value ?_⟩) ?_
      rotate_left
      · ((try dsimp only at hSw); (try obtain ⟨_, _, _, _, _, _, _, _, _⟩ := hSw); go_simp; (try exact rfl))
      try simp only [Act.put, List.setIfInBounds_toArray, List.set_cons_zero, List.set_cons_succ]
      refine wpAnyU_take (i := 15) (d := (some 53)) (v := _) rfl rfl (by kernel_rfl) (fun _ _ _ h => h) (fun _ _ h hu => ⟨(h.1).up hu, (h.2.1).up hu, (h.2.2.1).up hu, (h.2.2.2.1).up hu, (h.2.2.2.2.1).up hu, hu.cell (h.2.2.2.2.2.1), hu.cell (h.2.2.2.2.2.2.1), hu.cell (h.2.2.2.2.2.2.2.1), below_up (h.2.2.2.2.2.2.2.2) hu⟩) hSS (Or.inl ⟨by rfl, fun w' hSw => yu_call ?_ (HG.out _)⟩) ?_
      · go_simp
      try simp only [Act.put, List.setIfInBounds_toArray, List.set_cons_zero, List.set_cons_succ]
      refine wpAnyU_pure (i := 16) (d := (some 13)) (v := ?_) rfl rfl (by kernel_rfl) (fun _ _ _ h => h) (fun _ _ h hu => ⟨(h.1).up hu, (h.2.1).up hu, (h.2.2.1).up hu, (h.2.2.2.1).up hu, (h.2.2.2.2.1).up hu, hu.cell (h.2.2.2.2.2.1), hu.cell (h.2.2.2.2.2.2.1), hu.cell (h.2.2.2.2.2.2.2.1), below_up (h.2.2.2.2.2.2.2.2) hu⟩) (Or.inl ⟨by rfl, fun w' _ => yu_value ?_⟩) ?_
      rotate_left
      · (go_simp; (try exact rfl))
      try simp only [Act.put, List.setIfInBounds_toArray, List.set_cons_zero, List.set_cons_succ]
      refine wpAnyU_done (by kernel_rfl) (fun wF huE => ?_) _
      have g3 := hS1.up huE
      have g4 := hS2.up huE
      have gp := hS3.up huE
      have gq := hS4.up huE
      have gT := hS5.up huE
      have gB := below_up hSB huE
      clear hS1 hS2 hS3 hS4 hS5 hS6 hS7 hS8 hSB hSS huE
      go_wp2_with fail
      refine wp_region_upS (S := (fun wq => Row wq (w.heap.size + 1 + 1) 27 16 (fun _ => 0) ∧ Row wq (w.heap.size + 1 + 1 + 1) 27 16 (fun _ => 0) ∧ Row wq p 76 17 S ∧ Row wq q 76 17 (limb P) ∧ Row wq t 27 16 T ∧ Below w.heap.size w wq)) (req := (fun j => j != 9)) (by kernel_rfl) (fun _ _ h hu => ⟨(h.1).up hu, (h.2.1).up hu, (h.2.2.1).up hu, (h.2.2.2.1).up hu, (h.2.2.2.2.1).up hu, below_up (h.2.2.2.2.2) hu⟩) ⟨(by (repeat (first | assumption | ((with_reducible apply row_newc); (focus (first | rfl | (simp; done)))) | ((with_reducible apply row_newz); (focus (first | rfl | (simp; done)))) | (with_reducible apply row_same) | ((with_reducible apply row_else); (focus (first | (simp; done) | (simp; omega) | omega))) | (with_reducible apply row_alloc) | (with_reducible apply row_drew) | (with_reducible apply row_drewN) | ((with_reducible apply row_up); assumption)))), (by (repeat (first | assumption | ((with_reducible apply row_newc); (focus (first | rfl | (simp; done)))) | ((with_reducible apply row_newz); (focus (first | rfl | (simp; done)))) | (with_reducible apply row_same) | ((with_reducible apply row_else); (focus (first | (simp; done) | (simp; omega) | omega))) | (with_reducible apply row_alloc) | (with_reducible apply row_drew) | (with_reducible apply row_drewN) | ((with_reducible apply row_up); assumption)))), (by (repeat (first | assumption | ((with_reducible apply row_newc); (focus (first | rfl | (simp; done)))) | ((with_reducible apply row_newz); (focus (first | rfl | (simp; done)))) | (with_reducible apply row_same) | ((with_reducible apply row_else); (focus (first | (simp; done) | (simp; omega) | omega))) | (with_reducible apply row_alloc) | (with_reducible apply row_drew) | (with_reducible apply row_drewN) | ((with_reducible apply row_up); assumption)))), (by (repeat (first | assumption | ((with_reducible apply row_newc); (focus (first | rfl | (simp; done)))) | ((with_reducible apply row_newz); (focus (first | rfl | (simp; done)))) | (with_reducible apply row_same) | ((with_reducible apply row_else); (focus (first | (simp; done) | (simp; omega) | omega))) | (with_reducible apply row_alloc) | (with_reducible apply row_drew) | (with_reducible apply row_drewN) | ((with_reducible apply row_up); assumption)))), (by (repeat (first | assumption | ((with_reducible apply row_newc); (focus (first | rfl | (simp; done)))) | ((with_reducible apply row_newz); (focus (first | rfl | (simp; done)))) | (with_reducible apply row_same) | ((with_reducible apply row_else); (focus (first | (simp; done) | (simp; omega) | omega))) | (with_reducible apply row_alloc) | (with_reducible apply row_drew) | (with_reducible apply row_drewN) | ((with_reducible apply row_up); assumption)))), (by repeat (first | assumption | (with_reducible apply Up.of) | (with_reducible exact Below.refl _ _) | (with_reducible exact Up.refl _) | ((with_reducible apply bl_setRow); (focus (first | exact Nat.le_refl _ | (simp; done) | (simp; omega) | omega))) | (with_reducible apply below_drewN) | (with_reducible apply Below.drew) | ((with_reducible apply bl_alloc); (focus (first | exact Nat.le_refl _ | (simp; done) | (simp; omega) | omega))) | ((with_reducible apply bl_setCell); (focus (first | exact Nat.le_refl _ | (simp; done) | (simp; omega) | omega))) | ((with_reducible apply up_tr); assumption)))⟩ (fun wS hSS => ?_)
      have ⟨hS1, hS2, hS3, hS4, hS5, hSB⟩ := hSS
      clear g3 g4 gp gq gT gB
      have sl1 := fun w' => slice_win (p := p) him w'
      have sl2 := fun w' => slice_low (q := q) (m := m) (by omega) w'
      refine wpAnyU_pure (i := 0) (d := (some 54)) (v := ?_) rfl rfl (by kernel_rfl) (fun _ _ _ h => h) (fun _ _ h hu => ⟨(h.1).up hu, (h.2.1).up hu, (h.2.2.1).up hu, (h.2.2.2.1).up hu, (h.2.2.2.2.1).up hu, below_up (h.2.2.2.2.2) hu⟩) (Or.inl ⟨by rfl, fun w' _ => yu_value ?_⟩) ?_
      rotate_left
      · (go_simp; (try exact rfl))
      try simp only [Act.put, List.setIfInBounds_toArray, List.set_cons_zero, List.set_cons_succ]
      refine wpAnyU_pure (i := 1) (d := (some 55)) (v := ?_) rfl rfl (by kernel_rfl) (fun _ _ _ h => h) (fun _ _ h hu => ⟨(h.1).up hu, (h.2.1).up hu, (h.2.2.1).up hu, (h.2.2.2.1).up hu, (h.2.2.2.2.1).up hu, below_up (h.2.2.2.2.2) hu⟩) (Or.inl ⟨by rfl, fun w' _ => yu_value ?_⟩) ?_
      rotate_left
      · (go_simp; (try exact rfl))
      try simp only [Act.put, List.setIfInBounds_toArray, List.set_cons_zero, List.set_cons_succ]
      refine wpAnyU_pure (i := 2) (d := (some 56)) (v := ?_) rfl rfl (by kernel_rfl) (fun _ _ _ h => h) (fun _ _ h hu => ⟨(h.1).up hu, (h.2.1).up hu, (h.2.2.1).up hu, (h.2.2.2.1).up hu, (h.2.2.2.2.1).up hu, below_up (h.2.2.2.2.2) hu⟩) (Or.inl ⟨by rfl, fun w' _ => yu_value ?_⟩) ?_
      rotate_left
      · (go_simp; (try exact rfl))
      try simp only [Act.put, List.setIfInBounds_toArray, List.set_cons_zero, List.set_cons_succ]
      refine wpAnyU_pure (i := 3) (d := (some 57)) (v := ?_) rfl rfl (by kernel_rfl) (fun _ _ _ h => h) (fun _ _ h hu => ⟨(h.1).up hu, (h.2.1).up hu, (h.2.2.1).up hu, (h.2.2.2.1).up hu, (h.2.2.2.2.1).up hu, below_up (h.2.2.2.2.2) hu⟩) (Or.inl ⟨by rfl, fun w' _ => yu_value ?_⟩) ?_
      rotate_left
      · (go_simp; (try exact rfl))
      try simp only [Act.put, List.setIfInBounds_toArray, List.set_cons_zero, List.set_cons_succ]
      refine wpAnyU_pure (i := 4) (d := (some 58)) (v := ?_) rfl rfl (by kernel_rfl) (fun _ _ _ h => h) (fun _ _ h hu => ⟨(h.1).up hu, (h.2.1).up hu, (h.2.2.1).up hu, (h.2.2.2.1).up hu, (h.2.2.2.2.1).up hu, below_up (h.2.2.2.2.2) hu⟩) (Or.inl ⟨by rfl, fun w' _ => yu_value ?_⟩) ?_
      rotate_left
      · (go_simp; (try exact rfl))
      try simp only [Act.put, List.setIfInBounds_toArray, List.set_cons_zero, List.set_cons_succ]
      refine wpAnyU_pure (i := 5) (d := (some 59)) (v := ?_) rfl rfl (by kernel_rfl) (fun _ _ _ h => h) (fun _ _ h hu => ⟨(h.1).up hu, (h.2.1).up hu, (h.2.2.1).up hu, (h.2.2.2.1).up hu, (h.2.2.2.2.1).up hu, below_up (h.2.2.2.2.2) hu⟩) (Or.inl ⟨by rfl, fun w' _ => yu_value ?_⟩) ?_
      rotate_left
      · (go_simp; (try exact rfl))
      try simp only [Act.put, List.setIfInBounds_toArray, List.set_cons_zero, List.set_cons_succ]
      refine wpAnyU_pure (i := 6) (d := (some 60)) (v := ?_) rfl rfl (by kernel_rfl) (fun _ _ _ h => h) (fun _ _ h hu => ⟨(h.1).up hu, (h.2.1).up hu, (h.2.2.1).up hu, (h.2.2.2.1).up hu, (h.2.2.2.2.1).up hu, below_up (h.2.2.2.2.2) hu⟩) (Or.inl ⟨by rfl, fun w' _ => yu_value ?_⟩) ?_
      rotate_left
      · (go_simp; (try exact rfl))
      try simp only [Act.put, List.setIfInBounds_toArray, List.set_cons_zero, List.set_cons_succ]
      refine wpAnyU_pure (i := 7) (d := (some 61)) (v := ?_) rfl rfl (by kernel_rfl) (fun _ _ _ h => h) (fun _ _ h hu => ⟨(h.1).up hu, (h.2.1).up hu, (h.2.2.1).up hu, (h.2.2.2.1).up hu, (h.2.2.2.2.1).up hu, below_up (h.2.2.2.2.2) hu⟩) (Or.inl ⟨by rfl, fun w' _ => yu_value ?_⟩) ?_
      rotate_left
      · (go_simp; (try exact rfl))
      try simp only [Act.put, List.setIfInBounds_toArray, List.set_cons_zero, List.set_cons_succ]
      refine wpAnyU_pure (i := 8) (d := (some 62)) (v := ?_) rfl rfl (by kernel_rfl) (fun _ _ _ h => h) (fun _ _ h hu => ⟨(h.1).up hu, (h.2.1).up hu, (h.2.2.1).up hu, (h.2.2.2.1).up hu, (h.2.2.2.2.1).up hu, below_up (h.2.2.2.2.2) hu⟩) (Or.inl ⟨by rfl, fun w' _ => yu_value ?_⟩) ?_
      rotate_left
      · (go_simp; (try exact rfl))
      try simp only [Act.put, List.setIfInBounds_toArray, List.set_cons_zero, List.set_cons_succ]
      refine wpAnyU_callN (i := 9) (d := some 63) (f := 70) (args := #[.slice (some ⟨p, i, none⟩) (m + 1) (17 - i), .slice (some ⟨q, 0, none⟩) m 17, .int .u64 (g : Nat)]) (R := fun w' v w'' => ∃ (S' : Nat → Nat) (b : Nat), v = .bool (decide (b ≠ 0)) ∧ b ≤ 1 ∧ sumL (fun j => S' (i + j)) (m + 1) + g * P = sumL (fun j => S (i + j)) (m + 1) + b * bp (m + 1) ∧ (∀ j, j < i ∨ i + m < j → S' j = S j) ∧ (∀ j, j < 17 → S' j < 18446744073709551616) ∧ Row w'' p 76 17 S' ∧ Near p w' w'') rfl rfl (by kernel_rfl) (by rfl) rfl (fun w' => by go_simp) (fun w' hw' => ?_) (fun w1 v w2 hw1 hR1 => ?_)
      · refine (take_off p i m q (17 - i) 17 g S (limb P) HS.out (fun j _ => limb_lt _ j) hpq him HGL.out w' (hS3.up hw') (hS4.up hw')).mono ?_
        rintro e w'' ⟨S', b, rfl, h1, h2, h3, h4, h5, h6⟩
        rw [HPm.out] at h2
        exact ⟨_, rfl, S', b, rfl, h1, h2, h3, h4, h5, h6⟩
      try simp only [Act.put, List.setIfInBounds_toArray, List.set_cons_zero, List.set_cons_succ]
      obtain ⟨S1, b, rfl, hb, he, ho, hl, gp, hN⟩ := hR1
      have He := hid he
      have Ho := hid ho
      have Hl := hid hl
      clear he ho hl
      refine wpAnyU_pure (i := 10) (d := (some 14)) (v := ?_) rfl rfl (by kernel_rfl) (fun _ _ _ h => h) (fun _ _ h hu => ⟨(h.1).up hu, (h.2.1).up hu, (h.2.2.1).up hu, (h.2.2.2.1).up hu, (h.2.2.2.2.1).up hu, below_up (h.2.2.2.2.2) hu⟩) (Or.inl ⟨by rfl, fun w' _ => yu_value ?_⟩) ?_
      rotate_left
      · (go_simp; (try exact rfl))
      try simp only [Act.put, List.setIfInBounds_toArray, List.set_cons_zero, List.set_cons_succ]
      refine wpAnyU_done (by kernel_rfl) (fun wF huE => ?_) _
      have l1 := (hSB.size : w.heap.size ≤ wS.heap.size)
      have l2 := hw1.size
      have g3 := (hN.row (show w.heap.size + 1 + 1 ≠ p by omega) (hS1.up hw1)).up huE
      have g4 := (hN.row (show w.heap.size + 1 + 1 + 1 ≠ p by omega) (hS2.up hw1)).up huE
      have gq := (hN.row (Ne.symm hpq) (hS4.up hw1)).up huE
      have gT := (hN.row (show t ≠ p by omega) (hS5.up hw1)).up huE
      have gB := below_up (hN.below (show w.heap.size ≤ p by omega) (below_up hSB hw1) (by omega)) huE
      replace gp := gp.up huE
      clear hS1 hS2 hS3 hS4 hS5 hSB hSS huE hw1 hN l1 l2
      obtain ⟨W, hW⟩ : ∃ W, sumL (fun j => S (i + j)) (m + 1) = W := ⟨_, rfl⟩
      have HW := hid hW
      have hq0 : W / P ≤ g := by
        have h1 := HR.out
        have h2 : m = m1 + 1 := HM.out
        have h3 : W < P * 18446744073709551616 := by
          have h4 : W * bp i ≤ sumL S 17 := by
            obtain ⟨d, hd⟩ : ∃ d, 17 = i + (m + 1) + d := ⟨17 - (i + (m + 1)), by omega⟩
            rw [hd, sumL_split, sumL_split, hW]
            omega
          rw [bp_succ] at h1
          have h5 : W * bp i < P * 18446744073709551616 * bp i := by
            have e : P * 18446744073709551616 * bp i = P * (bp i * 18446744073709551616) := by grind
            omega
          exact Nat.lt_of_mul_lt_mul_right h5
        have h6 := guess_ge (F := fun j => S (i + j)) (V := limb P) (m := m1) (P := P) (W := W) (fun j hj => HS.out _ (by omega)) (by show sumL (fun j => S (i + j)) (m1 + 1 + 1) = W; rw [← h2]; exact hW) (by rw [← h2]; exact HPm.out) HP0.out h3
        rw [← h2, Hg.out] at h6
        exact h6
      have he := He.out
      rw [hW] at he
      clear He
      have He := hid he
      have Hq0 := hid hq0
      clear hW he hq0
      go_wp2_with fail
      go_loopw [13, 14] (fun tg tv wr => ∃ (g b : Nat) (S1 : Nat → Nat), tg = .int .u64 (g : Nat) ∧ tv = .bool (!decide (b = 0)) ∧ b ≤ 1 ∧ g < 18446744073709551616 ∧ W / P ≤ g ∧ sumL (fun j => S1 (i + j)) (m + 1) + g * P = W + b * bp (m + 1) ∧ (∀ j, j < i ∨ i + m < j → S1 j = S j) ∧ (∀ j, j < 17 → S1 j < 18446744073709551616) ∧
          Row wr (w.heap.size + 1 + 1) 27 16 (fun _ => 0) ∧ Row wr (w.heap.size + 1 + 1 + 1) 27 16 (fun _ => 0) ∧ Row wr p 76 17 S1 ∧ Row wr q 76 17 (limb P) ∧ Row wr t 27 16 T ∧ Below w.heap.size w wr)
        (fun tg _ _ => (intOf tg).toNat)
      case atStart => exact ⟨g, b, S1, rfl, rfl, hb, HGL.out, Hq0.out, He.out, Ho.out, Hl.out, g3, g4, gp, gq, gT, gB⟩
      case round =>
        clear g3 g4 gp gq gT gB He Ho Hl Hq0 hb Hg HGL HG S1
        obtain ⟨g, b, S1, rfl, rfl, hb, hgl, hq0, he, ho, hl, g3, g4, gp, gq, gT, gB⟩ := hrel
        have He := hid he
        have Ho := hid ho
        have Hl := hid hl
        have Hq0 := hid hq0
        have Hgl := hid hgl
        clear he ho hl hq0 hgl
        rcases (show b = 0 ∨ b = 1 by omega) with rfl | rfl
        · have he := He.out
          rw [Nat.zero_mul, Nat.add_zero] at he
          obtain ⟨hlt, hgq⟩ := round_end he Hq0.out HP0.out
          have hR2 := HR.out
          have hR3 : sumL S 17 < bp (i + m + 1) := by
            have h1 := HP1.out
            have h2 : P * bp (i + 1) ≤ bp m * bp (i + 1) := Nat.mul_le_mul_right _ (Nat.le_of_lt h1)
            rw [← bp_add, show m + (i + 1) = i + m + 1 by omega] at h2
            omega
          obtain ⟨hX1, hX3⟩ := long_step him (by omega) HS.out HX.out (HT0.out i (by omega)) hR3 HW.out rfl Ho.out he hlt
          have HX1 := hid hX1
          have HX3 := hid hX3
          have e7 : IntKind.i64.wrap ((i : Int) - 1) = (i : Int) - 1 := IntWalk.i64_in _ (by omega)
          have hi16 : (i : Int) < 16 := by omega
          have hct := gT.cell i (by omega)
          have hft := gT.frozen i
          have gT1 := gT.set i g
          have lt1 := lt.1
          have gp1 := gp.other ⟨t, i, none⟩ (.int .u64 (g : Nat)) (show p ≠ t by omega)
          have gq1 := gq.other ⟨t, i, none⟩ (.int .u64 (g : Nat)) (show q ≠ t by omega)
          have g31 := g3.other ⟨t, i, none⟩ (.int .u64 (g : Nat)) (show w.heap.size + 1 + 1 ≠ t by omega)
          have g41 := g4.other ⟨t, i, none⟩ (.int .u64 (g : Nat)) (show w.heap.size + 1 + 1 + 1 ≠ t by omega)
          have gB1 := gB.setCell (p := ⟨t, i, none⟩) (show w.heap.size ≤ t by omega) (.int .u64 (g : Nat))
          clear he hlt hgq hR2 hR3 hX1 hX3 g3 g4 gp gq gT gB
          go_wp2_with fail
          go_roundw
          case rel => exact ⟨i, S1, upd T i g, by omega, rfl, Hl.out, upd_lt HT.out Hgl.out, fun j hj => by rw [upd_other _ _ _ (by omega)]; exact HT0.out j (by omega), HX1.out, HX3.out, g31, g41, gp1, gq1, gT1, gB1⟩
          case measure => simp [intOf] <;> omega
        · have he := He.out
          rw [Nat.one_mul] at he
          have hW1 := sumL_lt (f := fun j => S1 (i + j)) (k := m + 1) fun j hj => Hl.out _ (by omega)
          obtain ⟨hg1, hq1⟩ := round_more he hW1 HP0.out
          obtain ⟨G, hG⟩ : ∃ G, g - 1 = G := ⟨_, rfl⟩
          rw [hG] at hq1
          have HGg := hid hG
          have HGq := hid hq1
          have HG1 := hid hg1
          have hgl := Hgl.out
          have eg : IntKind.u64.wrap ((g : Int) - 1) = (G : Nat) := by rw [IntKind.wrap_u64]; omega
          clear he hW1 hg1 hq1 hG hgl
          go_wp2_with fail
          refine wp_region_upS (S := (fun wq => Row wq (w.heap.size + 1 + 1) 27 16 (fun _ => 0) ∧ Row wq (w.heap.size + 1 + 1 + 1) 27 16 (fun _ => 0) ∧ Row wq p 76 17 S1 ∧ Row wq q 76 17 (limb P) ∧ Row wq t 27 16 T ∧ Below w.heap.size w wq)) (req := (fun j => j != 8)) (by kernel_rfl) (fun _ _ h hu => ⟨(h.1).up hu, (h.2.1).up hu, (h.2.2.1).up hu, (h.2.2.2.1).up hu, (h.2.2.2.2.1).up hu, below_up (h.2.2.2.2.2) hu⟩) ⟨(by (repeat (first | assumption | ((with_reducible apply row_newc); (focus (first | rfl | (simp; done)))) | ((with_reducible apply row_newz); (focus (first | rfl | (simp; done)))) | (with_reducible apply row_same) | ((with_reducible apply row_else); (focus (first | (simp; done) | (simp; omega) | omega))) | (with_reducible apply row_alloc) | (with_reducible apply row_drew) | (with_reducible apply row_drewN) | ((with_reducible apply row_up); assumption)))), (by (repeat (first | assumption | ((with_reducible apply row_newc); (focus (first | rfl | (simp; done)))) | ((with_reducible apply row_newz); (focus (first | rfl | (simp; done)))) | (with_reducible apply row_same) | ((with_reducible apply row_else); (focus (first | (simp; done) | (simp; omega) | omega))) | (with_reducible apply row_alloc) | (with_reducible apply row_drew) | (with_reducible apply row_drewN) | ((with_reducible apply row_up); assumption)))), (by (repeat (first | assumption | ((with_reducible apply row_newc); (focus (first | rfl | (simp; done)))) | ((with_reducible apply row_newz); (focus (first | rfl | (simp; done)))) | (with_reducible apply row_same) | ((with_reducible apply row_else); (focus (first | (simp; done) | (simp; omega) | omega))) | (with_reducible apply row_alloc) | (with_reducible apply row_drew) | (with_reducible apply row_drewN) | ((with_reducible apply row_up); assumption)))), (by (repeat (first | assumption | ((with_reducible apply row_newc); (focus (first | rfl | (simp; done)))) | ((with_reducible apply row_newz); (focus (first | rfl | (simp; done)))) | (with_reducible apply row_same) | ((with_reducible apply row_else); (focus (first | (simp; done) | (simp; omega) | omega))) | (with_reducible apply row_alloc) | (with_reducible apply row_drew) | (with_reducible apply row_drewN) | ((with_reducible apply row_up); assumption)))), (by (repeat (first | assumption | ((with_reducible apply row_newc); (focus (first | rfl | (simp; done)))) | ((with_reducible apply row_newz); (focus (first | rfl | (simp; done)))) | (with_reducible apply row_same) | ((with_reducible apply row_else); (focus (first | (simp; done) | (simp; omega) | omega))) | (with_reducible apply row_alloc) | (with_reducible apply row_drew) | (with_reducible apply row_drewN) | ((with_reducible apply row_up); assumption)))), (by repeat (first | assumption | (with_reducible apply Up.of) | (with_reducible exact Below.refl _ _) | (with_reducible exact Up.refl _) | ((with_reducible apply bl_setRow); (focus (first | exact Nat.le_refl _ | (simp; done) | (simp; omega) | omega))) | (with_reducible apply below_drewN) | (with_reducible apply Below.drew) | ((with_reducible apply bl_alloc); (focus (first | exact Nat.le_refl _ | (simp; done) | (simp; omega) | omega))) | ((with_reducible apply bl_setCell); (focus (first | exact Nat.le_refl _ | (simp; done) | (simp; omega) | omega))) | ((with_reducible apply up_tr); assumption)))⟩ (fun wS hSS => ?_)
          have ⟨hS1, hS2, hS3, hS4, hS5, hSB⟩ := hSS
          clear g3 g4 gp gq gT gB
          refine wpAnyU_pure (i := 0) (d := (some 67)) (v := ?_) rfl rfl (by kernel_rfl) (fun _ _ _ h => h) (fun _ _ h hu => ⟨(h.1).up hu, (h.2.1).up hu, (h.2.2.1).up hu, (h.2.2.2.1).up hu, (h.2.2.2.2.1).up hu, below_up (h.2.2.2.2.2) hu⟩) (Or.inl ⟨by rfl, fun w' _ => yu_value ?_⟩) ?_
          rotate_left
          · (go_simp; (try exact rfl))
          try simp only [Act.put, List.setIfInBounds_toArray, List.set_cons_zero, List.set_cons_succ]
          refine wpAnyU_pure (i := 1) (d := (some 68)) (v := ?_) rfl rfl (by kernel_rfl) (fun _ _ _ h => h) (fun _ _ h hu => ⟨(h.1).up hu, (h.2.1).up hu, (h.2.2.1).up hu, (h.2.2.2.1).up hu, (h.2.2.2.2.1).up hu, below_up (h.2.2.2.2.2) hu⟩) (Or.inl ⟨by rfl, fun w' _ => yu_value ?_⟩) ?_
          rotate_left
          · (go_simp; (try exact rfl))
          try simp only [Act.put, List.setIfInBounds_toArray, List.set_cons_zero, List.set_cons_succ]
          refine wpAnyU_pure (i := 2) (d := (some 69)) (v := ?_) rfl rfl (by kernel_rfl) (fun _ _ _ h => h) (fun _ _ h hu => ⟨(h.1).up hu, (h.2.1).up hu, (h.2.2.1).up hu, (h.2.2.2.1).up hu, (h.2.2.2.2.1).up hu, below_up (h.2.2.2.2.2) hu⟩) (Or.inl ⟨by rfl, fun w' _ => yu_value ?_⟩) ?_
          rotate_left
          · (go_simp; (try exact rfl))
          try simp only [Act.put, List.setIfInBounds_toArray, List.set_cons_zero, List.set_cons_succ]
          refine wpAnyU_pure (i := 3) (d := (some 70)) (v := ?_) rfl rfl (by kernel_rfl) (fun _ _ _ h => h) (fun _ _ h hu => ⟨(h.1).up hu, (h.2.1).up hu, (h.2.2.1).up hu, (h.2.2.2.1).up hu, (h.2.2.2.2.1).up hu, below_up (h.2.2.2.2.2) hu⟩) (Or.inl ⟨by rfl, fun w' _ => yu_value ?_⟩) ?_
          rotate_left
          · (go_simp; (try exact rfl))
          try simp only [Act.put, List.setIfInBounds_toArray, List.set_cons_zero, List.set_cons_succ]
          refine wpAnyU_pure (i := 4) (d := (some 71)) (v := ?_) rfl rfl (by kernel_rfl) (fun _ _ _ h => h) (fun _ _ h hu => ⟨(h.1).up hu, (h.2.1).up hu, (h.2.2.1).up hu, (h.2.2.2.1).up hu, (h.2.2.2.2.1).up hu, below_up (h.2.2.2.2.2) hu⟩) (Or.inl ⟨by rfl, fun w' _ => yu_value ?_⟩) ?_
          rotate_left
          · (go_simp; (try exact rfl))
          try simp only [Act.put, List.setIfInBounds_toArray, List.set_cons_zero, List.set_cons_succ]
          refine wpAnyU_pure (i := 5) (d := (some 72)) (v := ?_) rfl rfl (by kernel_rfl) (fun _ _ _ h => h) (fun _ _ h hu => ⟨(h.1).up hu, (h.2.1).up hu, (h.2.2.1).up hu, (h.2.2.2.1).up hu, (h.2.2.2.2.1).up hu, below_up (h.2.2.2.2.2) hu⟩) (Or.inl ⟨by rfl, fun w' _ => yu_value ?_⟩) ?_
          rotate_left
          · (go_simp; (try exact rfl))
          try simp only [Act.put, List.setIfInBounds_toArray, List.set_cons_zero, List.set_cons_succ]
          refine wpAnyU_pure (i := 6) (d := (some 73)) (v := ?_) rfl rfl (by kernel_rfl) (fun _ _ _ h => h) (fun _ _ h hu => ⟨(h.1).up hu, (h.2.1).up hu, (h.2.2.1).up hu, (h.2.2.2.1).up hu, (h.2.2.2.2.1).up hu, below_up (h.2.2.2.2.2) hu⟩) (Or.inl ⟨by rfl, fun w' _ => yu_value ?_⟩) ?_
          rotate_left
          · (go_simp; (try exact rfl))
          try simp only [Act.put, List.setIfInBounds_toArray, List.set_cons_zero, List.set_cons_succ]
          refine wpAnyU_pure (i := 7) (d := (some 74)) (v := ?_) rfl rfl (by kernel_rfl) (fun _ _ _ h => h) (fun _ _ h hu => ⟨(h.1).up hu, (h.2.1).up hu, (h.2.2.1).up hu, (h.2.2.2.1).up hu, (h.2.2.2.2.1).up hu, below_up (h.2.2.2.2.2) hu⟩) (Or.inl ⟨by rfl, fun w' _ => yu_value ?_⟩) ?_
          rotate_left
          · (go_simp; (try exact rfl))
          try simp only [Act.put, List.setIfInBounds_toArray, List.set_cons_zero, List.set_cons_succ]
          refine wpAnyU_callN (i := 8) (d := some 75) (f := 71) (args := #[.slice (some ⟨p, i, none⟩) (m + 1) (17 - i), .slice (some ⟨q, 0, none⟩) m 17]) (R := fun w' v w'' => ∃ (S' : Nat → Nat) (b : Nat), v = .bool (decide (b ≠ 0)) ∧ b ≤ 1 ∧ sumL (fun j => S' (i + j)) (m + 1) + b * bp (m + 1) = sumL (fun j => S1 (i + j)) (m + 1) + P ∧ (∀ j, j < i ∨ i + m < j → S' j = S1 j) ∧ (∀ j, j < 17 → S' j < 18446744073709551616) ∧ Row w'' p 76 17 S' ∧ Near p w' w'') rfl rfl (by kernel_rfl) (by rfl) rfl (fun w' => by go_simp) (fun w' hw' => ?_) (fun w1 v w2 hw1 hR1 => ?_)
          · refine (put_back p i m q (17 - i) 17 S1 (limb P) Hl.out (fun j _ => limb_lt _ j) hpq him w' (hS3.up hw') (hS4.up hw')).mono ?_
            rintro e w'' ⟨S', b, rfl, h1, h2, h3, h4, h5, h6⟩
            rw [HPm.out] at h2
            exact ⟨_, rfl, S', b, rfl, h1, h2, h3, h4, h5, h6⟩
          try simp only [Act.put, List.setIfInBounds_toArray, List.set_cons_zero, List.set_cons_succ]
          obtain ⟨S2, b', rfl, hb', he2, ho2, hl2, gp, hN⟩ := hR1
          have Hn2 := hid (round_next (b := b') (by have := He.out; rw [Nat.one_mul] at this; exact this) he2 HG1.out hb')
          have Ho2 := hid ho2
          have Hl2 := hid hl2
          clear he2 ho2 hl2
          rcases (show b' = 0 ∨ b' = 1 by omega) with rfl | rfl
          · skip
            refine wpAnyU_pure (i := 9) (d := (some 76)) (v := ?_) rfl rfl (by kernel_rfl) (fun _ _ _ h => h) (fun _ _ h hu => ⟨(h.1).up hu, (h.2.1).up hu, (h.2.2.1).up hu, (h.2.2.2.1).up hu, (h.2.2.2.2.1).up hu, below_up (h.2.2.2.2.2) hu⟩) (Or.inl ⟨by rfl, fun w' _ => yu_value ?_⟩) ?_
            rotate_left
            · (go_simp; (try exact rfl))
            try simp only [Act.put, List.setIfInBounds_toArray, List.set_cons_zero, List.set_cons_succ]
            refine wpAnyU_pure (i := 10) (d := (some 14)) (v := ?_) rfl rfl (by kernel_rfl) (fun _ _ _ h => h) (fun _ _ h hu => ⟨(h.1).up hu, (h.2.1).up hu, (h.2.2.1).up hu, (h.2.2.2.1).up hu, (h.2.2.2.2.1).up hu, below_up (h.2.2.2.2.2) hu⟩) (Or.inl ⟨by rfl, fun w' _ => yu_value ?_⟩) ?_
            rotate_left
            · (go_simp; (try exact rfl))
            try simp only [Act.put, List.setIfInBounds_toArray, List.set_cons_zero, List.set_cons_succ]
            refine wpAnyU_done (by kernel_rfl) (fun wF huE => ?_) _
            have l1 := (hSB.size : w.heap.size ≤ wS.heap.size)
            have l2 := hw1.size
            have g3 := (hN.row (show w.heap.size + 1 + 1 ≠ p by omega) (hS1.up hw1)).up huE
            have g4 := (hN.row (show w.heap.size + 1 + 1 + 1 ≠ p by omega) (hS2.up hw1)).up huE
            have gq := (hN.row (Ne.symm hpq) (hS4.up hw1)).up huE
            have gT := (hN.row (show t ≠ p by omega) (hS5.up hw1)).up huE
            have gB := below_up (hN.below (show w.heap.size ≤ p by omega) (below_up hSB hw1) (by omega)) huE
            replace gp := gp.up huE
            clear hS1 hS2 hS3 hS4 hS5 hSB hSS huE hw1 hN l1 l2 hb'
            go_wp2_with fail
            go_roundw
            case rel =>
              have h1 := Hn2.out
              rw [HGg.out] at h1
              exact ⟨G, 1, S2, rfl, rfl, by omega, by have := Hgl.out; have := HGg.out; omega, HGq.out, h1, fun j hj => (Ho2.out j hj).trans (Ho.out j hj), Hl2.out, g3, g4, gp, gq, gT, gB⟩
            case measure => have := HGg.out; have := HG1.out; simp [intOf] <;> omega
          · skip
            refine wpAnyU_pure (i := 9) (d := (some 76)) (v := ?_) rfl rfl (by kernel_rfl) (fun _ _ _ h => h) (fun _ _ h hu => ⟨(h.1).up hu, (h.2.1).up hu, (h.2.2.1).up hu, (h.2.2.2.1).up hu, (h.2.2.2.2.1).up hu, below_up (h.2.2.2.2.2) hu⟩) (Or.inl ⟨by rfl, fun w' _ => yu_value ?_⟩) ?_
            rotate_left
            · (go_simp; (try exact rfl))
            try simp only [Act.put, List.setIfInBounds_toArray, List.set_cons_zero, List.set_cons_succ]
            refine wpAnyU_pure (i := 10) (d := (some 14)) (v := ?_) rfl rfl (by kernel_rfl) (fun _ _ _ h => h) (fun _ _ h hu => ⟨(h.1).up hu, (h.2.1).up hu, (h.2.2.1).up hu, (h.2.2.2.1).up hu, (h.2.2.2.2.1).up hu, below_up (h.2.2.2.2.2) hu⟩) (Or.inl ⟨by rfl, fun w' _ => yu_value ?_⟩) ?_
            rotate_left
            · (go_simp; (try exact rfl))
            try simp only [Act.put, List.setIfInBounds_toArray, List.set_cons_zero, List.set_cons_succ]
            refine wpAnyU_done (by kernel_rfl) (fun wF huE => ?_) _
            have l1 := (hSB.size : w.heap.size ≤ wS.heap.size)
            have l2 := hw1.size
            have g3 := (hN.row (show w.heap.size + 1 + 1 ≠ p by omega) (hS1.up hw1)).up huE
            have g4 := (hN.row (show w.heap.size + 1 + 1 + 1 ≠ p by omega) (hS2.up hw1)).up huE
            have gq := (hN.row (Ne.symm hpq) (hS4.up hw1)).up huE
            have gT := (hN.row (show t ≠ p by omega) (hS5.up hw1)).up huE
            have gB := below_up (hN.below (show w.heap.size ≤ p by omega) (below_up hSB hw1) (by omega)) huE
            replace gp := gp.up huE
            clear hS1 hS2 hS3 hS4 hS5 hSB hSS huE hw1 hN l1 l2 hb'
            go_wp2_with fail
            go_roundw
            case rel =>
              have h1 := Hn2.out
              rw [HGg.out] at h1
              exact ⟨G, 0, S2, rfl, rfl, by omega, by have := Hgl.out; have := HGg.out; omega, HGq.out, h1, fun j hj => (Ho2.out j hj).trans (Ho.out j hj), Hl2.out, g3, g4, gp, gq, gT, gB⟩
            case measure => have := HGg.out; have := HG1.out; simp [intOf] <;> omega
end Go.Proofs.Ytlkolfnklbldcaa
